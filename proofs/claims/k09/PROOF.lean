import PyProof.Rows.All
import Wide.All
import OpenK.AllK
import Wide.FinOn
import HandS.ForMost
import HandS.IsInst
import HandS.FStr
import HandS.ExcInit
import HandS.ExcIs
import HandS.MakeKw
import KE.KExcIs
import HandS.Conv
import HandS.Walk
import HandS.Flow
import PySem.Challenge.RW_lastingrun_k09_errors_and_limits
set_option Elab.async false
set_option linter.all false
set_option maxRecDepth 100000
set_option maxHeartbeats 4000000
/-! Defs whose run shows data by repr: as FnOk, but around them no repr is under way. -/
namespace JB
open PySem PySem.Spec PyProof.Rows L2
/-- nothing is being shown around -/
abbrev Still (A : Around) : Prop := A.guards = some []
structure FnG (P : Program) (w : World) (K : PySem.W.Frag) (mg : Str → Option Value)
    (base : Heap) (CX : CXT) (k : Nat) (f : Addr) (fd : FuncData) (ps : List Str) (sp : Sp) : Prop where
  many : ∀ a h q e, sp a h q e → a.length = ps.length
  goes : ∀ (A : Around) (outer : List Env) (s : Shared) (H : Hp) (args : Args)
    (us : List Value) (vs : List V) (Q : VK) (E : XK), Still A → Room k A →
    Env0 P w K mg base A outer s H → BindsTo s fd args (ps.zip us) → Vals vs us →
    sp vs H Q E → codeAny (model P w) A (.call (.ref f) args) (CR CX outer P w H s Q E) s
section
variable {P : Program} {w : World} {K : PySem.W.Frag} {mg : Str → Option Value} {base : Heap}
variable {CX : CXT} {j k : Nat} {f : Addr} {fd : FuncData} {ps : List Str} {sp : Sp}
theorem FnG.of (F : FnOk P w K mg base CX k f fd ps sp) : FnG P w K mg base CX k f fd ps sp :=
  ⟨F.len, fun A o s H a us vs Q E _ r e b v h => F.run A o s H a us vs Q E r e b v h⟩
theorem FnG.up (F : FnG P w K mg base CX j f fd ps sp) (h : j ≤ k) : FnG P w K mg base CX k f fd ps sp :=
  ⟨F.many, fun A o s H a us vs Q E g r => F.goes A o s H a us vs Q E g (r.mono h)⟩
theorem FnG.less {sp' : Sp} (F : FnG P w K mg base CX k f fd ps sp)
    (h : ∀ a b c d, sp' a b c d → sp a b c d) : FnG P w K mg base CX k f fd ps sp' :=
  ⟨fun a b c d q => F.many a b c d (h _ _ _ _ q), fun A o s H a us vs Q E g r e b v z =>
    F.goes A o s H a us vs Q E g r e b v (h _ _ _ _ z)⟩
end
theorem still_make {A : Around} {C : Addr} {us : List Value} {kw : List (Str × Value)} (h : Still A) :
    Still (A.under (.builtin "type.__call__" ⟨.ref C :: us, kw⟩)) := by
  first
    | exact h
    | (simpa [Still, Around.under, Code.guards, Code.isGuard, pushGuards, guardIds] using h)
section
variable {X : Cx} {CX : CXT} {k : Nat} {f C : Addr} {fd : FuncData} {ps : List Str} {sp : Sp}
variable {dvs : List V} {ds : List Value} {E : XK} {x m : Str} {p pos apos : Pos} {e o : Expr} {es : List Expr} {ta : TE} {t : TA}
theorem run_g {pins : List (Addr × Obj)} {σ : L2.St} {H : Hp} {s : Shared} {Q : VK} {us : List Value}
    {vs : List V} (hs : Still X.A) (F : FnG X.prog X.w X.K X.mg X.base CX k f fd ps sp)
    (hr : Room k X.A) (hb : Binds X.K fd ps ds) (hd : Vals dvs ds) (hx : Passes CX X E)
    (I : Inv X pins σ H s) (r : Vals vs us) (h : sp (vs ++ dvs) H Q E) :
    wpAny (model X.prog X.w) X.A (call (.ref f) us) (EP X pins σ Q) X.xe s := by
  have rr := r.append hd
  have hl : (us ++ ds).length = ps.length := by
    rw [← rr.length]; exact F.many _ _ _ _ h
  refine wpAny_call (codeAny_mono (F.goes X.A X.stack s H ⟨us, []⟩ (us ++ ds) (vs ++ dvs) Q E hs hr
    I.env0 (hb s us I.kIn hl) rr h) fun z s' hq => ?_)
  cases z with
  | error er => exact hx pins σ H s er s' I hq
  | ok fl => cases fl <;> first | exact I.after hq | exact False.elim hq
/-- f(e, ..) -/
theorem pe_callG (hs : Still X.A) (F : FnG X.prog X.w X.K X.mg X.base CX k f fd ps sp)
    (hr : Room k X.A) (hg : Gl X x) (hm : X.mg x = some (.ref f))
    (hk : PySem.W.keepIn X.K (.ref f) = true) (hb : Binds X.K fd ps ds) (hd : Vals dvs ds)
    (hx : Passes CX X E) (ha : PA X (e :: es) t)
    (hdb : (x == ("__debug__" : Str)) = false := by decide)
    (he : starEach (e :: es) X.env = (false, eval e X.env) :: starEach es X.env := by rfl)
    (hpl : (backTo pos (starEach es X.env)).any (·.1) = false := by rfl) :
    PE X (.Call (.Name x p) (e :: es) [] pos) (tCall sp dvs E t) :=
  ⟨fun pins s σ H Q I h => wpAny_Call_Name_kw (ld_glob I hg hm (PySem.W.callWith_K (h₀ := X.base)
    I.ok.mod.kin hk (thn (ha.run pos pins s σ H _ I h) fun us s1 ⟨vs, H1, I1, r, q⟩ =>
      ⟨I1.kIn, run_g hs F hr hb hd hx I1 r q⟩) he hpl) hdb)⟩
end
/-- a def by its body, around which nothing is shown -/
theorem fn_g {CX : CXT} {P : Program} {w : World} {K : PySem.W.Frag} {mg : Str → Option Value}
    {base : Heap} {k : Nat} {f : Addr} {name qual : Str} {params : Arguments} {body : List Stmt}
    {scope : Scope} {dV kV doc pm cdv ct oc : Value} {an od : Option Addr}
    {osl : Array (Option Value)} {N ps : List Str} {sp : Sp}
    (lk : K.lookup f = some ⟨oc, od, .func (PySem.W.fnOf name qual params body scope dV kV doc pm an cdv ct), osl⟩)
    (hcd : PySem.W.codeIn K cdv qual = true) (S : FnScope N ps scope)
    (many : ∀ a h q e, sp a h q e → a.length = ps.length)
    (hbody : ∀ (A : Around) (outer : List Env) (s : Shared) (H : Hp) (vs : List V) (Q : VK) (E : XK),
      Still (A.deeper (envOfC qual scope s.heap.objs.size f cdv)) →
      Room k (A.deeper (envOfC qual scope s.heap.objs.size f cdv)) → sp vs H Q E →
      ∃ t, PSs (cxOf CX P w K mg base N qual scope f cdv A outer s H E) body t ∧
        t { nx := fun _ H' => Q .non H', rt := Q } (start N vs) H) :
    FnG P w K mg base CX (k + 1) f (PySem.W.fnOf name qual params body scope dV kV doc pm an cdv ct) ps sp := by
  refine ⟨many, fun A outer s H args us vs Q E hst hr e0 hb r hsp => ?_⟩
  have hl := many _ _ _ _ hsp
  have KX : K.In s.heap := e0.mod.kin.keeps fun b o e => (e0.bs b o e).1
  have lim : s.heap.NoLimit := e0.mod.nolimit.keeps fun b o e => (e0.bs b o e).1
  have hkind : ∀ y ∈ ps.zip us, scope.names.lookup y.1 = some .local ∨ (scope.names.lookup y.1 = some .cell ∧
      ((cellsFrom (s.heap.objs.size + 1) scope.names []).lookup y.1).isSome = true) := by
    rintro ⟨n, v⟩ hy
    rcases S.par n (List.of_mem_zip hy).1 with q | q
    · exact .inl q
    · exact .inr ⟨q, PySem.W.cellsFrom_some _ _ _ (.inl q)⟩
  refine codeAny_call_function hr.depth (KX _ _ lk) rfl S.co S.gen rfl
    (PySem.W.codeRec_of KX hcd) (hb _ _ _ _ ?_)
  refine wpAny_newFunctionEnv_cells S.kind hkind fun env he s1 x => ?_
  subst he
  refine ⟨lim.keeps x.toInCall.keep, codeAny_func ?_⟩
  obtain ⟨t, ht, hq⟩ := hbody A outer s H vs Q E hst (hr.deeper _) hsp
  have I : Inv (cxOf CX P w K mg base N qual scope f cdv A outer s H E) [] (start N vs) H s1 :=
    inv_start S hr.hd e0 hl r x
  refine wpAny_mono (ht.run [] s1 (start N vs) H _ I hq) (fun fl s' hs => ?_) fun e s' hs => hs
  have fin : ∀ {σ' : L2.St} {H' : Hp} {v : V} {u : Value},
      Inv (cxOf CX P w K mg base N qual scope f cdv A outer s H E) [] σ' H' s' → RelV v u →
      Q v H' → CE outer P w H s Q u s' :=
    fun {σ' H' v u} J rv q => ⟨v, H', J.os, J.bare, J.base, J.hok, rv, q⟩
  cases fl with
  | ret u => obtain ⟨v, σ', H', J, rv, q⟩ := hs; exact fin J rv q
  | next => obtain ⟨σ', H', J, q⟩ := hs; exact fin (v := V.non) (u := Value.none) J rfl q
  | brk => obtain ⟨_, _, _, q⟩ := hs; exact False.elim q
  | cont => obtain ⟨_, _, _, q⟩ := hs; exact False.elim q
theorem Fun_okG {P : Program} {w : World} {K : PySem.W.Frag} {mg : Str → Option Value} {base : Heap}
    {x qual : Str} {st : Stmt} {f : Addr} {fd : FuncData} {N ps : List Str} {k : Nat} {sp : Sp}
    (F : Fun K x qual st f fd) (S : FnScope N ps (defScope st))
    (many : ∀ a h q e, sp a h q e → a.length = ps.length)
    (hbody : ∀ (cdv : Value) (A : Around) (outer : List Env) (s : Shared) (H : Hp) (vs : List V) (Q : VK) (E : XK),
      Still (A.deeper (envOfC qual (defScope st) s.heap.objs.size f cdv)) →
      Room k (A.deeper (envOfC qual (defScope st) s.heap.objs.size f cdv)) → sp vs H Q E →
      ∃ t, PSs (cxOf CX0 P w K mg base N qual (defScope st) f cdv A outer s H E).nox (defBody st) t ∧
        t { nx := fun _ H' => Q .non H', rt := Q } (start N vs) H) :
    FnG P w K mg base CX0 (k + 1) f fd ps sp := by
  obtain ⟨oc, od, kV, doc, pm, an, cdv, ct, osl, rfl, lk, hcd⟩ := F.ex
  refine fn_g lk hcd S many fun A outer s H vs Q E hst hr hsp => ?_
  obtain ⟨t, h, q⟩ := hbody cdv A outer s H vs Q E hst hr hsp
  exact ⟨t, h.nox, q⟩
end JB

set_option Elab.async false
set_option linter.all false
set_option maxRecDepth 100000
set_option maxHeartbeats 4000000
/-! The law's own head, for a law that shows data by repr. -/
namespace JB
open PySem PySem.Spec PyProof.Rows L2
theorem law_callG {P : Program} {w : World} {K : PySem.W.Frag} {mg mb : Str → Option Value} {CX : CXT}
    {k : Nat} {fa a : Addr} {fd : FuncData} {x : Str} {sp : Sp} {s₁ : Shared} {vs : List Value} {ns : List Int}
    (KX : K.In s₁.heap) (hns : s₁.heap.Ns mainGlobals mg) (hb : s₁.heap.Ns builtinsNs mb)
    (hbb : ∀ x : Str, x ≠ "__name__" → mb x = bootBuiltins x) (hlim : s₁.heap.NoLimit)
    (hg : s₁.gens = #[]) (ha : s₁.heap.get? a = some { cls := .type "list", data := .seq vs.toArray })
    (hi : IntsAre vs ns) (hl : ns.length ≤ sizeLine) (hr : Room k callerA)
    (F : ∀ base : Heap, K.In base → base.Ns mainGlobals mg → FnG P w K mg base CX k fa fd [x] sp)
    (hbind : ∀ (s : Shared) (u : Value), BindsTo s fd ⟨[u], []⟩ [(x, u)])
    (hsp : ∀ H : Hp, Only H → SqL K H a (ns.map V.int) →
      sp [.ref a] H (fun v _ => v = .bl true) fun _ _ _ => False)
    (hCX : ∀ H e s', CX [] H s₁ (fun _ _ _ => False) e s' → False) :
    codeAny (model P w) callerA (.call (.ref fa) ⟨[.ref a], []⟩)
      (fun r s' => r = .ok (.ret (.bool true)) ∧ OldK s₁.heap s'.heap ∧ s'.os = s₁.os ∧ AllBare s'.gens) s₁ := by
  have rv := vals_ints hi
  have lenV := hi.length
  have core : ∀ H : Hp, Only H → SqL K H a (ns.map V.int) → HOk P w H s₁.heap →
      (∀ b, H b ≠ none → b = a) → (H a ≠ none → K.lookup a = none) →
      codeAny (model P w) callerA (.call (.ref fa) ⟨[.ref a], []⟩)
        (fun r s' => r = .ok (.ret (.bool true)) ∧ OldK s₁.heap s'.heap ∧ s'.os = s₁.os ∧ AllBare s'.gens) s₁ := by
    intro H hO hS hok hA hK
    have base_of : ∀ {b : Addr} {o : Obj}, s₁.heap.get? b = some o → H b = none →
        (hidT s₁.heap H).get? b = some o := fun e n => hidT_get e n
    have noA : ∀ {b : Addr} {o : Obj} {es : Array DictEntry} {ep : Nat},
        s₁.heap.get? b = some o → o.data = .dict es ep → H b = none := by
      intro b o es ep e d
      cases q : H b with
      | none => rfl
      | some u =>
        obtain rfl : b = a := hA b (by rw [q]; simp)
        rw [ha] at e
        cases e
        exact absurd (show Data.seq vs.toArray _ = Data.dict es ep from d) (fun z => by cases z)
    have nsK : ∀ {b : Addr} {m : Str → Option Value}, s₁.heap.Ns b m → (hidT s₁.heap H).Ns b m := by
      rintro b m ⟨o, es, ep, e, d, r⟩
      exact ⟨o, es, ep, base_of e (noA e d), d, r⟩
    have hKb : K.In (hidT s₁.heap H) := by
      intro b o e
      refine base_of (KX b o e) ?_
      cases q : H b with
      | none => rfl
      | some u =>
        obtain rfl : b = a := hA b (by rw [q]; simp)
        rw [hK (by rw [q]; simp)] at e
        cases e
    have hM : Mod K mg (hidT s₁.heap H) := by
      obtain ⟨mc, h1, h2⟩ := hlim
      exact ⟨hKb, nsK hns, ⟨mb, nsK hb, hbb⟩, ⟨mc, nsK h1, h2⟩⟩
    have nil : ∀ {α : Type} (b : α), ¬ b ∈ ([] : List α) := fun b z => nomatch z
    have e0 : Env0 P w K mg (hidT s₁.heap H) callerA [] s₁ H :=
      ⟨rfl, hM, fun b o e => of_hidT e, Nat.le_of_eq (hidT_size _ _), trivial,
        fun b hb => (nil b hb).elim, hok, .of_eq hg⟩
    refine codeAny_mono ((F _ hKb (nsK hns)).goes callerA [] s₁ H ⟨[.ref a], []⟩ [.ref a] [.ref a] _ _
      rfl hr e0 (hbind s₁ (.ref a)) (.cons rfl .nil) (hsp H hO hS)) fun r s' h => ?_
    cases r with
    | error e => exact (hCX H e s' h).elim
    | ok fl =>
      cases fl with
      | next => exact False.elim h
      | brk => exact False.elim h
      | cont => exact False.elim h
      | ret u =>
        obtain ⟨v, H', os, bare, un, hok', r', q⟩ := h
        obtain rfl : v = .bl true := q
        obtain rfl : u = Value.bool true := r'
        refine ⟨rfl, OldK.of_keep fun b o e => ?_, os, bare⟩
        rcases hO b with z | ⟨ob, xs, z⟩
        · exact un.keep b o e z (nil b) (nil b)
        · obtain ⟨e1, _⟩ := hok b _ z
          obtain ⟨e2, _⟩ := hok' b _ (un.frzs b ob _ z)
          rw [e] at e1
          cases e1
          exact e2
  cases hk : K.lookup a with
  | some o =>
    have e := KX a o hk
    rw [ha] at e
    cases e
    refine core (fun _ => none) (fun _ => .inl rfl) (.inr ⟨_, vs.toArray, _, hk, rfl, rfl, rfl, ?_, ?_⟩)
      (fun b u z => ?_) (fun b z => absurd rfl z) fun z => absurd rfl z
    · rw [List.size_toArray, lenV]; exact hl
    · simpa using rv
    · exact absurd (show (none : Option HO) = some u from z) (fun z => by cases z)
  | none =>
    refine core (fun b => if b = a then some (.frz { cls := .type "list", data := .seq vs.toArray }
      (.lst (ns.map V.int))) else none) (fun b => ?_) (.inl (.inr ⟨_, if_pos rfl⟩)) (fun b u z => ?_)
      (fun b z => ?_) fun _ => hk
    all_goals by_cases hb : b = a
    · exact .inr ⟨_, _, if_pos hb⟩
    · exact .inl (if_neg hb)
    · have z' := (if_pos hb).symm.trans z
      cases z'
      subst hb
      exact ⟨ha, by rw [List.length_map]; exact hl, vs, _, rv, ha⟩
    · have z' := (if_neg hb).symm.trans z
      cases z'
    · exact hb
    · exact absurd (if_neg hb) z
/-- the goal that the head leaves, from the law's promise -/
theorem walk_G {l : PySem.W.OpenLaw} {n k : Nat} {q : Program} {loose : List Str}
    {XP : (Str → Option Value) → Heap → Prop} {YP : World → Heap → Prop} {d : DefRec}
    {K : Params → PySem.W.Frag} {sp : PySem.W.Frag → Sp} {x : Str}
    (hn : l.most = some n) (hn2 : n ≤ sizeLine) (hdf : d.params.defaults = []) (hr : Room k callerA)
    (hY : ∀ (w : World) (h : Heap), YP w h → (K w.params).In h)
    (F : ∀ (w : World) (mg : Str → Option Value) (fa : Addr) (h : Heap), (K w.params).In h →
      h.Ns mainGlobals mg → mg d.name = some (.ref fa) →
      ∃ fd : FuncData, (∀ (s : Shared) (u : Value), BindsTo s fd ⟨[u], []⟩ [(x, u)]) ∧
        ∀ base : Heap, (K w.params).In base → base.Ns mainGlobals mg →
          FnG l.prog w (K w.params) mg base CX0 k fa fd [x] (sp (K w.params)))
    (hsp : ∀ (K : PySem.W.Frag) (H : Hp) (a : Addr) (ns : List Int), ns.length ≤ n → Only H →
      SqL K H a (ns.map V.int) → sp K [.ref a] H (fun v _ => v = .bl true) fun _ _ _ => False) :
    PySem.W.WalkO q loose XP YP l.row.toRowW d [] (fun f vs => PySem.call f vs) := by
  refine Att.attach_call hn hdf fun w s₀ s₁ mg mb fa o pm cd doc a vs ns G Y ho hd hcd hmg hobj hints hlen hg => ?_
  obtain ⟨fd, hb, hF⟩ := F w mg fa _ (hY w _ Y) G.T.g hmg
  exact law_callG (hY w _ Y) G.T.g G.T.b G.T.builtins G.T.nolimit hg hobj hints
    (Nat.le_trans hlen hn2) hr hF hb (fun H hO hS => hsp _ H a ns hlen hO hS) fun _ _ _ z => z
/-! ### repr of data -/
section
variable {X : Cx}
/-- repr(x), x data without dicts -/
def rShow (K : PySem.W.Frag) : List V → Hp → VK → Prop := fun xs H Q => ∃ (a : Addr) (d : PyData),
  xs = [.ref a] ∧ Dp K H (.ref a) d ∧ d.showable = true ∧ d.hasDict = false ∧ d.depth ≤ 60 ∧
  d.shown.length ≤ sizeLine ∧ Q (.str d.shown) H
theorem call_show (hs : Still X.A) (hu : X.A.units + 64 < cLine) : CallR X (.builtin "repr") (rShow X.K) := by
  intro pins s σ H xs us Q I r h
  obtain ⟨a, d, rfl, hd, h1, h2, h3, h4, q⟩ := h
  obtain ⟨u, rfl, rfl⟩ : ∃ u, us = [u] ∧ u = Value.ref a := by
    cases r with | cons r1 r2 => cases r2; exact ⟨_, rfl, r1⟩
  obtain ⟨as, rd⟩ := Dp.reads I d (.ref a) (.ref a) hd rfl
  exact repr_of_reads' rd h1 (PyData.noDict_hsm h2) hs (by omega) (fun _ _ e => e)
    (fun h' u tk hk => ⟨.str d.shown, H, I.kept hk, ⟨u, rfl⟩, q⟩) h4
/-- {x} in an f-string, x data without dicts -/
def tFmtD (te : TE) (K : PySem.W.Frag) : TE := fun σ H Q => te σ H fun x H1 => ∃ (a : Addr) (d : PyData),
  x = .ref a ∧ Dp K H1 (.ref a) d ∧ d.showable = true ∧ d.hasDict = false ∧ d.depth ≤ 60 ∧
  d.shown.length ≤ sizeLine ∧ Q (.str d.shown) H1
theorem pe_fmtD {e : Expr} {te : TE} {pos : Pos} (hs : Still X.A) (hu : X.A.units + 64 < cLine)
    (he : PE X e te) : PE X (.FormattedValue e (-1) none pos) (tFmtD te X.K) := by
  refine ⟨fun pins s σ H Q I h => ?_⟩
  refine wpAny_FormattedValue_plain (thn (he.run pins s σ H _ I h) fun v s1 hv => ?_)
  obtain ⟨x, H1, I1, r1, a, d, rfl, hd, h1, h2, h3, h4, q⟩ := hv
  obtain rfl : v = Value.ref a := r1
  obtain ⟨as, rd⟩ := Dp.reads I1 d (.ref a) (.ref a) hd rfl
  exact formatField_of_reads rd h1 (PyData.noDict_hsm h2) hs (by omega) (fun _ _ e => e)
    (fun h' u tk hk => ⟨.str d.shown, H1, I1.kept hk, ⟨u, rfl⟩, q⟩) h4
end
end JB

set_option Elab.async false
set_option linter.all false
set_option maxRecDepth 100000
set_option maxHeartbeats 4000000
/-! Own error classes over any built-in error class, whose __init__ is a def of the text; their instances as values. -/
namespace JB
open PySem PySem.Spec PyProof.Rows L2
/-- what a built-in error class says -/
structure Base (B newId initId : String) (bm : List Value) : Prop where
  facts : ExcBaseFacts B newId initId bm
  pass : ∀ self : Value, refuseLoop self "__setattr__" bm = pure ()
  obj : bm.contains (.type "object") = true
  exc : bm.contains (.type "BaseException") = true
theorem base_V : Base "ValueError" "ValueError.__new__" "ValueError.__init__"
    [.type "ValueError", .type "Exception", .type "BaseException", .type "object"] :=
  ⟨F.excBase_ValueError, fun _ => by kernel_rfl, by decide +kernel, by decide +kernel⟩
theorem base_L : Base "LookupError" "LookupError.__new__" "LookupError.__init__"
    [.type "LookupError", .type "Exception", .type "BaseException", .type "object"] :=
  ⟨F.excBase_LookupError, fun _ => by kernel_rfl, by decide +kernel, by decide +kernel⟩
theorem base_R : Base "RuntimeError" "RuntimeError.__new__" "RuntimeError.__init__"
    [.type "RuntimeError", .type "Exception", .type "BaseException", .type "object"] :=
  ⟨F.excBase_RuntimeError, fun _ => by kernel_rfl, by decide +kernel, by decide +kernel⟩
theorem base_O : Base "OverflowError" "OverflowError.__new__" "OverflowError.__init__"
    [.type "OverflowError", .type "ArithmeticError", .type "Exception", .type "BaseException", .type "object"] :=
  ⟨F.excBase_OverflowError, fun _ => by kernel_rfl, by decide +kernel, by decide +kernel⟩
/-- what the written part says of an own error class at C -/
structure ExK (K : PySem.W.Frag) (C : Addr) (newId : String) (bm : List Value) : Prop where
  cls : ∃ nm q N bs sn sub ab col dd k0 k1 k2 k3 k5,
    K.lookup C = some (excClassObj nm q C N bs bm true sn sub ab col dd k0 k1 k2 k3 k5 newId)
  sa : PySem.W.findIn K (.ref C) "__setattr__" = some (some (.builtin "object.__setattr__"))
  ga : PySem.W.findIn K (.ref C) "__getattribute__" = some (some (.builtin "BaseException.__getattribute__"))
  gg : PySem.W.findIn K (.ref C) "__getattr__" = some none
  ca : PySem.W.findIn K (.ref C) "__class__" = some (some (.builtin "object.__class__"))
  ty : PySem.W.typeIn K (.ref C) = some (.type "type")
  kp : PySem.W.keepIn K (.ref C) = true
section
variable {K : PySem.W.Frag} {C D : Addr} {newId B initId : String} {bm : List Value}
theorem ExK.cd (T : ExK K C newId bm) : ∃ cd, PySem.W.clsIn K C = some cd ∧ cd.mro = .ref C :: bm ∧ cd.hasDict = true := by
  obtain ⟨nm, q, N, bs, sn, sub, ab, col, dd, k0, k1, k2, k3, k5, hC⟩ := T.cls
  have h : PySem.W.clsIn K C = Option.some (ClassData.mk nm bs (.ref C :: bm) N q true sn sub ab col false) := by
    unfold PySem.W.clsIn
    rw [hC] <;> rfl
  exact ⟨_, h, rfl, rfl⟩
theorem ExK.some (T : ExK K C newId bm) : (PySem.W.clsIn K C).isSome = true := by
  obtain ⟨cd, h, _⟩ := T.cd
  rw [h]; rfl
theorem ExK.hd (T : ExK K C newId bm) : PySem.W.hasDictIn K C = true := by
  obtain ⟨cd, h, _, e⟩ := T.cd
  unfold PySem.W.hasDictIn
  rw [h]; exact e
theorem ExK.mro (T : ExK K C newId bm) (b : Value) : PySem.W.mroIn K C b = Option.some ((Value.ref C :: bm).contains b) := by
  obtain ⟨cd, h, e, _⟩ := T.cd
  unfold PySem.W.mroIn
  rw [h, Option.bind_some, e]
  rfl
theorem ExK.sub (T : ExK K C newId bm) (b : Value) : PySem.W.subIn K (.ref C) b = Option.some ((Value.ref C :: bm).contains b) := T.mro b
theorem has_ty {b : String} : (Value.ref C :: bm).contains (.type b) = bm.contains (.type b) := by
  rw [List.contains_cons]
  have : (Value.type b == Value.ref C) = false := by simp
  rw [this, Bool.false_or]
theorem ExK.bas (T : ExK K C newId bm) (F : Base B newId initId bm) : PySem.W.subIn K (.ref C) (.type "BaseException") = Option.some true := by
  rw [T.sub, has_ty, F.exc]
theorem ExK.obj (T : ExK K C newId bm) (F : Base B newId initId bm) : PySem.W.mroIn K C (.type "object") = Option.some true := by
  rw [T.mro, has_ty, F.obj]
/-- isinstance of its instances: a built-in class -/
theorem ExK.isTy (T : ExK K C newId bm) {b : String} {r : Bool} (hb : PySem.W.kitMeta b = true) (hr : bm.contains (.type b) = r) :
    PySem.W.kitOne K (.ref C) (.type b) = Option.some r := by
  unfold PySem.W.kitOne PySem.W.kitCls
  rw [if_neg (by simp)]
  dsimp only
  rw [if_pos hb, T.sub, has_ty, hr]
theorem ExK.isMe (T : ExK K C newId bm) : PySem.W.kitOne K (.ref C) (.ref C) = Option.some true := by
  unfold PySem.W.kitOne
  rw [if_pos (by simp)]
theorem ExK.isNo {newD : String} {bmD : List Value} (T : ExK K C newId bm) (U : ExK K D newD bmD) (h : D ≠ C)
    (hr : ∀ a, bm.contains (.ref a) = false) : PySem.W.kitOne K (.ref C) (.ref D) = Option.some false := by
  unfold PySem.W.kitOne PySem.W.kitCls
  rw [if_neg (by simp [Ne.symm h])]
  dsimp only
  have e : ((PySem.W.clsIn K D).isSome && PySem.W.typeIn K (.ref D) == Option.some (.type "type")) = true := by
    rw [U.some, U.ty] <;> rfl
  rw [if_pos e, T.sub, List.contains_cons, hr]
  have : (Value.ref D == Value.ref C) = false := by simp [h]
  rw [this]; rfl
end
/-! ### a field is set -/
section
open Builtin Builtin.ObjectAttr
variable {prog : Program} {w : World} {A : Around} {R : Result → Shared → Prop} {hp : Heap} {g : Array GenState}
variable {d : Drawn} {t : Nat} {os : OsState} {K : PySem.W.Frag} {name : Str} {tk : Tok} {v : Value} {x C dx : Addr}
variable {fv : Array Value} {cd : ClassData} {m0 : Str → Option Value} {nl : List Str}
theorem osa_first (X : K.In hp) (hx : hp.get? x = some { cls := .ref C, data := .fields fv })
    (hcd : PySem.W.clsIn K C = some cd) (hm : cd.mro.contains (.type "object") = true) (hne : cd.mro.isEmpty = false)
    (hps : refuseLoop (.ref x) "__setattr__" cd.mro = pure ()) (hh : cd.hasDict = true)
    (ha : PySem.W.findIn K (.ref C) name = some none)
    (hq : ∀ h' tk' dx, (∀ b o, b ≠ x → hp.get? b = some o → h'.get? b = some o) → hp.objs.size ≤ dx → dx ≠ x →
      h'.get? x = some { cls := .ref C, dict := some dx, data := .fields fv } →
      h'.Ns1 dx (fun y => if y = name then some v else none) → R (.ok (.ret .none)) ⟨h', g, d, tk', os⟩) :
    codeAny (model prog w) A (.call (.builtin "object.__setattr__") ⟨[.ref x, .str name tk, v], []⟩) R ⟨hp, g, d, t, os⟩ := by
  have I : PySem.W.InstAt hp x { cls := .ref C, data := .fields fv } C none := ⟨hx, rfl, rfl, trivial⟩
  have SF := F.store_object
  have hxs : x ≠ hp.objs.size := Nat.ne_of_lt (Heap.lt_size hx)
  have sub : PySem.W.Looks (model prog w) hp (isInstance (.ref x) (.type "object")) true :=
    I.type.andThen (PySem.W.looks_mroIn X (by
      unfold PySem.W.mroIn
      rw [hcd, Option.bind_some, if_neg (by rw [hne]; decide), hm]))
  refine codeAny_call_builtin SF.slot.plain SF.entry (@PySem.W.check_slot (model prog w) _ _ ⟨hp, g, d, t, os⟩
    "object.__setattr__" "object" "__setattr__" (.ref x) [.str name tk, v] [] _ SF.kind SF.split sub
    (SF.args (.ref x) (.str name tk) v) ?_)
  have hmr : PySem.W.Looks (model prog w) hp (mroOf (.ref C)) cd.mro := (PySem.W.looks_clsIn X hcd).andThen .now
  have L3 : PySem.W.Looks (model prog w) hp (storeTaker? none) none := .now
  have hcls : PySem.W.Looks (model prog w) hp (classData C) cd := PySem.W.looks_clsIn X hcd
  rw [PySem.W.osa_eq, refuse_eq]
  refine wpAny_bind (wpAny_bind (I.type.at (wpAny_bind (hmr.at ?_))))
  rw [hps]
  refine wpAny_pure (wpAny_bind (I.type.at (wpAny_bind ((PySem.W.looks_findIn X ha).at (wpAny_bind (L3.at ?_))))))
  show wpAny _ _ (storeInOwnDict (.ref x) (.ref C) (.str name tk) name v false) _ _ _
  obtain ⟨nm, bs, mro, ns, qn, hd, sn, sb, ab, col, del⟩ := cd
  obtain rfl : hd = true := hh
  unfold storeInOwnDict ownDictForStores
  repeat (first
    | with_reducible refine PySem.HandSPX.store_in_new ?_ ?_
    | with_reducible refine wpAny_loadPart_at hx ?_
    | with_reducible refine hcls.at ?_
    | wp_step)
  · exact ⟨_, #[], _, (Heap.get?_update_ne _ _ _ _ hxs.symm).trans (Heap.get?_push_at rfl rfl), rfl,
      fun e he => absurd he (by simp), fun _ => rfl⟩
  · intro h' tk' hn' hs
    have hx₁ : (hp.push { cls := .type "dict", data := .dict #[] }).get? x = some { cls := .ref C, data := .fields fv } :=
      Heap.get?_push_of_some _ hx
    refine hq h' tk' hp.objs.size (fun b o hb ho => ?_) (Nat.le_refl _) hxs.symm ?_ hn'
    · exact (hs.2 b (Nat.ne_of_lt (Heap.lt_size ho))).trans
        ((Heap.get?_update_ne _ _ _ _ hb).trans (Heap.get?_push_of_some _ ho))
    · exact (hs.2 x hxs).trans (Heap.get?_update_self _ hx₁ rfl)
theorem osa_more (X : K.In hp) (hx : hp.get? x = some { cls := .ref C, dict := some dx, data := .fields fv })
    (hns : hp.Ns1 dx m0) (hw : Within m0 nl) (hz : nl.length ≤ 1000)
    (hcd : PySem.W.clsIn K C = some cd) (hm : cd.mro.contains (.type "object") = true) (hne : cd.mro.isEmpty = false)
    (hps : refuseLoop (.ref x) "__setattr__" cd.mro = pure ()) (hh : cd.hasDict = true)
    (ha : PySem.W.findIn K (.ref C) name = some none)
    (hq : ∀ h' tk', (∀ b o, b ≠ dx → hp.get? b = some o → h'.get? b = some o) →
      h'.Ns1 dx (fun y => if y = name then some v else m0 y) → R (.ok (.ret .none)) ⟨h', g, d, tk', os⟩) :
    codeAny (model prog w) A (.call (.builtin "object.__setattr__") ⟨[.ref x, .str name tk, v], []⟩) R ⟨hp, g, d, t, os⟩ := by
  obtain ⟨oD, esD, epD, hoD, hdD, _⟩ := hns.count hw
  have I : PySem.W.InstAt hp x { cls := .ref C, dict := some dx, data := .fields fv } C (some oD) := ⟨hx, rfl, rfl, hoD⟩
  have SF := F.store_object
  have sub : PySem.W.Looks (model prog w) hp (isInstance (.ref x) (.type "object")) true :=
    I.type.andThen (PySem.W.looks_mroIn X (by
      unfold PySem.W.mroIn
      rw [hcd, Option.bind_some, if_neg (by rw [hne]; decide), hm]))
  refine codeAny_call_builtin SF.slot.plain SF.entry (@PySem.W.check_slot (model prog w) _ _ ⟨hp, g, d, t, os⟩
    "object.__setattr__" "object" "__setattr__" (.ref x) [.str name tk, v] [] _ SF.kind SF.split sub
    (SF.args (.ref x) (.str name tk) v) ?_)
  have hmr : PySem.W.Looks (model prog w) hp (mroOf (.ref C)) cd.mro := (PySem.W.looks_clsIn X hcd).andThen .now
  have L3 : PySem.W.Looks (model prog w) hp (storeTaker? none) none := .now
  have hcls : PySem.W.Looks (model prog w) hp (classData C) cd := PySem.W.looks_clsIn X hcd
  rw [PySem.W.osa_eq, refuse_eq]
  refine wpAny_bind (wpAny_bind (I.type.at (wpAny_bind (hmr.at ?_))))
  rw [hps]
  refine wpAny_pure (wpAny_bind (I.type.at (wpAny_bind ((PySem.W.looks_findIn X ha).at (wpAny_bind (L3.at ?_))))))
  show wpAny _ _ (storeInOwnDict (.ref x) (.ref C) (.str name tk) name v false) _ _ _
  obtain ⟨nm, bs, mro, ns, qn, hd, sn, sb, ab, col, del⟩ := cd
  obtain rfl : hd = true := hh
  unfold storeInOwnDict ownDictForStores
  repeat (first
    | with_reducible refine PySem.OEX.store_in_old hns hw hz ?_
    | with_reducible refine wpAny_loadPart_at hx ?_
    | with_reducible refine hcls.at ?_
    | wp_step)
  intro h' tk' hn' hs
  exact hq h' tk' (fun b o hb ho => (hs.2 b hb).trans ho) hn'
end
end JB

set_option Elab.async false
set_option linter.all false
set_option maxRecDepth 100000
set_option maxHeartbeats 4000000
/-! Such a class called, with keywords too. -/
namespace PySem
namespace JX
open Builtin Builtin.ObjectAttr PySem.HandSPX
section
variable {M : Model} {A : Around} {E : Value → Shared → Prop} {h : Heap} {g : Array GenState} {d : Drawn} {t : Nat}
variable {os : OsState} {nm q : Str} {C N : Addr} {bs bmB : List Value} {hdct : Bool} {sn : List Str}
variable {sub : List Value} {ab : Bool} {col : Option Bool} {dd : Option Addr} {k0 k1 k2 k3 k5 : Option Value}
variable {B newId initId : String} {kw : List (Str × Value)}
theorem check_newK (F : ExcBaseFacts B newId initId bmB) {rest : List Value} {Q : Unit → Shared → Prop}
    (hC : h.get? C = some (excClassObj nm q C N bs bmB hdct sn sub ab col dd k0 k1 k2 k3 k5 newId))
    (hq : Q () ⟨h, g, d, t, os⟩) : wpAny M A (checkBuiltinCall newId ⟨.ref C :: rest, kw⟩) Q E ⟨h, g, d, t, os⟩ := by
  have hcont : (Value.ref C :: bmB).contains (.type B) = true := by rw [List.contains_cons, F.hasB, Bool.or_true]
  have hstar := F.noStar
  simp only [checkBuiltinCall, F.newKind, F.newSplit, F.newRow]
  repeat (first
    | refine wpAny_loadPart_at hC ?_
    | (refine wpAny_isSubtype_exc hC ?_; rw [hcont])
    | refine wpAny_staticBase_exc hC ?_
    | refine wpAny_madeBy_exc hC ?_
    | simp only [bne_self_eq_false, Bool.false_eq_true, if_false]
    | wp_step)
  exact hq
end
section
variable {prog : Program} {w : World} {A : Around} {E : Value → Shared → Prop} {R : Result → Shared → Prop}
variable {h : Heap} {g : Array GenState} {d : Drawn} {t : Nat} {os : OsState} {nm q : Str} {C N : Addr}
variable {bs bmB : List Value} {hdct : Bool} {sn : List Str} {sub : List Value} {ab : Bool} {col : Option Bool}
variable {dd : Option Addr} {k0 k1 k2 k3 k5 : Option Value} {B newId initId : String} {kw : List (Str × Value)}
theorem newK (F : ExcBaseFacts B newId initId bmB) {rest : List Value}
    (hC : h.get? C = some (excClassObj nm q C N bs bmB hdct sn sub ab col dd k0 k1 k2 k3 k5 newId))
    (hq : R (.ok (.ret (.ref (h.objs.size + 1)))) ⟨(h.push { cls := .type "tuple", data := .seq rest.toArray }).push
      { cls := .ref C, data := .fields #[.ref h.objs.size, .none, .none, .none, .bool false, .none] }, g, d, t, os⟩)
    (hrest : rest.length ≤ sizeLine) :
    codeAny (model prog w) A (.builtin newId ⟨.ref C :: rest, kw⟩) R ⟨h, g, d, t, os⟩ := by
  have hends := F.ends
  have hcB : (Value.ref C :: bmB).contains (.type B) = true := by rw [List.contains_cons, F.hasB, Bool.or_true]
  have hcA : (Value.ref C :: bmB).contains (.type "AttributeError") = false := by rw [List.contains_cons, F.noAttr]; rfl
  have hcN : (Value.ref C :: bmB).contains (.type "NameError") = false := by rw [List.contains_cons, F.noName]; rfl
  refine codeAny_builtinAt F.entry ?_
  unfold Builtin.«BaseException.__new__»
  refine wpAt_bind ?_
  show wpAt _ _ _ (stack >>= _) _ _ _
  refine wpAt_bind (wpAt_stack fun p below => wpAt_of_wpAny ?_)
  wp_walk
  refine wpAt_of_wpAny ?_
  rw [F.owner]
  repeat (first
    | with_reducible refine wpAny_madeHere_exc F.canon hC ?_
    | with_reducible refine wpAny_loadPart_at hC ?_
    | (with_reducible refine wpAny_isSubtype_exc hC ?_; first | rw [hcB] | rw [hcA] | rw [hcN])
    | wp_step)
  show R _ _
  rw [Heap.size_push]
  exact hq
theorem type_callK (F : ExcBaseFacts B newId initId bmB) {rest : List Value} {fI : Addr} {Q : Fin → Shared → Prop}
    (hC : h.get? C = some (excClassObj nm q C N bs bmB hdct sn sub ab col dd k0 k1 k2 k3 k5 newId))
    (hi : W.Looks (model prog w) h (typeLookup (.ref C) "__init__") (some (.ref fI)))
    (hb : ∀ self, W.Looks (model prog w) h (bindSpecial (.ref fI) self) (.ref fI, [self])) (hrest : rest.length ≤ sizeLine)
    (hq : codeAny (model prog w) A (.call (.ref fI) ⟨.ref (h.objs.size + 1) :: rest, kw⟩)
      (fun r s' => match r with
        | .ok (.ret v) => v = .none ∧ Q (.done (.ret (.ref (h.objs.size + 1)))) s'
        | .ok _ => False
        | .error e => E e s')
      ⟨(h.push (W.kdv_tup rest)).push (excO C h.objs.size), g, d, t, os⟩) :
    wpAny (model prog w) A (Builtin.«type.__call__» ⟨.ref C :: rest, kw⟩) Q E ⟨h, g, d, t, os⟩ := by
  repeat (first
    | with_reducible refine wpAny_loadPart_at hC ?_
    | with_reducible refine wpAny_madeBy_exc hC ?_
    | wp_step)
  refine codeAny_call_builtin_code (Code.quiet_builtin _ F.quiet) (check_newK F hC ?_)
  refine newK F hC ?_ hrest
  show wpAny _ _ _ _ _ _
  have k : ∀ b o, h.get? b = some o → ((h.push (W.kdv_tup rest)).push (excO C h.objs.size)).get? b = some o :=
    fun b o e => Heap.get?_push_of_some _ (Heap.get?_push_of_some _ e)
  have hC₁ := k _ _ hC
  have hget : ((h.push (W.kdv_tup rest)).push (excO C h.objs.size)).get? (h.objs.size + 1) = some (excO C h.objs.size) := by
    heap_get
  have hcC : (Value.ref C :: bmB).contains (.ref C) = true := by simp
  have i1 := hi.keeps k
  have b1 := (hb (.ref (h.objs.size + 1))).keeps k
  unfold isInstance
  repeat (first
    | with_reducible refine wpAny_loadPart_at hget ?_
    | (with_reducible refine wpAny_isSubtype_exc hC₁ ?_; rw [hcC])
    | wp_step)
  show wpAny _ _ (typeLookup (.ref C) _) _ _ _
  refine i1.at ?_
  refine wpAny_holding (wpAny_bind (b1.at ?_))
  refine wpAny_bind (wpAny_call (codeAny_mono hq fun r s' z => ?_))
  rcases r with e | (v | _ | _ | _) <;> first | exact z | exact z.elim | skip
  obtain ⟨rfl, z⟩ := z
  first
    | exact wpAny_pure (wpAny_pure z)
    | (wp_walk; exact z)
theorem callK (F : ExcBaseFacts B newId initId bmB) {rest : List Value} {fI : Addr}
    (hC : h.get? C = some (excClassObj nm q C N bs bmB hdct sn sub ab col dd k0 k1 k2 k3 k5 newId))
    (hi : W.Looks (model prog w) h (typeLookup (.ref C) "__init__") (some (.ref fI)))
    (hb : ∀ self, W.Looks (model prog w) h (bindSpecial (.ref fI) self) (.ref fI, [self])) (hrest : rest.length ≤ sizeLine)
    (hq : codeAny (model prog w) (A.under (.builtin "type.__call__" ⟨.ref C :: rest, kw⟩))
      (.call (.ref fI) ⟨.ref (h.objs.size + 1) :: rest, kw⟩) (W.InitBack (h.objs.size + 1) R)
      ⟨(h.push (W.kdv_tup rest)).push (excO C h.objs.size), g, d, t, os⟩) :
    codeAny (model prog w) A (.call (.ref C) ⟨rest, kw⟩) R ⟨h, g, d, t, os⟩ := by
  have f1 := tc_lookup
  have f2 := tc_bind (.ref C)
  have hTy : (⟨h, g, d, t, os⟩ : Shared).TypeIs (.ref C) "type" := ⟨_, hC, rfl⟩
  refine codeAny_of_tree ?_
  show wpAny _ _ (callAny (.ref C) _) _ _ _
  repeat (any_goals (first | assumption | with_reducible refine wpAny_loadPart_at hC ?_ | wp_step))
  refine ⟨rfl, ?_⟩
  refine codeAny_call_builtin_at (Code.quiet_builtin _ (by decide +kernel)) entry_typeCall
    (wpAny_check_type_call_sub hC (type_callK F hC hi hb hrest ?_))
  refine codeAny_mono hq fun r s' z => ?_
  rcases r with e | (v | _ | _ | _) <;> exact z
end
end JX
end PySem

set_option Elab.async false
set_option linter.all false
set_option maxRecDepth 100000
set_option maxHeartbeats 4000000
/-! The rules over such classes: B.__init__(self, ..), self.f = e, C(..), e.f, isinstance. -/
namespace JB
open PySem PySem.Spec PyProof.Rows L2
section
variable {X : Cx} {pins : List (Addr × Obj)} {σ : L2.St} {H : Hp} {s : Shared} {a C dx : Addr} {f : Str} {y : V} {u : Value}
variable {fs : List (Str × V)} {E : Value → Shared → Prop} {A : Around} {B newId initId : String} {bm : List Value}
theorem ExK.pass (T : ExK X.K C newId bm) (F : Base B newId initId bm) {cd : ClassData} (e : cd.mro = .ref C :: bm) (x : Value) :
    refuseLoop x "__setattr__" cd.mro = pure () := by
  rw [e, refuseLoop_ref]; exact F.pass x
theorem set_first {Q : Unit → Shared → Prop} (F : Base B newId initId bm) (T : ExK X.K C newId bm) (I : Inv X pins σ H s)
    (e : H a = some (exo a C none)) (hno : PySem.W.findIn X.K (.ref C) f = some none) (ry : RelV y u)
    (h : ∀ dx s', H dx = none → dx ≠ a →
      Inv X pins σ (upd (upd H dx (exd dx [(f, y)])) a (exo a C (some dx))) s' → Q () s') :
    wpAny (model X.prog X.w) A (setAttr (.ref a) f u) Q E s := by
  obtain ⟨cd, hcl, hm, hh⟩ := T.cd
  obtain ⟨t1, ho⟩ := exo_at I.hok e
  obtain ⟨hp, g, d, t, os⟩ := s
  refine PySem.W.set_plain I.kIn (od := none) (C := C)
    (ox := { cls := .ref C, dict := none, data := .fields #[.ref t1, .none, .none, .none, .bool false, .none] })
    ⟨ho, rfl, rfl, trivial⟩ T.sa ?_
  refine osa_first I.kIn ho hcl (by rw [hm, has_ty]; exact F.obj) (by rw [hm]; rfl) (T.pass F hm _) hh hno
    (fun h' tk' dx k dn dne hx hn => ?_)
  have hnd : H dx = none := I.hok.fresh dn
  have nd : ∀ {b : Addr} {o : Obj}, hp.get? b = some o → b ≠ dx :=
    fun {b o} q => Nat.ne_of_lt (Nat.lt_of_lt_of_le (Heap.lt_size q) dn)
  have na : ∀ {b : Addr}, H b = none → b ≠ a := by
    rintro b n rfl
    rw [e] at n
    cases n
  have U : Un X.fs [] H (upd (upd H dx (exd dx [(f, y)])) a (exo a C (some dx))) hp h' := by
    constructor
    · exact fun b o q n _ _ => k b o (na n) q
    · exact fun b o q n _ _ => ⟨o.slots, k b o (na n) q⟩
    · intro b o q n _
      rw [upd_ne (na n), upd_ne (nd q)]; exact n
    · intro b o q _
      by_cases hb : b = a
      · subst hb; exact ⟨_, hx⟩
      · exact ⟨o, k b o hb q⟩
    · intro b xs q
      rw [upd_ne (at_ne e q exo_tup), upd_ne (ne_of_none q hnd)]; exact q
    · intro b o v q
      rw [upd_ne (at_ne e q exo_frz), upd_ne (ne_of_none q hnd)]; exact q
    · intro b ps q
      exact ⟨#[], by rw [upd_ne (at_ne e q exo_tbl), upd_ne (ne_of_none q hnd), q]; simp⟩
  refine h dx _ hnd dne (I.un (t' := tk') U fun b o q => ?_)
  by_cases hb : b = a
  · subst hb
    rw [upd_same] at q
    cases q
    exact exo_ok hx
  rw [upd_ne hb] at q
  by_cases hd : b = dx
  · subst hd
    rw [upd_same] at q
    cases q
    exact exd_ok hn (relO_put (fs := []) ry fun g => True.intro)
  rw [upd_ne hd] at q
  refine (I.hok b o q).stay (fun c v hc z => k c v ?_ z) (fun c hc => ?_) fun c xs hc => ?_
  · rcases hc with rfl | hc
    · exact hb
    · exact at_ne e hc exo_own
  · rw [upd_ne (at_ne e hc exo_own), upd_ne (ne_of_none hc hnd)]; exact hc
  · rw [upd_ne (at_ne e hc exo_tup), upd_ne (ne_of_none hc hnd)]; exact hc
theorem set_more {Q : Unit → Shared → Prop} (F : Base B newId initId bm) (T : ExK X.K C newId bm) (I : Inv X pins σ H s)
    (e : H a = some (exo a C (some dx))) (ed : H dx = some (exd dx fs)) (hl : fs.length ≤ 900)
    (hno : PySem.W.findIn X.K (.ref C) f = some none) (ry : RelV y u)
    (h : ∀ s', Inv X pins σ (upd H dx (exd dx ((f, y) :: fs))) s' → Q () s') :
    wpAny (model X.prog X.w) A (setAttr (.ref a) f u) Q E s := by
  obtain ⟨cd, hcl, hm, hh⟩ := T.cd
  obtain ⟨t1, ho⟩ := exo_at I.hok e
  obtain ⟨mA, hns, rel⟩ := exd_at I.hok ed
  have hw := within_of rel
  obtain ⟨hp, g, d, t, os⟩ := s
  obtain ⟨oD, _, _, hoD, _, _⟩ := hns.count hw
  refine PySem.W.set_plain I.kIn (od := some oD) (C := C)
    (ox := { cls := .ref C, dict := some dx, data := .fields #[.ref t1, .none, .none, .none, .bool false, .none] })
    ⟨ho, rfl, rfl, hoD⟩ T.sa ?_
  refine osa_more I.kIn ho hns hw (by rw [List.length_map]; omega) hcl (by rw [hm, has_ty]; exact F.obj) (by rw [hm]; rfl)
    (T.pass F hm _) hh hno (fun h' tk' k hn => ?_)
  have hd : ∃ o, h'.get? dx = some o := by
    obtain ⟨o, _, _, e', _⟩ := hn
    exact ⟨o, e'⟩
  exact h _ (I.write (t' := tk') (x := dx) (e := dx) (o := exd dx ((f, y) :: fs)) (by rw [ed]; exact True.intro)
    (.inl rfl) k hd (exd_ok hn (relO_put ry rel)))
theorem binit_ok {us : List Value} {Q : Value → Shared → Prop} (F : Base B newId initId bm) (T : ExK X.K C newId bm)
    (I : Inv X pins σ H s) (e : H a = some (exo a C none)) (hl : us.length ≤ sizeLine)
    (h : ∀ s', Inv X pins σ H s' → Q .none s') :
    wpAny (model X.prog X.w) A (call (.builtin initId) (.ref a :: us)) Q E s := by
  obtain ⟨nm, q, N, bs, sn, sub, ab, col, dd, k0, k1, k2, k3, k5, hC⟩ := T.cls
  obtain ⟨t1, ho⟩ := exo_at I.hok e
  obtain ⟨hp, g, d, t, os⟩ := s
  refine wpAny_call (PySem.HandSPX.init_base F.facts (fun _ => rfl) (I.kIn _ _ hC) ho hl fun h' t2 k hx => ?_)
  have J := I.write (t' := t) (x := a) (e := a) (o := exo a C none) (by rw [e]; exact True.intro) (.inl rfl) k ⟨_, hx⟩ (exo_ok hx)
  have eu : upd H a (exo a C none) = H := by
    funext b
    by_cases hb : b = a
    · rw [hb, upd_same, e]
    · rw [upd_ne hb]
  rw [eu] at J
  exact h _ J
end
/-! ### readings and rules -/
/-- the class at C is an own error class over some built-in one -/
def IsEx (K : PySem.W.Frag) (C : Addr) : Prop := ∃ B newId initId bm, Base B newId initId bm ∧ ExK K C newId bm
/-- B.__init__(self, ..) -/
def tBin (K : PySem.W.Frag) (newId : String) (bm : List Value) (ta : TA) : TE := fun σ H Q => ta σ H fun vs H1 =>
  ∃ (a C : Addr) (ws : List V), vs = .ref a :: ws ∧ ws.length ≤ 1000 ∧ ExK K C newId bm ∧ H1 a = some (exo a C none) ∧ Q .non H1
/-- self.f = e -/
def tSetE (K : PySem.W.Frag) (f : Str) (to te : TE) : TS := fun D σ H => te σ H fun y H1 => to σ H1 fun x H2 =>
  ∃ a C : Addr, x = .ref a ∧ IsEx K C ∧ PySem.W.findIn K (.ref C) f = some none ∧
    ((H2 a = some (exo a C none) ∧ ∀ dx, H2 dx = none → dx ≠ a →
        D.nx σ (upd (upd H2 dx (exd dx [(f, y)])) a (exo a C (some dx)))) ∨
      ∃ (dx : Addr) (fs : List (Str × V)), H2 a = some (exo a C (some dx)) ∧ H2 dx = some (exd dx fs) ∧ fs.length ≤ 900 ∧
        D.nx σ (upd H2 dx (exd dx ((f, y) :: fs))))
/-- e.f -/
def tGetE (K : PySem.W.Frag) (f : Str) (te : TE) : TE := fun σ H Q => te σ H fun x H1 =>
  ∃ (a C dx : Addr) (fs : List (Str × V)) (v : V), x = .ref a ∧ IsEx K C ∧ PySem.W.findIn K (.ref C) f = some none ∧
    H1 a = some (exo a C (some dx)) ∧ H1 dx = some (exd dx fs) ∧ fs.lookup f = some v ∧ Q v H1
/-- an error value stands at a -/
def ErrAt (H : Hp) (a C : Addr) : Prop := H a = some (exo a C none) ∨ ∃ dx fs, H a = some (exo a C (some dx)) ∧ H dx = some (exd dx fs)
section
variable {X : Cx} {o e : Expr} {es : List Expr} {to te : TE} {ta : TA} {f : Str} {p p' p1 p2 pos : Pos}
variable {B newId initId : String} {bm : List Value}
theorem pe_bin {b : Str} {pl : Sem Bool} (F : Base B newId initId bm) (hg : Gl X b) (hm : X.mg b = none)
    (hv : bootBuiltins b = some (.type B)) (hty : typeOf (.type B) = pure (.type "type")) (hst : Manifest.isStub B = false)
    (vV : PySem.W.findCls X.K (.type B) (.type "type") "__init__" = some (.val (.builtin initId)))
    (hh : PySem.W.handedIn (.builtin initId) = true)
    (ha : PA X (e :: es) ta) (hn : b ≠ "__name__" := by decide) (hdb : (b == ("__debug__" : Str)) = false := by decide)
    (hc : eval (.Call (.Attribute (.Name b p1) "__init__" p2) (e :: es) [] pos) X.env = (do
      let ov ← eval (.Name b p1) X.env
      standAt p2.atName
      let (f, first) ← holding [ov] (getMethod ov "__init__" pl)
      callWith pos f first (backTo pos (starEach (e :: es) X.env)) (backToKw pos (keywordEach [] X.env))) := by rfl)
    (he : starEach (e :: es) X.env = (false, eval e X.env) :: starEach es X.env := by rfl)
    (hpl : (backTo pos (starEach es X.env)).any (·.1) = false := by rfl) :
    PE X (.Call (.Attribute (.Name b p1) "__init__" p2) (e :: es) [] pos) (tBin X.K newId bm ta) := by
  refine ⟨fun pins s σ H Q I h => ?_⟩
  refine PySem.W.methodCall_KW (ld_blt I hg hm hv ?_ hn hdb) hc
  obtain ⟨m, fr⟩ := I.fr
  refine PySem.W.method_type fr I.ok.mod.kin hty hst vV hh ?_
  show wpAny _ _ (callWith pos (Value.builtin initId) [] (backTo pos (starEach (e :: es) X.env)) []) _ _ _
  refine PyProof.Rows.callWith_method1 (thn (ha.run pos pins _ σ H _ (I.tok _) h)
    fun us s1 ⟨vs, H1, I1, r1, a, C, ws, ev, hl, T, ea, q⟩ => ?_) he hpl
  subst ev
  cases r1 with
  | @cons _ u0 _ ur ra rw' =>
    obtain rfl : u0 = Value.ref a := ra
    have hlen : ur.length ≤ sizeLine := by
      rw [← Paired.length rw', sizeLine_eq]
      omega
    exact binit_ok F T I1 ea hlen fun s' J => ⟨.non, H1, J, rfl, q⟩
theorem ps_setE (ho : PE X o to) (he : PE X e te)
    (hs : swapsWith e (some (.Attribute o f p')) pos.line X.env = pure false := by rfl) :
    PS X (.Assign [.Attribute o f p'] e pos) (tSetE X.K f to te) := by
  refine ⟨fun pins s σ H D I h => ?_⟩
  refine plainObj_wpAny_Assign_Attribute (thn (he.run pins s σ H _ I h) fun v s1 ⟨y, H1, I1, r1, q1⟩ =>
    thn (ho.run pins s1 σ H1 _ I1 q1) fun u s2 ⟨x, H2, I2, r2, a, C, ex, ⟨B, newId, initId, bm, F, T⟩, hno, q⟩ => ?_) hs
  subst ex
  obtain rfl : u = Value.ref a := r2
  rcases q with ⟨ea, q⟩ | ⟨dx, fs, ea, ed, hl, q⟩
  · exact set_first F T I2 ea hno r1 fun dx s' n ne J => ⟨σ, _, J, q dx n ne⟩
  · exact set_more F T I2 ea ed hl hno r1 fun s' J => ⟨σ, _, J, q⟩
theorem inst_at {pins : List (Addr × Obj)} {σ : L2.St} {H : Hp} {s : Shared} {a C : Addr} (I : Inv X pins σ H s) (h : ErrAt H a C) :
    ∃ ox od, PySem.W.InstAt s.heap a ox C od := by
  rcases h with h | ⟨dx, fs, h, hd⟩
  · obtain ⟨t1, ho⟩ := exo_at I.hok h
    exact ⟨_, none, ho, rfl, rfl, trivial⟩
  · obtain ⟨t1, ho⟩ := exo_at I.hok h
    obtain ⟨mA, hns, _⟩ := exd_at I.hok hd
    obtain ⟨od, h2, _⟩ := lookIn_ns hns
    exact ⟨_, some od, ho, rfl, rfl, h2⟩
theorem pe_getE (he : PE X e te) (hb : attributeBase e f X.env (eval e X.env) = eval e X.env := by rfl) :
    PE X (.Attribute e f pos) (tGetE X.K f te) := by
  refine ⟨fun pins s σ H Q I h => ?_⟩
  refine attr_of hb (thn (he.run pins s σ H _ I h) fun u s1 hh => ?_)
  obtain ⟨x, H1, I1, rx, a, C, dx, fs, v, ex, ⟨B, newId, initId, bm, F, T⟩, hno, ea, ed, hl, q⟩ := hh
  subst ex
  obtain rfl : u = Value.ref a := rx
  obtain ⟨t1, ho⟩ := exo_at I1.hok ea
  obtain ⟨mA, hns, hr⟩ := exd_at I1.hok ed
  obtain ⟨od, h2, hk⟩ := lookIn_ns hns
  obtain ⟨u, hu, ru⟩ := RelO.some_of (v := v) (o := mA f) (by rw [← hl]; exact hr f)
  exact HandSPX.exc_get I1.kIn (od := some od) ⟨ho, rfl, rfl, h2⟩ T.ga T.gg (T.bas F)
    (PySem.W.findObj_own T.hd hno rfl (by rw [hk, hu])) (handed_of ru) ⟨v, H1, I1.tok _, ru, q⟩
/-- isinstance(e, c), e an own error -/
def rIsX (K : PySem.W.Frag) : List V → Hp → VK → Prop := fun xs H Q => ∃ (a C : Addr) (c : V) (u : Value) (b : Bool),
  xs = [.ref a, c] ∧ ClsV c u ∧ IsEx K C ∧ ErrAt H a C ∧ PySem.W.kitOne K (.ref C) u = some b ∧ Q (.bl b) H
/-- .. (c1, c2, ..) -/
def rIsXT (K : PySem.W.Frag) : List V → Hp → VK → Prop := fun xs H Q => ∃ (a C tp : Addr) (cs : List V) (us : List Value) (b : Bool),
  xs = [.ref a, .ref tp] ∧ H tp = some (.tup cs) ∧ Paired ClsV cs us ∧ IsEx K C ∧ ErrAt H a C ∧ PySem.W.kitAny K (.ref C) us = some b ∧ Q (.bl b) H
structure ClsG (K : PySem.W.Frag) : Prop where
  get : PySem.W.specialIn K (.builtin "object.__class__") "__get__" = some (some (.builtin "getset_descriptor.__get__"))
  tk : PySem.W.takesIn K (.builtin "object.__class__") = some true
theorem call_isX (G : ClsG X.K) : CallR X (.builtin "isinstance") (rIsX X.K) := by
  intro pins s σ H xs us Q I r h
  obtain ⟨a, C, c, u, b, rfl, k, ⟨B, newId, initId, bm, F, T⟩, ea, e, q⟩ := h
  obtain ⟨u1, u2, rfl, r1, r2⟩ := vals2 r
  have e2 := k.eq r2
  subst e2
  obtain rfl : u1 = Value.ref a := r1
  obtain ⟨ox, od, J⟩ := inst_at I ea
  exact PySem.W.kia_one (PySem.W.kitx_exc (ox := ox) (od := od) T.some T.ga T.gg (T.bas F) T.ca G.get G.tk (T.obj F)) I.kIn J e
    (fun z => nomatch z) fun tk => ⟨.bl b, H, I.tok tk, rfl, q⟩
theorem call_isXT (G : ClsG X.K) : CallR X (.builtin "isinstance") (rIsXT X.K) := by
  intro pins s σ H xs us Q I r h
  obtain ⟨a, C, tp, cs, ws, b, rfl, hT, k, ⟨B, newId, initId, bm, F, T⟩, ea, e, q⟩ := h
  obtain ⟨u1, u2, rfl, r1, r2⟩ := vals2 r
  obtain rfl : u1 = Value.ref a := r1
  obtain rfl : u2 = Value.ref tp := r2
  obtain ⟨ox, od, J⟩ := inst_at I ea
  obtain ⟨_, its, rv, ob, h1, h2, n, h3⟩ := (show ObjOk X.prog X.w H s.heap tp (.tup cs) from I.hok tp _ hT)
  have e3 := ClsV.all k rv
  subst e3
  obtain ⟨oc, odd, dt, sl⟩ := ob
  simp only at h2 h3
  subst h2 h3
  exact PySem.W.kia_tup (PySem.W.kitx_exc (ox := ox) (od := od) T.some T.ga T.gg (T.bas F) T.ca G.get G.tk (T.obj F)) I.kIn J h1 e
    (fun z => nomatch z) fun tk => ⟨.bl b, H, I.tok tk, rfl, q⟩
end
end JB

set_option Elab.async false
set_option linter.all false
set_option maxRecDepth 100000
set_option maxHeartbeats 4000000
/-! C(..): a new error as a value. -/
namespace JB
open PySem PySem.Spec PyProof.Rows L2
/-- how the arguments of a call bind behind self -/
def BindE (K : PySem.W.Frag) (fd : FuncData) (ps ks : List Str) (g : {α : Type} → List α → List α) : Prop :=
  (∀ (s : Shared) (self : Value) (ws : List Value), K.In s.heap → ws.length = ks.length →
    BindsTo s fd ⟨[self], ks.zip ws⟩ (ps.zip (self :: g ws))) ∧
  ∀ {vs : List V} {us : List Value}, Vals vs us → Vals (g vs) (g us)
/-- the reading: the new error, then __init__'s promise -/
def rMkE (C : Addr) (sp : Sp) (vs : List V) (H : Hp) (Q : VK) : Prop := vs.length ≤ 1000 ∧ ∀ a, H a = none →
  sp (.ref a :: vs) (upd H a (exo a C none)) (fun v H2 => v = .non ∧ Q (.ref a) H2) (fun _ _ _ => False)
section
variable {X : Cx} {pins : List (Addr × Obj)} {σ : L2.St} {H : Hp} {s : Shared} {C fI : Addr} {fd : FuncData} {ps ks : List Str}
variable {sp : Sp} {k : Nat} {B newId initId : String} {bm : List Value} {x : Str} {p pos : Pos} {e : Expr} {es : List Expr}
variable {ta : TA} {Q : VK}
theorem run_mkE (F : Base B newId initId bm) (T : ExK X.K C newId bm)
    (iC : PySem.W.findIn X.K (.ref C) "__init__" = some (some (.ref fI))) (tI : PySem.W.typeIn X.K (.ref fI) = some (.type "function"))
    (hs : Still X.A) (F1 : FnG X.prog X.w X.K X.mg X.base CX0 k fI fd ps sp) (hr : Room (k + 1) X.A) {us ws : List Value}
    {vs : List V} {kw : List (Str × Value)} (I : Inv X pins σ H s)
    (hb : ∀ (s' : Shared) (self : Value), X.K.In s'.heap → BindsTo s' fd ⟨self :: us, kw⟩ (ps.zip (self :: ws)))
    (rv : Vals vs ws) (hus : us.length ≤ sizeLine) (h : rMkE C sp vs H Q) :
    wpAny (model X.prog X.w) X.A (call (.ref C) us kw) (EP X pins σ Q) X.xe s := by
  obtain ⟨nm, q, N, bs, sn, sub, ab, col, dd, k0, k1, k2, k3, k5, hC⟩ := T.cls
  obtain ⟨hp, g, dr, tk, os⟩ := s
  have hsz : hp.objs.size ≤ hp.objs.size + 1 := Nat.le_succ _
  have hn : H (hp.objs.size + 1) = none := I.hok.fresh hsz
  have hq := h.2 (hp.objs.size + 1) hn
  have kk : ∀ b o, hp.get? b = some o →
      ((hp.push (PySem.W.kdv_tup us)).push (PySem.HandSPX.excO C hp.objs.size)).get? b = some o :=
    fun b o e => Heap.get?_push_of_some _ (Heap.get?_push_of_some _ e)
  have hget : ((hp.push (PySem.W.kdv_tup us)).push (PySem.HandSPX.excO C hp.objs.size)).get? (hp.objs.size + 1)
      = some (PySem.HandSPX.excO C hp.objs.size) := by heap_get
  have I2 : Inv X pins σ (upd H (hp.objs.size + 1) (exo (hp.objs.size + 1) C none))
      ⟨(hp.push (PySem.W.kdv_tup us)).push (PySem.HandSPX.excO C hp.objs.size), g, dr, tk, os⟩ :=
    I.laid (t' := tk) (a := hp.objs.size + 1) (o := exo (hp.objs.size + 1) C none)
      (h' := (hp.push (PySem.W.kdv_tup us)).push (PySem.HandSPX.excO C hp.objs.size)) kk hsz (exo_ok hget)
  have r2 : Vals (V.ref (hp.objs.size + 1) :: vs) (Value.ref (hp.objs.size + 1) :: ws) := .cons rfl rv
  refine wpAny_call (PySem.JX.callK F.facts (I.kIn _ _ hC) (PySem.W.looks_findIn I.kIn iC)
    (fun self => PySem.W.bind_fn I.kIn self tI) hus
    (codeAny_mono (F1.goes _ X.stack _ _ ⟨Value.ref (hp.objs.size + 1) :: us, kw⟩ (Value.ref (hp.objs.size + 1) :: ws) _ _
      (fun _ _ _ => False) (still_make hs) (hr.make C us kw) (I2.env0.make C us kw) (hb _ _ I2.kIn) r2 hq) fun r s' hq' => ?_))
  cases r with
  | error er => exact False.elim hq'
  | ok fl =>
    cases fl with
    | ret u =>
      obtain ⟨v, H', I3, rv', ev, q3⟩ := I2.after hq'
      subst ev
      exact ⟨rv', ⟨V.ref (hp.objs.size + 1), H', I3, rfl, q3⟩⟩
    | next => exact False.elim hq'
    | brk => exact False.elim hq'
    | cont => exact False.elim hq'
/-- C(e, ..) -/
theorem pe_mkE (F : Base B newId initId bm) (T : ExK X.K C newId bm)
    (iC : PySem.W.findIn X.K (.ref C) "__init__" = some (some (.ref fI))) (tI : PySem.W.typeIn X.K (.ref fI) = some (.type "function"))
    (hs : Still X.A) (F1 : FnG X.prog X.w X.K X.mg X.base CX0 k fI fd ps sp) (hr : Room (k + 1) X.A)
    (hb : Binds X.K fd ps []) (hg : Gl X x) (hm : X.mg x = some (.ref C)) (ha : PA X (e :: es) ta)
    (hdb : (x == ("__debug__" : Str)) = false := by decide)
    (he : starEach (e :: es) X.env = (false, eval e X.env) :: starEach es X.env := by rfl)
    (hpl : (backTo pos (starEach es X.env)).any (·.1) = false := by rfl) :
    PE X (.Call (.Name x p) (e :: es) [] pos) (fun σ H Q => ta σ H fun vs H1 => rMkE C sp vs H1 Q) := by
  refine ⟨fun pins s σ H Q I h => ?_⟩
  refine wpAny_Call_Name_kw (ld_glob I hg hm ?_ hdb)
  refine PySem.W.callWith_K (h₀ := X.base) I.ok.mod.kin T.kp (thn (ha.run pos pins s σ H _ I h)
    fun us s1 ⟨vs, H1, I1, r, q⟩ => ⟨I1.kIn, ?_⟩) he hpl
  have hus : us.length ≤ sizeLine := by
    rw [← r.length, sizeLine_eq]
    have := q.1
    omega
  have hl : us.length + 1 = ps.length := by
    have z := F1.many _ _ _ _ (q.2 s1.heap.objs.size (I1.hok.fresh (Nat.le_refl _)))
    rw [List.length_cons, r.length] at z
    exact z
  refine run_mkE F T iC tI hs F1 hr (us := us) (kw := []) (ws := us) I1 (fun s' self X' => ?_) r hus q
  have z := hb s' (self :: us) X' (by rw [List.append_nil, List.length_cons]; exact hl)
  rw [List.append_nil] at z
  exact z
/-- C() -/
theorem pe_mkE0 (F : Base B newId initId bm) (T : ExK X.K C newId bm)
    (iC : PySem.W.findIn X.K (.ref C) "__init__" = some (some (.ref fI))) (tI : PySem.W.typeIn X.K (.ref fI) = some (.type "function"))
    (hs : Still X.A) (F1 : FnG X.prog X.w X.K X.mg X.base CX0 k fI fd ps sp) (hr : Room (k + 1) X.A)
    (hb : Binds X.K fd ps []) (hg : Gl X x) (hm : X.mg x = some (.ref C)) (hdb : (x == ("__debug__" : Str)) = false := by decide) :
    PE X (.Call (.Name x p) [] [] pos) (fun _ H Q => rMkE C sp [] H Q) := by
  refine ⟨fun pins s σ H Q I q => ?_⟩
  refine wpAny_Call_Name_kw (ld_glob I hg hm ?_ hdb)
  have hl : 0 + 1 = ps.length := F1.many _ _ _ _ (q.2 s.heap.objs.size (I.hok.fresh (Nat.le_refl _)))
  refine PySem.W.callWith_K0 I.kIn T.kp (run_mkE F T iC tI hs F1 hr (us := []) (kw := []) (ws := []) I (fun s' self X' => ?_) .nil
    (Nat.zero_le _) q)
  have z := hb s' [self] X' (by rw [List.append_nil]; exact hl)
  rw [List.append_nil] at z
  exact z
/-- C(k = e, ..) -/
theorem pe_mkEK {kws : List Keyword} {g : {α : Type} → List α → List α} (F : Base B newId initId bm) (T : ExK X.K C newId bm)
    (iC : PySem.W.findIn X.K (.ref C) "__init__" = some (some (.ref fI))) (tI : PySem.W.typeIn X.K (.ref fI) = some (.type "function"))
    (hs : Still X.A) (F1 : FnG X.prog X.w X.K X.mg X.base CX0 k fI fd ps sp) (hr : Room (k + 1) X.A)
    (hb : BindE X.K fd ps ks g) (hg : Gl X x) (hm : X.mg x = some (.ref C)) (hkw : PK X kws ta)
    (hall : (backToKw pos (keywordEach kws X.env)).all (·.1.isSome) = true := by rfl)
    (hks : (backToKw pos (keywordEach kws X.env)).filterMap (·.1) = ks := by rfl)
    (hdb : (x == ("__debug__" : Str)) = false := by decide)
    (hpl : ((backTo pos (starEach [] X.env)).any (·.1) || (backToKw pos (keywordEach kws X.env)).any (·.1.isNone)) = false := by rfl) :
    PE X (.Call (.Name x p) [] kws pos) (fun σ H Q => ta σ H fun zs H1 => zs.length = ks.length ∧ rMkE C sp (g zs) H1 Q) := by
  refine ⟨fun pins s σ H Q I h => ?_⟩
  refine wpAny_Call_Name_kw (ld_glob I hg hm ?_ hdb)
  refine PySem.W.callWith_KW0 (h₀ := X.base) I.ok.mod.kin T.kp hall (thn (hkw.run pos pins s σ H _ I h)
    fun ws s1 ⟨zs, H1, I1, r, l, q⟩ => ⟨I1.kIn, ?_⟩) hpl
  rw [hks]
  exact run_mkE F T iC tI hs F1 hr (us := []) (kw := ks.zip ws) (ws := g ws) I1
    (fun s' self X' => hb.1 s' self ws X' (r.length.symm.trans l)) (hb.2 r) (Nat.zero_le _) q
end
end JB

set_option Elab.async false
set_option linter.all false
set_option maxRecDepth 100000
set_option maxHeartbeats 4000000
/-! The eighteen classes: what each __init__ promises. -/
namespace K09
open PySem L2 JB
def top (i : Nat) : Stmt := PySem.Challenge.pw_lastingrun_k09_errors_and_limits.main.body.getD i (.Pass ⟨0, 0, 0, 0⟩)
abbrev mV : List Value := [.type "ValueError", .type "Exception", .type "BaseException", .type "object"]
abbrev mL : List Value := [.type "LookupError", .type "Exception", .type "BaseException", .type "object"]
abbrev mR : List Value := [.type "RuntimeError", .type "Exception", .type "BaseException", .type "object"]
abbrev mO : List Value := [.type "OverflowError", .type "ArithmeticError", .type "Exception", .type "BaseException", .type "object"]
/-- what the written part says of a built-in error class -/
structure BaseK (K : PySem.W.Frag) (mg : Str → Option Value) (b : Str) (B initId : String) : Prop where
  mg : mg b = none
  ini : PySem.W.findCls K (.type B) (.type "type") "__init__" = some (.val (.builtin initId))
/-- a value that an f-string shows shortly -/
def Short (v : V) : Prop := (∃ y : Str, v = .str y ∧ y.length ≤ 400) ∨
  ∃ i : Int, v = .int i ∧ i.natAbs.log2 < 1920 ∧ (Str.ofString (toString i)).length ≤ 400
/-- the error at a has the fields fs -/
def ErrIs (H : Hp) (a C : Addr) (fs : List (Str × V)) : Prop := (fs = [] ∧ H a = some (exo a C none)) ∨
  ∃ dx, H a = some (exo a C (some dx)) ∧ H dx = some (exd dx fs)
theorem ErrIs.keep {H H' : Hp} {a C : Addr} {fs : List (Str × V)} (h : ErrIs H a C fs) (s : Same H H') : ErrIs H' a C fs := by
  rcases h with ⟨e, h⟩ | ⟨dx, h, hd⟩
  · exact .inl ⟨e, s _ _ h⟩
  · exact .inr ⟨dx, s _ _ h, s _ _ hd⟩
theorem ErrIs.at {H : Hp} {a C : Addr} {fs : List (Str × V)} (h : ErrIs H a C fs) : ErrAt H a C := by
  rcases h with ⟨e, h⟩ | ⟨dx, h, hd⟩
  · exact .inl h
  · exact .inr ⟨dx, fs, h, hd⟩
/-- the end of an __init__: the error at a has its fields, all else is kept -/
def Done (H : Hp) (a C : Addr) (fs : List (Str × V)) (Q : VK) : Prop :=
  ∀ H', (∀ b o, H b = some o → b ≠ a → H' b = some o) → ErrIs H' a C fs → Q .non H'
def spNone (C : Addr) : Sp := fun vs H Q _ => ∃ (a : Addr), vs = [.ref a] ∧ H a = some (exo a C none) ∧ Done H a C [] Q
def spOne (C : Addr) (f : Str) : Sp := fun vs H Q _ => ∃ (a : Addr) (v : V), vs = [.ref a, v] ∧ H a = some (exo a C none) ∧ Short v ∧
  Done H a C [(f, v)] Q
def spThree (C : Addr) (f g e : Str) : Sp := fun vs H Q _ => ∃ (a : Addr) (v u w : V), vs = [.ref a, v, u, w] ∧
  H a = some (exo a C none) ∧ Short v ∧ Short u ∧ Short w ∧ Done H a C [(e, w), (g, u), (f, v)] Q
/-- the list of faults at l is copied -/
def spList (K : PySem.W.Frag) (C : Addr) (f : Str) : Sp := fun vs H Q _ => ∃ (a l : Addr) (xs : List V) (d : PyData), vs = [.ref a, .ref l] ∧
  H a = some (exo a C none) ∧ H l = some (.lst xs) ∧ Dp K H (.ref l) d ∧ d.showable = true ∧ d.hasDict = false ∧ d.depth ≤ 60 ∧
  d.shown.length ≤ 1000 ∧ ∀ l' H', H l' = none → (∀ b o, H b = some o → b ≠ a → H' b = some o) → H' l' = some (.lst xs) →
    ErrIs H' a C [(f, .ref l')] → Q .non H'
theorem plus {a b : Str} {n m : Nat} (ha : a.length ≤ n) (hb : b.length ≤ m) : (a ++ b).length ≤ n + m := by
  rw [Str.length_append]; omega
theorem line {a : Str} {n : Nat} (ha : a.length ≤ n) (hn : n ≤ 9000 := by decide) : a.length ≤ sizeLine := by
  rw [sizeLine_eq]; omega
theorem none0 : Str.empty.length ≤ 0 := by decide +kernel
theorem ty_V : typeOf (.type "ValueError") = pure (.type "type") := by kernel_rfl
theorem ty_L : typeOf (.type "LookupError") = pure (.type "type") := by kernel_rfl
theorem ty_R : typeOf (.type "RuntimeError") = pure (.type "type") := by kernel_rfl
theorem ty_O : typeOf (.type "OverflowError") = pure (.type "type") := by kernel_rfl
theorem st_V : Manifest.isStub "ValueError" = false := by decide +kernel
theorem st_L : Manifest.isStub "LookupError" = false := by decide +kernel
theorem st_R : Manifest.isStub "RuntimeError" = false := by decide +kernel
theorem st_O : Manifest.isStub "OverflowError" = false := by decide +kernel
theorem bo_V : bootBuiltins "ValueError" = some (.type "ValueError") := by decide +kernel
theorem bo_L : bootBuiltins "LookupError" = some (.type "LookupError") := by decide +kernel
theorem bo_R : bootBuiltins "RuntimeError" = some (.type "RuntimeError") := by decide +kernel
theorem bo_O : bootBuiltins "OverflowError" = some (.type "OverflowError") := by decide +kernel
theorem show_short {v : V} {R : Str → Prop} (h : Short v) (k : ∀ y : Str, y.length ≤ 400 → R y) :
    (∃ y : Str, v = .str y ∧ y.length ≤ sizeLine ∧ R y) ∨ ∃ i : Int, v = .int i ∧ i.natAbs.log2 < 1920 ∧ R (toString i) := by
  rcases h with ⟨y, e, l⟩ | ⟨i, e, l, z⟩
  · exact .inl ⟨y, e, line l, k y l⟩
  · exact .inr ⟨i, e, l, k _ z⟩
theorem done_put {H : Hp} {a C dx : Addr} {fs : List (Str × V)} (n : H dx = none) (ne : dx ≠ a) :
    (∀ b o, H b = some o → b ≠ a → upd (upd H dx (exd dx fs)) a (exo a C (some dx)) b = some o) ∧
      ErrIs (upd (upd H dx (exd dx fs)) a (exo a C (some dx))) a C fs :=
  ⟨fun b o e hb => by rw [upd_ne hb, upd_ne (ne_of_none e n)]; exact e,
    .inr ⟨dx, upd_same, by rw [upd_ne ne, upd_same]⟩⟩
theorem done_put3 {H : Hp} {a C dx : Addr} {f1 f2 f3 : List (Str × V)} (n : H dx = none) (ne : dx ≠ a) :
    (∀ b o, H b = some o → b ≠ a → upd (upd (upd (upd H dx (exd dx f1)) a (exo a C (some dx))) dx (exd dx f2)) dx (exd dx f3) b = some o) ∧
      ErrIs (upd (upd (upd (upd H dx (exd dx f1)) a (exo a C (some dx))) dx (exd dx f2)) dx (exd dx f3)) a C f3 :=
  ⟨fun b o e hb => by rw [upd_ne (ne_of_none e n), upd_ne (ne_of_none e n), upd_ne hb, upd_ne (ne_of_none e n)]; exact e,
    .inr ⟨dx, by rw [upd_ne (Ne.symm ne), upd_ne (Ne.symm ne), upd_same], upd_same⟩⟩
section
variable {P : Program} {w : World} {K : PySem.W.Frag} {mg : Str → Option Value} {base : Heap}
abbrev s0 : Stmt := inClass (top 1) 0
theorem sc0 : FnScope ["self", "at"] ["self", "at"] (defScope s0) :=
  ⟨rfl, rfl, rfl, by decide +kernel, rfl, by decide +kernel, by decide +kernel⟩
theorem ok0 {f C : Addr} {fd : FuncData} (F : Fun K "__init__" "BadText.__init__" s0 f fd)
    (T : ExK K C "ValueError.__new__" mV) (n0 : PySem.W.findIn K (.ref C) "at" = some none)
    (b : BaseK K mg "ValueError" "ValueError" "ValueError.__init__")  :
    FnOk P w K mg base CX0 1 f fd ["self", "at"] (spOne C "at") := by
  refine F.ok sc0 (fun vs H Q E h => ?_) (fun cdv A outer s H vs Q E hr h => ?_)
  · obtain ⟨a, v, rfl, _⟩ := h
    rfl
  · obtain ⟨a, v, rfl, ha, hv, k⟩ := h
    refine ⟨_, pss_cons (ps_expr (pe_bin base_V rfl b.mg bo_V ty_V st_V b.ini (by decide +kernel)
      (pa_cons (pv 0) (pa_cons (pe_joined (.cons pe_str (.cons (pe_fmt (pv 1)) .nil))) pa_nil)))) (pss_one (ps_setE (pv 0) (pv 1))), ?_⟩
    refine ⟨_, rfl, ?_⟩
    have l0 := plus none0 (b := (Str.ofString "no token that can follow begins at place ")) (m := 400) (by decide +kernel)
    refine ⟨_, rfl, line l0, ?_⟩
    refine ⟨_, rfl, show_short hv fun y1 z1 => ?_⟩
    have l1 := plus l0 z1
    refine ⟨_, rfl, line l1, ?_⟩
    refine ⟨a, C, _, rfl, (by show 1 ≤ 1000; decide), T, ha, ?_⟩
    refine ⟨_, rfl, _, rfl, a, C, rfl, ⟨_, _, _, _, base_V, T⟩, n0, .inl ⟨ha, fun dx m1 m2 => ?_⟩⟩
    exact k _ (done_put m1 m2).1 (done_put m1 m2).2
abbrev s1 : Stmt := inClass (top 2) 0
theorem sc1 : FnScope ["self", "faults"] ["self", "faults"] (defScope s1) :=
  ⟨rfl, rfl, rfl, by decide +kernel, rfl, by decide +kernel, by decide +kernel⟩
theorem ok1 {f C : Addr} {fd : FuncData} (F : Fun K "__init__" "Unsound.__init__" s1 f fd)
    (T : ExK K C "ValueError.__new__" mV) (n0 : PySem.W.findIn K (.ref C) "faults" = some none)
    (b : BaseK K mg "ValueError" "ValueError" "ValueError.__init__") (mI : mg "isinstance" = none) (mL : mg "list" = none) :
    FnG P w K mg base CX0 1 f fd ["self", "faults"] (spList K C "faults") := by
  refine Fun_okG F sc1 (fun vs H Q E h => ?_) (fun cdv A outer s H vs Q E hst hr h => ?_)
  · obtain ⟨a, l, xs, d, rfl, _⟩ := h
    rfl
  · obtain ⟨a, l, xs, d, rfl, ha, hl, hd, h1, h2, h3, h4, k⟩ := h
    refine ⟨_, pss_cons (ps_expr (pe_bin base_V rfl b.mg bo_V ty_V st_V b.ini (by decide +kernel)
      (pa_cons (pv 0) (pa_cons (pe_joined (.cons pe_str (.cons (pe_fmtD hst hr.units (pv 1)) .nil))) pa_nil))))
      (pss_one (ps_setE (pv 0) (pe_ifExp (pt_val (pe_callB call_isi (by rfl) mI (by decide +kernel)
        (pa_cons (pv 1) (pa_cons (pe_bltn (v := .ty "list") rfl mL (by decide +kernel) rfl) pa_nil))))
        (pe_callTy call_list_of (by rfl) mL (by decide +kernel) (pa_cons (pv 1) pa_nil)) (pv 1)))), ?_⟩
    have l1 := plus none0 (b := (Str.ofString "the program has the faults ")) (m := 400) (by decide +kernel)
    refine ⟨_, rfl, _, rfl, line l1, _, rfl, l, d, rfl, hd, h1, h2, h3, line h4, _, rfl, line (plus l1 h4), ?_⟩
    refine ⟨a, C, _, rfl, (by show 1 ≤ 1000; decide), T, ha, ?_⟩
    refine ⟨_, rfl, _, _, .type "list", .type "list", true, rfl, .ty _, .base (.lst hl), kit_ty (by decide +kernel), true, rfl, ?_⟩
    refine iteT ⟨_, rfl, l, xs, rfl, .inl (SqL.of hl), fun l' hl' => ?_⟩
    have nl : l' ≠ a := fun z => by rw [z, ha] at hl'; cases hl'
    refine ⟨_, rfl, a, C, rfl, ⟨_, _, _, _, base_V, T⟩, n0, .inl ⟨by rw [upd_ne (Ne.symm nl)]; exact ha, fun dx m1 m2 => ?_⟩⟩
    obtain ⟨q1, q2⟩ := done_put (C := C) (fs := [("faults", V.ref l')]) m1 m2
    refine k l' _ hl' (fun b o e hb => q1 b o (by rw [upd_ne (ne_of_none e hl')]; exact e) hb) (q1 _ _ upd_same nl) q2
abbrev s2 : Stmt := inClass (top 3) 0
theorem sc2 : FnScope ["self", "number"] ["self", "number"] (defScope s2) :=
  ⟨rfl, rfl, rfl, by decide +kernel, rfl, by decide +kernel, by decide +kernel⟩
theorem ok2 {f C : Addr} {fd : FuncData} (F : Fun K "__init__" "Gap.__init__" s2 f fd)
    (T : ExK K C "ValueError.__new__" mV) (n0 : PySem.W.findIn K (.ref C) "number" = some none)
    (b : BaseK K mg "ValueError" "ValueError" "ValueError.__init__")  :
    FnOk P w K mg base CX0 1 f fd ["self", "number"] (spOne C "number") := by
  refine F.ok sc2 (fun vs H Q E h => ?_) (fun cdv A outer s H vs Q E hr h => ?_)
  · obtain ⟨a, v, rfl, _⟩ := h
    rfl
  · obtain ⟨a, v, rfl, ha, hv, k⟩ := h
    refine ⟨_, pss_cons (ps_expr (pe_bin base_V rfl b.mg bo_V ty_V st_V b.ini (by decide +kernel)
      (pa_cons (pv 0) (pa_cons (pe_joined (.cons pe_str (.cons (pe_fmt (pv 1)) .nil))) pa_nil)))) (pss_one (ps_setE (pv 0) (pv 1))), ?_⟩
    refine ⟨_, rfl, ?_⟩
    have l0 := plus none0 (b := (Str.ofString "the next input has the number ")) (m := 400) (by decide +kernel)
    refine ⟨_, rfl, line l0, ?_⟩
    refine ⟨_, rfl, show_short hv fun y1 z1 => ?_⟩
    have l1 := plus l0 z1
    refine ⟨_, rfl, line l1, ?_⟩
    refine ⟨a, C, _, rfl, (by show 1 ≤ 1000; decide), T, ha, ?_⟩
    refine ⟨_, rfl, _, rfl, a, C, rfl, ⟨_, _, _, _, base_V, T⟩, n0, .inl ⟨ha, fun dx m1 m2 => ?_⟩⟩
    exact k _ (done_put m1 m2).1 (done_put m1 m2).2
abbrev s3 : Stmt := inClass (top 4) 0
theorem sc3 : FnScope ["self", "number"] ["self", "number"] (defScope s3) :=
  ⟨rfl, rfl, rfl, by decide +kernel, rfl, by decide +kernel, by decide +kernel⟩
theorem ok3 {f C : Addr} {fd : FuncData} (F : Fun K "__init__" "BadLine.__init__" s3 f fd)
    (T : ExK K C "ValueError.__new__" mV) (n0 : PySem.W.findIn K (.ref C) "number" = some none)
    (b : BaseK K mg "ValueError" "ValueError" "ValueError.__init__")  :
    FnOk P w K mg base CX0 1 f fd ["self", "number"] (spOne C "number") := by
  refine F.ok sc3 (fun vs H Q E h => ?_) (fun cdv A outer s H vs Q E hr h => ?_)
  · obtain ⟨a, v, rfl, _⟩ := h
    rfl
  · obtain ⟨a, v, rfl, ha, hv, k⟩ := h
    refine ⟨_, pss_cons (ps_expr (pe_bin base_V rfl b.mg bo_V ty_V st_V b.ini (by decide +kernel)
      (pa_cons (pv 0) (pa_cons (pe_joined (.cons pe_str (.cons (pe_fmt (pv 1)) (.cons pe_str .nil)))) pa_nil)))) (pss_one (ps_setE (pv 0) (pv 1))), ?_⟩
    refine ⟨_, rfl, ?_⟩
    have l0 := plus none0 (b := (Str.ofString "line ")) (m := 400) (by decide +kernel)
    refine ⟨_, rfl, line l0, ?_⟩
    refine ⟨_, rfl, show_short hv fun y1 z1 => ?_⟩
    have l1 := plus l0 z1
    refine ⟨_, rfl, line l1, ?_⟩
    have l2 := plus l1 (b := (Str.ofString " has the wrong form")) (m := 400) (by decide +kernel)
    refine ⟨_, rfl, line l2, ?_⟩
    refine ⟨a, C, _, rfl, (by show 1 ≤ 1000; decide), T, ha, ?_⟩
    refine ⟨_, rfl, _, rfl, a, C, rfl, ⟨_, _, _, _, base_V, T⟩, n0, .inl ⟨ha, fun dx m1 m2 => ?_⟩⟩
    exact k _ (done_put m1 m2).1 (done_put m1 m2).2
abbrev s4 : Stmt := inClass (top 5) 0
theorem sc4 : FnScope ["self", "number"] ["self", "number"] (defScope s4) :=
  ⟨rfl, rfl, rfl, by decide +kernel, rfl, by decide +kernel, by decide +kernel⟩
theorem ok4 {f C : Addr} {fd : FuncData} (F : Fun K "__init__" "NoLoose.__init__" s4 f fd)
    (T : ExK K C "ValueError.__new__" mV) (n0 : PySem.W.findIn K (.ref C) "number" = some none)
    (b : BaseK K mg "ValueError" "ValueError" "ValueError.__init__")  :
    FnOk P w K mg base CX0 1 f fd ["self", "number"] (spOne C "number") := by
  refine F.ok sc4 (fun vs H Q E h => ?_) (fun cdv A outer s H vs Q E hr h => ?_)
  · obtain ⟨a, v, rfl, _⟩ := h
    rfl
  · obtain ⟨a, v, rfl, ha, hv, k⟩ := h
    refine ⟨_, pss_cons (ps_expr (pe_bin base_V rfl b.mg bo_V ty_V st_V b.ini (by decide +kernel)
      (pa_cons (pv 0) (pa_cons (pe_joined (.cons pe_str (.cons (pe_fmt (pv 1)) .nil))) pa_nil)))) (pss_one (ps_setE (pv 0) (pv 1))), ?_⟩
    refine ⟨_, rfl, ?_⟩
    have l0 := plus none0 (b := (Str.ofString "there is no loose write ")) (m := 400) (by decide +kernel)
    refine ⟨_, rfl, line l0, ?_⟩
    refine ⟨_, rfl, show_short hv fun y1 z1 => ?_⟩
    have l1 := plus l0 z1
    refine ⟨_, rfl, line l1, ?_⟩
    refine ⟨a, C, _, rfl, (by show 1 ≤ 1000; decide), T, ha, ?_⟩
    refine ⟨_, rfl, _, rfl, a, C, rfl, ⟨_, _, _, _, base_V, T⟩, n0, .inl ⟨ha, fun dx m1 m2 => ?_⟩⟩
    exact k _ (done_put m1 m2).1 (done_put m1 m2).2
abbrev s5 : Stmt := inClass (top 6) 0
theorem sc5 : FnScope ["self", "block"] ["self", "block"] (defScope s5) :=
  ⟨rfl, rfl, rfl, by decide +kernel, rfl, by decide +kernel, by decide +kernel⟩
theorem ok5 {f C : Addr} {fd : FuncData} (F : Fun K "__init__" "NoCut.__init__" s5 f fd)
    (T : ExK K C "ValueError.__new__" mV) (n0 : PySem.W.findIn K (.ref C) "block" = some none)
    (b : BaseK K mg "ValueError" "ValueError" "ValueError.__init__")  :
    FnOk P w K mg base CX0 1 f fd ["self", "block"] (spOne C "block") := by
  refine F.ok sc5 (fun vs H Q E h => ?_) (fun cdv A outer s H vs Q E hr h => ?_)
  · obtain ⟨a, v, rfl, _⟩ := h
    rfl
  · obtain ⟨a, v, rfl, ha, hv, k⟩ := h
    refine ⟨_, pss_cons (ps_expr (pe_bin base_V rfl b.mg bo_V ty_V st_V b.ini (by decide +kernel)
      (pa_cons (pv 0) (pa_cons (pe_joined (.cons pe_str (.cons (pe_fmt (pv 1)) .nil))) pa_nil)))) (pss_one (ps_setE (pv 0) (pv 1))), ?_⟩
    refine ⟨_, rfl, ?_⟩
    have l0 := plus none0 (b := (Str.ofString "the log cannot be cut at block ")) (m := 400) (by decide +kernel)
    refine ⟨_, rfl, line l0, ?_⟩
    refine ⟨_, rfl, show_short hv fun y1 z1 => ?_⟩
    have l1 := plus l0 z1
    refine ⟨_, rfl, line l1, ?_⟩
    refine ⟨a, C, _, rfl, (by show 1 ≤ 1000; decide), T, ha, ?_⟩
    refine ⟨_, rfl, _, rfl, a, C, rfl, ⟨_, _, _, _, base_V, T⟩, n0, .inl ⟨ha, fun dx m1 m2 => ?_⟩⟩
    exact k _ (done_put m1 m2).1 (done_put m1 m2).2
abbrev s6 : Stmt := inClass (top 7) 0
theorem sc6 : FnScope ["self", "index"] ["self", "index"] (defScope s6) :=
  ⟨rfl, rfl, rfl, by decide +kernel, rfl, by decide +kernel, by decide +kernel⟩
theorem ok6 {f C : Addr} {fd : FuncData} (F : Fun K "__init__" "NoHistory.__init__" s6 f fd)
    (T : ExK K C "ValueError.__new__" mV) (n0 : PySem.W.findIn K (.ref C) "index" = some none)
    (b : BaseK K mg "ValueError" "ValueError" "ValueError.__init__")  :
    FnOk P w K mg base CX0 1 f fd ["self", "index"] (spOne C "index") := by
  refine F.ok sc6 (fun vs H Q E h => ?_) (fun cdv A outer s H vs Q E hr h => ?_)
  · obtain ⟨a, v, rfl, _⟩ := h
    rfl
  · obtain ⟨a, v, rfl, ha, hv, k⟩ := h
    refine ⟨_, pss_cons (ps_expr (pe_bin base_V rfl b.mg bo_V ty_V st_V b.ini (by decide +kernel)
      (pa_cons (pv 0) (pa_cons (pe_joined (.cons pe_str (.cons (pe_fmt (pv 1)) (.cons pe_str .nil)))) pa_nil)))) (pss_one (ps_setE (pv 0) (pv 1))), ?_⟩
    refine ⟨_, rfl, ?_⟩
    have l0 := plus none0 (b := (Str.ofString "event ")) (m := 400) (by decide +kernel)
    refine ⟨_, rfl, line l0, ?_⟩
    refine ⟨_, rfl, show_short hv fun y1 z1 => ?_⟩
    have l1 := plus l0 z1
    refine ⟨_, rfl, line l1, ?_⟩
    have l2 := plus l1 (b := (Str.ofString " cannot be applied")) (m := 400) (by decide +kernel)
    refine ⟨_, rfl, line l2, ?_⟩
    refine ⟨a, C, _, rfl, (by show 1 ≤ 1000; decide), T, ha, ?_⟩
    refine ⟨_, rfl, _, rfl, a, C, rfl, ⟨_, _, _, _, base_V, T⟩, n0, .inl ⟨ha, fun dx m1 m2 => ?_⟩⟩
    exact k _ (done_put m1 m2).1 (done_put m1 m2).2
abbrev s7 : Stmt := inClass (top 8) 0
theorem sc7 : FnScope ["self", "ref"] ["self", "ref"] (defScope s7) :=
  ⟨rfl, rfl, rfl, by decide +kernel, rfl, by decide +kernel, by decide +kernel⟩
theorem ok7 {f C : Addr} {fd : FuncData} (F : Fun K "__init__" "NoObject.__init__" s7 f fd)
    (T : ExK K C "LookupError.__new__" mL) (n0 : PySem.W.findIn K (.ref C) "ref" = some none)
    (b : BaseK K mg "LookupError" "LookupError" "LookupError.__init__")  :
    FnOk P w K mg base CX0 1 f fd ["self", "ref"] (spOne C "ref") := by
  refine F.ok sc7 (fun vs H Q E h => ?_) (fun cdv A outer s H vs Q E hr h => ?_)
  · obtain ⟨a, v, rfl, _⟩ := h
    rfl
  · obtain ⟨a, v, rfl, ha, hv, k⟩ := h
    refine ⟨_, pss_cons (ps_expr (pe_bin base_L rfl b.mg bo_L ty_L st_L b.ini (by decide +kernel)
      (pa_cons (pv 0) (pa_cons (pe_joined (.cons pe_str (.cons (pe_fmt (pv 1)) .nil))) pa_nil)))) (pss_one (ps_setE (pv 0) (pv 1))), ?_⟩
    refine ⟨_, rfl, ?_⟩
    have l0 := plus none0 (b := (Str.ofString "there is no object ")) (m := 400) (by decide +kernel)
    refine ⟨_, rfl, line l0, ?_⟩
    refine ⟨_, rfl, show_short hv fun y1 z1 => ?_⟩
    have l1 := plus l0 z1
    refine ⟨_, rfl, line l1, ?_⟩
    refine ⟨a, C, _, rfl, (by show 1 ≤ 1000; decide), T, ha, ?_⟩
    refine ⟨_, rfl, _, rfl, a, C, rfl, ⟨_, _, _, _, base_L, T⟩, n0, .inl ⟨ha, fun dx m1 m2 => ?_⟩⟩
    exact k _ (done_put m1 m2).1 (done_put m1 m2).2
abbrev s8 : Stmt := inClass (top 9) 0
theorem sc8 : FnScope ["self", "place"] ["self", "place"] (defScope s8) :=
  ⟨rfl, rfl, rfl, by decide +kernel, rfl, by decide +kernel, by decide +kernel⟩
theorem ok8 {f C : Addr} {fd : FuncData} (F : Fun K "__init__" "NoPlace.__init__" s8 f fd)
    (T : ExK K C "LookupError.__new__" mL) (n0 : PySem.W.findIn K (.ref C) "place" = some none)
    (b : BaseK K mg "LookupError" "LookupError" "LookupError.__init__")  :
    FnOk P w K mg base CX0 1 f fd ["self", "place"] (spOne C "place") := by
  refine F.ok sc8 (fun vs H Q E h => ?_) (fun cdv A outer s H vs Q E hr h => ?_)
  · obtain ⟨a, v, rfl, _⟩ := h
    rfl
  · obtain ⟨a, v, rfl, ha, hv, k⟩ := h
    refine ⟨_, pss_cons (ps_expr (pe_bin base_L rfl b.mg bo_L ty_L st_L b.ini (by decide +kernel)
      (pa_cons (pv 0) (pa_cons (pe_joined (.cons pe_str (.cons (pe_fmt (pv 1)) .nil))) pa_nil)))) (pss_one (ps_setE (pv 0) (pv 1))), ?_⟩
    refine ⟨_, rfl, ?_⟩
    have l0 := plus none0 (b := (Str.ofString "the object has no place ")) (m := 400) (by decide +kernel)
    refine ⟨_, rfl, line l0, ?_⟩
    refine ⟨_, rfl, show_short hv fun y1 z1 => ?_⟩
    have l1 := plus l0 z1
    refine ⟨_, rfl, line l1, ?_⟩
    refine ⟨a, C, _, rfl, (by show 1 ≤ 1000; decide), T, ha, ?_⟩
    refine ⟨_, rfl, _, rfl, a, C, rfl, ⟨_, _, _, _, base_L, T⟩, n0, .inl ⟨ha, fun dx m1 m2 => ?_⟩⟩
    exact k _ (done_put m1 m2).1 (done_put m1 m2).2
abbrev s9 : Stmt := inClass (top 10) 0
theorem sc9 : FnScope ["self", "place"] ["self", "place"] (defScope s9) :=
  ⟨rfl, rfl, rfl, by decide +kernel, rfl, by decide +kernel, by decide +kernel⟩
theorem ok9 {f C : Addr} {fd : FuncData} (F : Fun K "__init__" "NoBlock.__init__" s9 f fd)
    (T : ExK K C "LookupError.__new__" mL) (n0 : PySem.W.findIn K (.ref C) "place" = some none)
    (b : BaseK K mg "LookupError" "LookupError" "LookupError.__init__")  :
    FnOk P w K mg base CX0 1 f fd ["self", "place"] (spOne C "place") := by
  refine F.ok sc9 (fun vs H Q E h => ?_) (fun cdv A outer s H vs Q E hr h => ?_)
  · obtain ⟨a, v, rfl, _⟩ := h
    rfl
  · obtain ⟨a, v, rfl, ha, hv, k⟩ := h
    refine ⟨_, pss_cons (ps_expr (pe_bin base_L rfl b.mg bo_L ty_L st_L b.ini (by decide +kernel)
      (pa_cons (pv 0) (pa_cons (pe_joined (.cons pe_str (.cons (pe_fmt (pv 1)) .nil))) pa_nil)))) (pss_one (ps_setE (pv 0) (pv 1))), ?_⟩
    refine ⟨_, rfl, ?_⟩
    have l0 := plus none0 (b := (Str.ofString "the disk has no block ")) (m := 400) (by decide +kernel)
    refine ⟨_, rfl, line l0, ?_⟩
    refine ⟨_, rfl, show_short hv fun y1 z1 => ?_⟩
    have l1 := plus l0 z1
    refine ⟨_, rfl, line l1, ?_⟩
    refine ⟨a, C, _, rfl, (by show 1 ≤ 1000; decide), T, ha, ?_⟩
    refine ⟨_, rfl, _, rfl, a, C, rfl, ⟨_, _, _, _, base_L, T⟩, n0, .inl ⟨ha, fun dx m1 m2 => ?_⟩⟩
    exact k _ (done_put m1 m2).1 (done_put m1 m2).2
abbrev s10 : Stmt := inClass (top 11) 0
theorem sc10 : FnScope ["self", "number"] ["self", "number"] (defScope s10) :=
  ⟨rfl, rfl, rfl, by decide +kernel, rfl, by decide +kernel, by decide +kernel⟩
theorem ok10 {f C : Addr} {fd : FuncData} (F : Fun K "__init__" "NoOutput.__init__" s10 f fd)
    (T : ExK K C "LookupError.__new__" mL) (n0 : PySem.W.findIn K (.ref C) "number" = some none)
    (b : BaseK K mg "LookupError" "LookupError" "LookupError.__init__")  :
    FnOk P w K mg base CX0 1 f fd ["self", "number"] (spOne C "number") := by
  refine F.ok sc10 (fun vs H Q E h => ?_) (fun cdv A outer s H vs Q E hr h => ?_)
  · obtain ⟨a, v, rfl, _⟩ := h
    rfl
  · obtain ⟨a, v, rfl, ha, hv, k⟩ := h
    refine ⟨_, pss_cons (ps_expr (pe_bin base_L rfl b.mg bo_L ty_L st_L b.ini (by decide +kernel)
      (pa_cons (pv 0) (pa_cons (pe_joined (.cons pe_str (.cons (pe_fmt (pv 1)) (.cons pe_str .nil)))) pa_nil)))) (pss_one (ps_setE (pv 0) (pv 1))), ?_⟩
    refine ⟨_, rfl, ?_⟩
    have l0 := plus none0 (b := (Str.ofString "output ")) (m := 400) (by decide +kernel)
    refine ⟨_, rfl, line l0, ?_⟩
    refine ⟨_, rfl, show_short hv fun y1 z1 => ?_⟩
    have l1 := plus l0 z1
    refine ⟨_, rfl, line l1, ?_⟩
    have l2 := plus l1 (b := (Str.ofString " was not released")) (m := 400) (by decide +kernel)
    refine ⟨_, rfl, line l2, ?_⟩
    refine ⟨a, C, _, rfl, (by show 1 ≤ 1000; decide), T, ha, ?_⟩
    refine ⟨_, rfl, _, rfl, a, C, rfl, ⟨_, _, _, _, base_L, T⟩, n0, .inl ⟨ha, fun dx m1 m2 => ?_⟩⟩
    exact k _ (done_put m1 m2).1 (done_put m1 m2).2
abbrev s11 : Stmt := inClass (top 12) 0
theorem sc11 : FnScope ["self", "number"] ["self", "number"] (defScope s11) :=
  ⟨rfl, rfl, rfl, by decide +kernel, rfl, by decide +kernel, by decide +kernel⟩
theorem ok11 {f C : Addr} {fd : FuncData} (F : Fun K "__init__" "Gone.__init__" s11 f fd)
    (T : ExK K C "LookupError.__new__" mL) (n0 : PySem.W.findIn K (.ref C) "number" = some none)
    (b : BaseK K mg "LookupError" "LookupError" "LookupError.__init__")  :
    FnOk P w K mg base CX0 1 f fd ["self", "number"] (spOne C "number") := by
  refine F.ok sc11 (fun vs H Q E h => ?_) (fun cdv A outer s H vs Q E hr h => ?_)
  · obtain ⟨a, v, rfl, _⟩ := h
    rfl
  · obtain ⟨a, v, rfl, ha, hv, k⟩ := h
    refine ⟨_, pss_cons (ps_expr (pe_bin base_L rfl b.mg bo_L ty_L st_L b.ini (by decide +kernel)
      (pa_cons (pv 0) (pa_cons (pe_joined (.cons pe_str (.cons (pe_fmt (pv 1)) (.cons pe_str .nil)))) pa_nil)))) (pss_one (ps_setE (pv 0) (pv 1))), ?_⟩
    refine ⟨_, rfl, ?_⟩
    have l0 := plus none0 (b := (Str.ofString "the log does not have the RECORDs from ")) (m := 400) (by decide +kernel)
    refine ⟨_, rfl, line l0, ?_⟩
    refine ⟨_, rfl, show_short hv fun y1 z1 => ?_⟩
    have l1 := plus l0 z1
    refine ⟨_, rfl, line l1, ?_⟩
    have l2 := plus l1 (b := (Str.ofString " on")) (m := 400) (by decide +kernel)
    refine ⟨_, rfl, line l2, ?_⟩
    refine ⟨a, C, _, rfl, (by show 1 ≤ 1000; decide), T, ha, ?_⟩
    refine ⟨_, rfl, _, rfl, a, C, rfl, ⟨_, _, _, _, base_L, T⟩, n0, .inl ⟨ha, fun dx m1 m2 => ?_⟩⟩
    exact k _ (done_put m1 m2).1 (done_put m1 m2).2
abbrev s12 : Stmt := inClass (top 13) 0
theorem sc12 : FnScope ["self", "task", "depth", "word"] ["self", "task", "depth", "word"] (defScope s12) :=
  ⟨rfl, rfl, rfl, by decide +kernel, rfl, by decide +kernel, by decide +kernel⟩
theorem ok12 {f C : Addr} {fd : FuncData} (F : Fun K "__init__" "Refused.__init__" s12 f fd)
    (T : ExK K C "RuntimeError.__new__" mR) (n0 : PySem.W.findIn K (.ref C) "task" = some none) (n1 : PySem.W.findIn K (.ref C) "depth" = some none) (n2 : PySem.W.findIn K (.ref C) "word" = some none)
    (b : BaseK K mg "RuntimeError" "RuntimeError" "RuntimeError.__init__")  :
    FnOk P w K mg base CX0 1 f fd ["self", "task", "depth", "word"] (spThree C "task" "depth" "word") := by
  refine F.ok sc12 (fun vs H Q E h => ?_) (fun cdv A outer s H vs Q E hr h => ?_)
  · obtain ⟨a, v, u, w, rfl, _⟩ := h
    rfl
  · obtain ⟨a, v, u, w, rfl, ha, hv, hu, hw, k⟩ := h
    refine ⟨_, pss_cons (ps_expr (pe_bin base_R rfl b.mg bo_R ty_R st_R b.ini (by decide +kernel)
      (pa_cons (pv 0) (pa_cons (pe_joined (.cons pe_str (.cons (pe_fmt (pv 2)) (.cons pe_str (.cons (pe_fmt (pv 1)) (.cons pe_str (.cons (pe_fmt (pv 3)) .nil))))))) pa_nil)))) (pss_cons (ps_setE (pv 0) (pv 1)) (pss_cons (ps_setE (pv 0) (pv 2)) (pss_one (ps_setE (pv 0) (pv 3))))), ?_⟩
    refine ⟨_, rfl, ?_⟩
    have l0 := plus none0 (b := (Str.ofString "frame ")) (m := 400) (by decide +kernel)
    refine ⟨_, rfl, line l0, ?_⟩
    refine ⟨_, rfl, show_short hu fun y1 z1 => ?_⟩
    have l1 := plus l0 z1
    refine ⟨_, rfl, line l1, ?_⟩
    have l2 := plus l1 (b := (Str.ofString " of task ")) (m := 400) (by decide +kernel)
    refine ⟨_, rfl, line l2, ?_⟩
    refine ⟨_, rfl, show_short hv fun y3 z3 => ?_⟩
    have l3 := plus l2 z3
    refine ⟨_, rfl, line l3, ?_⟩
    have l4 := plus l3 (b := (Str.ofString " cannot go on: ")) (m := 400) (by decide +kernel)
    refine ⟨_, rfl, line l4, ?_⟩
    refine ⟨_, rfl, show_short hw fun y5 z5 => ?_⟩
    have l5 := plus l4 z5
    refine ⟨_, rfl, line l5, ?_⟩
    refine ⟨a, C, _, rfl, (by show 1 ≤ 1000; decide), T, ha, ?_⟩
    have X : IsEx K C := ⟨_, _, _, _, base_R, T⟩
    refine ⟨_, rfl, _, rfl, a, C, rfl, X, n0, .inl ⟨ha, fun dx m1 m2 => ?_⟩⟩
    refine ⟨_, rfl, _, rfl, a, C, rfl, X, n1, .inr ⟨dx, _, upd_same, by rw [upd_ne m2, upd_same], (by show 1 ≤ 900; decide), ?_⟩⟩
    refine ⟨_, rfl, _, rfl, a, C, rfl, X, n2, .inr ⟨dx, _, by rw [upd_ne (Ne.symm m2), upd_same], upd_same, (by show 2 ≤ 900; decide), ?_⟩⟩
    exact k _ (done_put3 m1 m2).1 (done_put3 m1 m2).2
abbrev s13 : Stmt := inClass (top 14) 0
theorem sc13 : FnScope ["self"] ["self"] (defScope s13) :=
  ⟨rfl, rfl, rfl, by decide +kernel, rfl, by decide +kernel, by decide +kernel⟩
theorem ok13 {f C : Addr} {fd : FuncData} (F : Fun K "__init__" "Busy.__init__" s13 f fd)
    (T : ExK K C "RuntimeError.__new__" mR) 
    (b : BaseK K mg "RuntimeError" "RuntimeError" "RuntimeError.__init__")  :
    FnOk P w K mg base CX0 1 f fd ["self"] (spNone C) := by
  refine F.ok sc13 (fun vs H Q E h => ?_) (fun cdv A outer s H vs Q E hr h => ?_)
  · obtain ⟨a, rfl, _⟩ := h
    rfl
  · obtain ⟨a, rfl, ha, k⟩ := h
    refine ⟨_, pss_one (ps_expr (pe_bin base_R rfl b.mg bo_R ty_R st_R b.ini (by decide +kernel)
      (pa_cons (pv 0) (pa_cons pe_str pa_nil)))), ?_⟩
    exact ⟨_, rfl, a, C, _, rfl, (by show 1 ≤ 1000; decide), T, ha, k _ (fun b o e _ => e) (.inl ⟨rfl, ha⟩)⟩
abbrev s14 : Stmt := inClass (top 15) 0
theorem sc14 : FnScope ["self"] ["self"] (defScope s14) :=
  ⟨rfl, rfl, rfl, by decide +kernel, rfl, by decide +kernel, by decide +kernel⟩
theorem ok14 {f C : Addr} {fd : FuncData} (F : Fun K "__init__" "Idle.__init__" s14 f fd)
    (T : ExK K C "RuntimeError.__new__" mR) 
    (b : BaseK K mg "RuntimeError" "RuntimeError" "RuntimeError.__init__")  :
    FnOk P w K mg base CX0 1 f fd ["self"] (spNone C) := by
  refine F.ok sc14 (fun vs H Q E h => ?_) (fun cdv A outer s H vs Q E hr h => ?_)
  · obtain ⟨a, rfl, _⟩ := h
    rfl
  · obtain ⟨a, rfl, ha, k⟩ := h
    refine ⟨_, pss_one (ps_expr (pe_bin base_R rfl b.mg bo_R ty_R st_R b.ini (by decide +kernel)
      (pa_cons (pv 0) (pa_cons pe_str pa_nil)))), ?_⟩
    exact ⟨_, rfl, a, C, _, rfl, (by show 1 ≤ 1000; decide), T, ha, k _ (fun b o e _ => e) (.inl ⟨rfl, ha⟩)⟩
abbrev s15 : Stmt := inClass (top 16) 0
theorem sc15 : FnScope ["self"] ["self"] (defScope s15) :=
  ⟨rfl, rfl, rfl, by decide +kernel, rfl, by decide +kernel, by decide +kernel⟩
theorem ok15 {f C : Addr} {fd : FuncData} (F : Fun K "__init__" "Stopped.__init__" s15 f fd)
    (T : ExK K C "RuntimeError.__new__" mR) 
    (b : BaseK K mg "RuntimeError" "RuntimeError" "RuntimeError.__init__")  :
    FnOk P w K mg base CX0 1 f fd ["self"] (spNone C) := by
  refine F.ok sc15 (fun vs H Q E h => ?_) (fun cdv A outer s H vs Q E hr h => ?_)
  · obtain ⟨a, rfl, _⟩ := h
    rfl
  · obtain ⟨a, rfl, ha, k⟩ := h
    refine ⟨_, pss_one (ps_expr (pe_bin base_R rfl b.mg bo_R ty_R st_R b.ini (by decide +kernel)
      (pa_cons (pv 0) (pa_cons pe_str pa_nil)))), ?_⟩
    exact ⟨_, rfl, a, C, _, rfl, (by show 1 ≤ 1000; decide), T, ha, k _ (fun b o e _ => e) (.inl ⟨rfl, ha⟩)⟩
abbrev s16 : Stmt := inClass (top 17) 0
theorem sc16 : FnScope ["self"] ["self"] (defScope s16) :=
  ⟨rfl, rfl, rfl, by decide +kernel, rfl, by decide +kernel, by decide +kernel⟩
theorem ok16 {f C : Addr} {fd : FuncData} (F : Fun K "__init__" "NoRoot.__init__" s16 f fd)
    (T : ExK K C "RuntimeError.__new__" mR) 
    (b : BaseK K mg "RuntimeError" "RuntimeError" "RuntimeError.__init__")  :
    FnOk P w K mg base CX0 1 f fd ["self"] (spNone C) := by
  refine F.ok sc16 (fun vs H Q E h => ?_) (fun cdv A outer s H vs Q E hr h => ?_)
  · obtain ⟨a, rfl, _⟩ := h
    rfl
  · obtain ⟨a, rfl, ha, k⟩ := h
    refine ⟨_, pss_one (ps_expr (pe_bin base_R rfl b.mg bo_R ty_R st_R b.ini (by decide +kernel)
      (pa_cons (pv 0) (pa_cons pe_str pa_nil)))), ?_⟩
    exact ⟨_, rfl, a, C, _, rfl, (by show 1 ≤ 1000; decide), T, ha, k _ (fun b o e _ => e) (.inl ⟨rfl, ha⟩)⟩
abbrev s17 : Stmt := inClass (top 18) 0
theorem sc17 : FnScope ["self", "count"] ["self", "count"] (defScope s17) :=
  ⟨rfl, rfl, rfl, by decide +kernel, rfl, by decide +kernel, by decide +kernel⟩
theorem ok17 {f C : Addr} {fd : FuncData} (F : Fun K "__init__" "Full.__init__" s17 f fd)
    (T : ExK K C "OverflowError.__new__" mO) (n0 : PySem.W.findIn K (.ref C) "count" = some none)
    (b : BaseK K mg "OverflowError" "OverflowError" "OverflowError.__init__")  :
    FnOk P w K mg base CX0 1 f fd ["self", "count"] (spOne C "count") := by
  refine F.ok sc17 (fun vs H Q E h => ?_) (fun cdv A outer s H vs Q E hr h => ?_)
  · obtain ⟨a, v, rfl, _⟩ := h
    rfl
  · obtain ⟨a, v, rfl, ha, hv, k⟩ := h
    refine ⟨_, pss_cons (ps_expr (pe_bin base_O rfl b.mg bo_O ty_O st_O b.ini (by decide +kernel)
      (pa_cons (pv 0) (pa_cons (pe_joined (.cons (pe_fmt (pv 1)) (.cons pe_str .nil))) pa_nil)))) (pss_one (ps_setE (pv 0) (pv 1))), ?_⟩
    refine ⟨_, rfl, ?_⟩
    refine ⟨_, rfl, show_short hv fun y0 z0 => ?_⟩
    have l0 := plus none0 z0
    refine ⟨_, rfl, line l0, ?_⟩
    have l1 := plus l0 (b := (Str.ofString " blocks are too few")) (m := 400) (by decide +kernel)
    refine ⟨_, rfl, line l1, ?_⟩
    refine ⟨a, C, _, rfl, (by show 1 ≤ 1000; decide), T, ha, ?_⟩
    refine ⟨_, rfl, _, rfl, a, C, rfl, ⟨_, _, _, _, base_O, T⟩, n0, .inl ⟨ha, fun dx m1 m2 => ?_⟩⟩
    exact k _ (done_put m1 m2).1 (done_put m1 m2).2
end
end K09

set_option Elab.async false
set_option linter.all false
set_option maxRecDepth 100000
set_option maxHeartbeats 4000000
namespace K09
open PySem L2 JB
/-- data that can be shown -/
structure Fine (d : PyData) : Prop where
  sh : d.showable = true
  nd : d.hasDict = false
  dp : d.depth ≤ 60
  ln : d.shown.length ≤ sizeLine
def spSame (K : PySem.W.Frag) : Sp := fun vs H Q _ => ∃ (a b : Addr) (d e : PyData), vs = [.ref a, .ref b] ∧ Dp K H (.ref a) d ∧
  Dp K H (.ref b) e ∧ Fine d ∧ Fine e ∧ Q (.bl (decide (V.str d.shown = V.str e.shown))) H
abbrev sSame : Stmt := top 28
abbrev sKinds : Stmt := top 29
abbrev sBases : Stmt := top 30
/-- the classes and what the written part says of them -/
structure AllC (K : PySem.W.Frag) (mg : Str → Option Value) (c : Nat → Addr) : Prop where
  ex : ∀ j, j < 18 → IsEx K (c j)
  own : ∀ i j, i < 18 → j < 18 → PySem.W.kitOne K (.ref (c j)) (.ref (c i)) = some (decide (i = j))
  tV : ∀ j, j < 18 → PySem.W.kitOne K (.ref (c j)) (.type "ValueError") = some (decide (j < 7))
  tL : ∀ j, j < 18 → PySem.W.kitOne K (.ref (c j)) (.type "LookupError") = some (decide (6 < j ∧ j < 12))
  tR : ∀ j, j < 18 → PySem.W.kitOne K (.ref (c j)) (.type "RuntimeError") = some (decide (11 < j ∧ j < 17))
  tO : ∀ j, j < 18 → PySem.W.kitOne K (.ref (c j)) (.type "OverflowError") = some (decide (16 < j))
  tM : ∀ j, j < 18 → PySem.W.kitAny K (.ref (c j)) [.type "KeyError", .type "IndexError", .type "NotImplementedError"] = some false
  g : ClsG K
  g0 : mg "BadText" = some (.ref (c 0))
  g1 : mg "Unsound" = some (.ref (c 1))
  g2 : mg "Gap" = some (.ref (c 2))
  g3 : mg "BadLine" = some (.ref (c 3))
  g4 : mg "NoLoose" = some (.ref (c 4))
  g5 : mg "NoCut" = some (.ref (c 5))
  g6 : mg "NoHistory" = some (.ref (c 6))
  g7 : mg "NoObject" = some (.ref (c 7))
  g8 : mg "NoPlace" = some (.ref (c 8))
  g9 : mg "NoBlock" = some (.ref (c 9))
  g10 : mg "NoOutput" = some (.ref (c 10))
  g11 : mg "Gone" = some (.ref (c 11))
  g12 : mg "Refused" = some (.ref (c 12))
  g13 : mg "Busy" = some (.ref (c 13))
  g14 : mg "Idle" = some (.ref (c 14))
  g15 : mg "Stopped" = some (.ref (c 15))
  g16 : mg "NoRoot" = some (.ref (c 16))
  g17 : mg "Full" = some (.ref (c 17))
  misinstance : mg "isinstance" = none
  mrepr : mg "repr" = none
  mValueError : mg "ValueError" = none
  mLookupError : mg "LookupError" = none
  mRuntimeError : mg "RuntimeError" = none
  mOverflowError : mg "OverflowError" = none
  mKeyError : mg "KeyError" = none
  mIndexError : mg "IndexError" = none
  mNotImplementedError : mg "NotImplementedError" = none
def spKinds (c : Nat → Addr) : Sp := fun vs H Q _ => ∃ (a : Addr) (j : Nat) (fs : List (Str × V)), vs = [.ref a] ∧ j < 18 ∧
  ErrIs H a (c j) fs ∧ ∀ l H', Same H H' → H' l = some (.lst ((List.range 18).map fun i => V.bl (decide (i = j)))) → Q (.ref l) H'
def spBases (c : Nat → Addr) : Sp := fun vs H Q _ => ∃ (a : Addr) (j : Nat) (fs : List (Str × V)), vs = [.ref a] ∧ j < 18 ∧
  ErrIs H a (c j) fs ∧ ∀ l H', Same H H' → H' l = some (.lst [V.bl (decide (j < 7)), V.bl (decide (6 < j ∧ j < 12)),
    V.bl (decide (11 < j ∧ j < 17)), V.bl (decide (16 < j)), V.bl false]) → Q (.ref l) H'
theorem same_new {H : Hp} {p : Addr} {o : HO} (n : H p = none) : Same H (upd H p o) := fun b u e => by
  rw [upd_ne (ne_of_none e n)]; exact e
section
variable {P : Program} {w : World} {K : PySem.W.Frag} {mg : Str → Option Value} {base : Heap}
theorem scSame : FnScope ["_law_found", "_law_due"] ["_law_found", "_law_due"] (defScope sSame) :=
  ⟨rfl, rfl, rfl, by decide +kernel, rfl, by decide +kernel, by decide +kernel⟩
theorem okSame {f : Addr} {fd : FuncData} (F : Fun K "_law_same" "_law_same" sSame f fd) (mR : mg "repr" = none) :
    FnG P w K mg base CX0 1 f fd ["_law_found", "_law_due"] (spSame K) := by
  refine Fun_okG F scSame (fun vs H Q E h => ?_) (fun cdv A outer s H vs Q E hst hr h => ?_)
  · obtain ⟨a, b, d, e, rfl, _⟩ := h
    rfl
  · obtain ⟨a, b, d, e, rfl, h1, h2, h3, h4, k⟩ := h
    refine ⟨_, pss_one (ps_ret (pe_cmpR op_eq (pe_callB (call_show hst hr.units) (by rfl) mR (by decide +kernel) (pa_cons (pv 0) pa_nil))
      (pe_callB (call_show hst hr.units) (by rfl) mR (by decide +kernel) (pa_cons (pv 1) pa_nil)) (nomark _))), ?_⟩
    exact ⟨_, rfl, a, d, rfl, h1, h3.sh, h3.nd, h3.dp, h3.ln, _, rfl, b, e, rfl, h2, h4.sh, h4.nd, h4.dp, h4.ln, rfl, k⟩
theorem scKinds : FnScope ["_law_error", "_law_found"] ["_law_error"] (defScope sKinds) :=
  ⟨rfl, rfl, rfl, by decide +kernel, rfl, by decide +kernel, by decide +kernel⟩
theorem okKinds {f : Addr} {fd : FuncData} {c : Nat → Addr} (F : Fun K "_law_kinds" "_law_kinds" sKinds f fd) (T : AllC K mg c) :
    FnOk P w K mg base CX0 1 f fd ["_law_error"] (spKinds c) := by
  refine F.ok scKinds (fun vs H Q E h => ?_) (fun cdv A outer s H vs Q E hr h => ?_)
  · obtain ⟨a, j, fs, rfl, _⟩ := h
    rfl
  · obtain ⟨a, j, fs, rfl, hj, ha, k⟩ := h
    refine ⟨_, (pss_cons (ps_set (i := 1) scKinds.nd rfl (Or.inl rfl) (pe_lst (pa_cons (pe_callB (call_isX T.g) (by rfl) T.misinstance (by decide +kernel) (pa_cons (pv 0) (pa_cons (pe_glob (v := .ref (c 0)) rfl T.g0 rfl) pa_nil))) (pa_cons (pe_callB (call_isX T.g) (by rfl) T.misinstance (by decide +kernel) (pa_cons (pv 0) (pa_cons (pe_glob (v := .ref (c 1)) rfl T.g1 rfl) pa_nil))) (pa_cons (pe_callB (call_isX T.g) (by rfl) T.misinstance (by decide +kernel) (pa_cons (pv 0) (pa_cons (pe_glob (v := .ref (c 2)) rfl T.g2 rfl) pa_nil))) pa_nil)))))
      (pss_cons (ps_set (i := 1) scKinds.nd rfl (Or.inl rfl) (pe_op op_cat (pv 1) (pe_lst (pa_cons (pe_callB (call_isX T.g) (by rfl) T.misinstance (by decide +kernel) (pa_cons (pv 0) (pa_cons (pe_glob (v := .ref (c 3)) rfl T.g3 rfl) pa_nil))) (pa_cons (pe_callB (call_isX T.g) (by rfl) T.misinstance (by decide +kernel) (pa_cons (pv 0) (pa_cons (pe_glob (v := .ref (c 4)) rfl T.g4 rfl) pa_nil))) (pa_cons (pe_callB (call_isX T.g) (by rfl) T.misinstance (by decide +kernel) (pa_cons (pv 0) (pa_cons (pe_glob (v := .ref (c 5)) rfl T.g5 rfl) pa_nil))) pa_nil))))))
      (pss_cons (ps_set (i := 1) scKinds.nd rfl (Or.inl rfl) (pe_op op_cat (pv 1) (pe_lst (pa_cons (pe_callB (call_isX T.g) (by rfl) T.misinstance (by decide +kernel) (pa_cons (pv 0) (pa_cons (pe_glob (v := .ref (c 6)) rfl T.g6 rfl) pa_nil))) (pa_cons (pe_callB (call_isX T.g) (by rfl) T.misinstance (by decide +kernel) (pa_cons (pv 0) (pa_cons (pe_glob (v := .ref (c 7)) rfl T.g7 rfl) pa_nil))) (pa_cons (pe_callB (call_isX T.g) (by rfl) T.misinstance (by decide +kernel) (pa_cons (pv 0) (pa_cons (pe_glob (v := .ref (c 8)) rfl T.g8 rfl) pa_nil))) pa_nil))))))
      (pss_cons (ps_set (i := 1) scKinds.nd rfl (Or.inl rfl) (pe_op op_cat (pv 1) (pe_lst (pa_cons (pe_callB (call_isX T.g) (by rfl) T.misinstance (by decide +kernel) (pa_cons (pv 0) (pa_cons (pe_glob (v := .ref (c 9)) rfl T.g9 rfl) pa_nil))) (pa_cons (pe_callB (call_isX T.g) (by rfl) T.misinstance (by decide +kernel) (pa_cons (pv 0) (pa_cons (pe_glob (v := .ref (c 10)) rfl T.g10 rfl) pa_nil))) (pa_cons (pe_callB (call_isX T.g) (by rfl) T.misinstance (by decide +kernel) (pa_cons (pv 0) (pa_cons (pe_glob (v := .ref (c 11)) rfl T.g11 rfl) pa_nil))) pa_nil))))))
      (pss_cons (ps_set (i := 1) scKinds.nd rfl (Or.inl rfl) (pe_op op_cat (pv 1) (pe_lst (pa_cons (pe_callB (call_isX T.g) (by rfl) T.misinstance (by decide +kernel) (pa_cons (pv 0) (pa_cons (pe_glob (v := .ref (c 12)) rfl T.g12 rfl) pa_nil))) (pa_cons (pe_callB (call_isX T.g) (by rfl) T.misinstance (by decide +kernel) (pa_cons (pv 0) (pa_cons (pe_glob (v := .ref (c 13)) rfl T.g13 rfl) pa_nil))) (pa_cons (pe_callB (call_isX T.g) (by rfl) T.misinstance (by decide +kernel) (pa_cons (pv 0) (pa_cons (pe_glob (v := .ref (c 14)) rfl T.g14 rfl) pa_nil))) pa_nil))))))
      (pss_one (ps_ret (pe_op op_cat (pv 1) (pe_lst (pa_cons (pe_callB (call_isX T.g) (by rfl) T.misinstance (by decide +kernel) (pa_cons (pv 0) (pa_cons (pe_glob (v := .ref (c 15)) rfl T.g15 rfl) pa_nil))) (pa_cons (pe_callB (call_isX T.g) (by rfl) T.misinstance (by decide +kernel) (pa_cons (pv 0) (pa_cons (pe_glob (v := .ref (c 16)) rfl T.g16 rfl) pa_nil))) (pa_cons (pe_callB (call_isX T.g) (by rfl) T.misinstance (by decide +kernel) (pa_cons (pv 0) (pa_cons (pe_glob (v := .ref (c 17)) rfl T.g17 rfl) pa_nil))) pa_nil)))))))))))), ?_⟩
    have X := T.ex j hj
    have e0 := ha
    refine ⟨_, rfl, a, c j, .ref (c 0), .ref (c 0), _, rfl, .own _, X, e0.at, T.own 0 j (by decide) hj, _, rfl, a, c j, .ref (c 1), .ref (c 1), _, rfl, .own _, X, e0.at, T.own 1 j (by decide) hj, _, rfl, a, c j, .ref (c 2), .ref (c 2), _, rfl, .own _, X, e0.at, T.own 2 j (by decide) hj, (by show 3 ≤ sizeLine; decide), fun p0 q0 => ?_⟩
    have z1 := e0.keep (same_new (o := HO.lst [V.bl (decide (0 = j)), V.bl (decide (1 = j)), V.bl (decide (2 = j))]) q0)
    refine ⟨_, rfl, _, rfl, a, c j, .ref (c 3), .ref (c 3), _, rfl, .own _, X, z1.at, T.own 3 j (by decide) hj, _, rfl, a, c j, .ref (c 4), .ref (c 4), _, rfl, .own _, X, z1.at, T.own 4 j (by decide) hj, _, rfl, a, c j, .ref (c 5), .ref (c 5), _, rfl, .own _, X, z1.at, T.own 5 j (by decide) hj, (by show 3 ≤ sizeLine; decide), fun d1 r1 => ?_⟩
    refine ⟨p0, d1, _, _, rfl, rfl, Eq.trans (upd_ne (ne_of_none upd_same r1)) upd_same, upd_same, (by show 6 ≤ sizeLine; decide), fun p1 q1 => ?_⟩
    have z2 := (z1.keep (same_new (o := HO.lst [V.bl (decide (3 = j)), V.bl (decide (4 = j)), V.bl (decide (5 = j))]) r1)).keep (same_new (o := HO.lst [V.bl (decide (0 = j)), V.bl (decide (1 = j)), V.bl (decide (2 = j)), V.bl (decide (3 = j)), V.bl (decide (4 = j)), V.bl (decide (5 = j))]) q1)
    refine ⟨_, rfl, _, rfl, a, c j, .ref (c 6), .ref (c 6), _, rfl, .own _, X, z2.at, T.own 6 j (by decide) hj, _, rfl, a, c j, .ref (c 7), .ref (c 7), _, rfl, .own _, X, z2.at, T.own 7 j (by decide) hj, _, rfl, a, c j, .ref (c 8), .ref (c 8), _, rfl, .own _, X, z2.at, T.own 8 j (by decide) hj, (by show 3 ≤ sizeLine; decide), fun d2 r2 => ?_⟩
    refine ⟨p1, d2, _, _, rfl, rfl, Eq.trans (upd_ne (ne_of_none upd_same r2)) upd_same, upd_same, (by show 9 ≤ sizeLine; decide), fun p2 q2 => ?_⟩
    have z3 := (z2.keep (same_new (o := HO.lst [V.bl (decide (6 = j)), V.bl (decide (7 = j)), V.bl (decide (8 = j))]) r2)).keep (same_new (o := HO.lst [V.bl (decide (0 = j)), V.bl (decide (1 = j)), V.bl (decide (2 = j)), V.bl (decide (3 = j)), V.bl (decide (4 = j)), V.bl (decide (5 = j)), V.bl (decide (6 = j)), V.bl (decide (7 = j)), V.bl (decide (8 = j))]) q2)
    refine ⟨_, rfl, _, rfl, a, c j, .ref (c 9), .ref (c 9), _, rfl, .own _, X, z3.at, T.own 9 j (by decide) hj, _, rfl, a, c j, .ref (c 10), .ref (c 10), _, rfl, .own _, X, z3.at, T.own 10 j (by decide) hj, _, rfl, a, c j, .ref (c 11), .ref (c 11), _, rfl, .own _, X, z3.at, T.own 11 j (by decide) hj, (by show 3 ≤ sizeLine; decide), fun d3 r3 => ?_⟩
    refine ⟨p2, d3, _, _, rfl, rfl, Eq.trans (upd_ne (ne_of_none upd_same r3)) upd_same, upd_same, (by show 12 ≤ sizeLine; decide), fun p3 q3 => ?_⟩
    have z4 := (z3.keep (same_new (o := HO.lst [V.bl (decide (9 = j)), V.bl (decide (10 = j)), V.bl (decide (11 = j))]) r3)).keep (same_new (o := HO.lst [V.bl (decide (0 = j)), V.bl (decide (1 = j)), V.bl (decide (2 = j)), V.bl (decide (3 = j)), V.bl (decide (4 = j)), V.bl (decide (5 = j)), V.bl (decide (6 = j)), V.bl (decide (7 = j)), V.bl (decide (8 = j)), V.bl (decide (9 = j)), V.bl (decide (10 = j)), V.bl (decide (11 = j))]) q3)
    refine ⟨_, rfl, _, rfl, a, c j, .ref (c 12), .ref (c 12), _, rfl, .own _, X, z4.at, T.own 12 j (by decide) hj, _, rfl, a, c j, .ref (c 13), .ref (c 13), _, rfl, .own _, X, z4.at, T.own 13 j (by decide) hj, _, rfl, a, c j, .ref (c 14), .ref (c 14), _, rfl, .own _, X, z4.at, T.own 14 j (by decide) hj, (by show 3 ≤ sizeLine; decide), fun d4 r4 => ?_⟩
    refine ⟨p3, d4, _, _, rfl, rfl, Eq.trans (upd_ne (ne_of_none upd_same r4)) upd_same, upd_same, (by show 15 ≤ sizeLine; decide), fun p4 q4 => ?_⟩
    have z5 := (z4.keep (same_new (o := HO.lst [V.bl (decide (12 = j)), V.bl (decide (13 = j)), V.bl (decide (14 = j))]) r4)).keep (same_new (o := HO.lst [V.bl (decide (0 = j)), V.bl (decide (1 = j)), V.bl (decide (2 = j)), V.bl (decide (3 = j)), V.bl (decide (4 = j)), V.bl (decide (5 = j)), V.bl (decide (6 = j)), V.bl (decide (7 = j)), V.bl (decide (8 = j)), V.bl (decide (9 = j)), V.bl (decide (10 = j)), V.bl (decide (11 = j)), V.bl (decide (12 = j)), V.bl (decide (13 = j)), V.bl (decide (14 = j))]) q4)
    refine ⟨_, rfl, _, rfl, a, c j, .ref (c 15), .ref (c 15), _, rfl, .own _, X, z5.at, T.own 15 j (by decide) hj, _, rfl, a, c j, .ref (c 16), .ref (c 16), _, rfl, .own _, X, z5.at, T.own 16 j (by decide) hj, _, rfl, a, c j, .ref (c 17), .ref (c 17), _, rfl, .own _, X, z5.at, T.own 17 j (by decide) hj, (by show 3 ≤ sizeLine; decide), fun d5 r5 => ?_⟩
    refine ⟨p4, d5, _, _, rfl, rfl, Eq.trans (upd_ne (ne_of_none upd_same r5)) upd_same, upd_same, (by show 18 ≤ sizeLine; decide), fun p5 q5 => ?_⟩
    refine k p5 _ ?_ upd_same
    exact (((((((((((same_new q0).trans (same_new r1)).trans (same_new q1)).trans (same_new r2)).trans (same_new q2)).trans (same_new r3)).trans
      (same_new q3)).trans (same_new r4)).trans (same_new q4)).trans (same_new r5)).trans (same_new q5))
theorem scBases : FnScope ["_law_error", "_law_found", "_law_more"] ["_law_error"] (defScope sBases) :=
  ⟨rfl, rfl, rfl, by decide +kernel, rfl, by decide +kernel, by decide +kernel⟩
theorem okBases {f : Addr} {fd : FuncData} {c : Nat → Addr} (F : Fun K "_law_bases" "_law_bases" sBases f fd) (T : AllC K mg c) :
    FnOk P w K mg base CX0 1 f fd ["_law_error"] (spBases c) := by
  refine F.ok scBases (fun vs H Q E h => ?_) (fun cdv A outer s H vs Q E hr h => ?_)
  · obtain ⟨a, j, fs, rfl, _⟩ := h
    rfl
  · obtain ⟨a, j, fs, rfl, hj, ha, k⟩ := h
    refine ⟨_, (pss_cons (ps_set (i := 1) scBases.nd rfl (Or.inl rfl) (pe_lst (pa_cons (pe_callB (call_isX T.g) (by rfl) T.misinstance (by decide +kernel) (pa_cons (pv 0) (pa_cons (pe_bltn (v := .ty "ValueError") rfl T.mValueError (by decide +kernel) rfl) pa_nil))) (pa_cons (pe_callB (call_isX T.g) (by rfl) T.misinstance (by decide +kernel) (pa_cons (pv 0) (pa_cons (pe_bltn (v := .ty "LookupError") rfl T.mLookupError (by decide +kernel) rfl) pa_nil))) (pa_cons (pe_callB (call_isX T.g) (by rfl) T.misinstance (by decide +kernel) (pa_cons (pv 0) (pa_cons (pe_bltn (v := .ty "RuntimeError") rfl T.mRuntimeError (by decide +kernel) rfl) pa_nil))) pa_nil)))))
      (pss_cons (ps_set (i := 2) scBases.nd rfl (Or.inl rfl) (pe_callB (call_isXT T.g) (by rfl) T.misinstance (by decide +kernel) (pa_cons (pv 0)
        (pa_cons (pe_tup (pa_cons (pe_bltn (v := .ty "KeyError") rfl T.mKeyError (by decide +kernel) rfl) (pa_cons (pe_bltn (v := .ty "IndexError") rfl T.mIndexError (by decide +kernel) rfl) (pa_cons (pe_bltn (v := .ty "NotImplementedError") rfl T.mNotImplementedError (by decide +kernel) rfl) pa_nil)))) pa_nil))))
      (pss_one (ps_ret (pe_op op_cat (pv 1) (pe_lst (pa_cons (pe_callB (call_isX T.g) (by rfl) T.misinstance (by decide +kernel) (pa_cons (pv 0) (pa_cons (pe_bltn (v := .ty "OverflowError") rfl T.mOverflowError (by decide +kernel) rfl) pa_nil))) (pa_cons (pv 2) pa_nil)))))))), ?_⟩
    have X := T.ex j hj
    refine ⟨_, rfl, a, c j, .ty "ValueError", .type "ValueError", _, rfl, .ty _, X, ha.at, T.tV j hj, _, rfl, a, c j, .ty "LookupError", .type "LookupError", _, rfl, .ty _, X, ha.at, T.tL j hj,
      _, rfl, a, c j, .ty "RuntimeError", .type "RuntimeError", _, rfl, .ty _, X, ha.at, T.tR j hj, (by show 3 ≤ sizeLine; decide), fun p0 q0 => ?_⟩
    have z1 := ha.keep (same_new (o := HO.lst [V.bl (decide (j < 7)), V.bl (decide (6 < j ∧ j < 12)), V.bl (decide (11 < j ∧ j < 17))]) q0)
    refine ⟨_, rfl, (by show 3 ≤ sizeLine; decide), fun p1 q1 => ?_⟩
    have z2 := z1.keep (same_new (o := HO.tup [V.ty "KeyError", V.ty "IndexError", V.ty "NotImplementedError"]) q1)
    refine ⟨a, c j, p1, _, _, false, rfl, upd_same, .cons (.ty _) (.cons (.ty _) (.cons (.ty _) .nil)), X, z2.at, T.tM j hj, ?_⟩
    refine ⟨_, rfl, _, rfl, a, c j, .ty "OverflowError", .type "OverflowError", _, rfl, .ty _, X, z2.at, T.tO j hj, _, rfl, (by show 2 ≤ sizeLine; decide), fun p2 q2 => ?_⟩
    refine ⟨p0, p2, _, _, rfl, rfl, Eq.trans (upd_ne (ne_of_none (Eq.trans (upd_ne (ne_of_none upd_same q1)) upd_same) q2)) (Eq.trans (upd_ne (ne_of_none upd_same q1)) upd_same), upd_same, (by show 5 ≤ sizeLine; decide), fun p3 q3 => ?_⟩
    exact k p3 _ ((((same_new q0).trans (same_new q1)).trans (same_new q2)).trans (same_new q3)) upd_same
end
end K09

set_option Elab.async false
set_option linter.all false
set_option maxRecDepth 100000
set_option maxHeartbeats 4000000
namespace K09
open PySem L2 JB
abbrev sRight : Stmt := top 31
abbrev nR : List Str := ["_law_cell", "_law_some", "_law_hint", "_law_mark", "_law_made", "_law_named", "_law_errors", "_law_told", "_law_due", "_law_k", "_law_error", "_law_base", "_law_spot"]
/-- all that a call of such a class wants -/
structure MkC (P : Program) (w : World) (K : PySem.W.Frag) (mg : Str → Option Value) (hb : Heap) (x : Str) (C : Addr)
    (B newId initId : String) (bm : List Value) (ps ks : List Str) (g : {α : Type} → List α → List α) (sp : Sp) : Prop where
  bs : Base B newId initId bm
  ex : ExK K C newId bm
  gl : mg x = some (.ref C)
  fn : ∃ fI fd, PySem.W.findIn K (.ref C) "__init__" = some (some (.ref fI)) ∧ PySem.W.typeIn K (.ref fI) = some (.type "function") ∧
    FnG P w K mg hb CX0 1 fI fd ps sp ∧ Binds K fd ps [] ∧ BindE K fd ps ks g
abbrev idl : {α : Type} → List α → List α := fun l => l
abbrev rvl : {α : Type} → List α → List α := fun l => l.reverse
structure Mkr (P : Program) (w : World) (K : PySem.W.Frag) (mg : Str → Option Value) (hb : Heap) (c : Nat → Addr) : Prop where
  k0 : MkC P w K mg hb "BadText" (c 0) "ValueError" "ValueError.__new__" "ValueError.__init__" mV ["self", "at"] ["at"] idl (spOne (c 0) "at")
  k1 : MkC P w K mg hb "Unsound" (c 1) "ValueError" "ValueError.__new__" "ValueError.__init__" mV ["self", "faults"] ["faults"] idl (spList K (c 1) "faults")
  k2 : MkC P w K mg hb "Gap" (c 2) "ValueError" "ValueError.__new__" "ValueError.__init__" mV ["self", "number"] ["number"] idl (spOne (c 2) "number")
  k3 : MkC P w K mg hb "BadLine" (c 3) "ValueError" "ValueError.__new__" "ValueError.__init__" mV ["self", "number"] ["number"] idl (spOne (c 3) "number")
  k4 : MkC P w K mg hb "NoLoose" (c 4) "ValueError" "ValueError.__new__" "ValueError.__init__" mV ["self", "number"] ["number"] idl (spOne (c 4) "number")
  k5 : MkC P w K mg hb "NoCut" (c 5) "ValueError" "ValueError.__new__" "ValueError.__init__" mV ["self", "block"] ["block"] idl (spOne (c 5) "block")
  k6 : MkC P w K mg hb "NoHistory" (c 6) "ValueError" "ValueError.__new__" "ValueError.__init__" mV ["self", "index"] ["index"] idl (spOne (c 6) "index")
  k7 : MkC P w K mg hb "NoObject" (c 7) "LookupError" "LookupError.__new__" "LookupError.__init__" mL ["self", "ref"] ["ref"] idl (spOne (c 7) "ref")
  k8 : MkC P w K mg hb "NoPlace" (c 8) "LookupError" "LookupError.__new__" "LookupError.__init__" mL ["self", "place"] ["place"] idl (spOne (c 8) "place")
  k9 : MkC P w K mg hb "NoBlock" (c 9) "LookupError" "LookupError.__new__" "LookupError.__init__" mL ["self", "place"] ["place"] idl (spOne (c 9) "place")
  k10 : MkC P w K mg hb "NoOutput" (c 10) "LookupError" "LookupError.__new__" "LookupError.__init__" mL ["self", "number"] ["number"] idl (spOne (c 10) "number")
  k11 : MkC P w K mg hb "Gone" (c 11) "LookupError" "LookupError.__new__" "LookupError.__init__" mL ["self", "number"] ["number"] idl (spOne (c 11) "number")
  k12 : MkC P w K mg hb "Refused" (c 12) "RuntimeError" "RuntimeError.__new__" "RuntimeError.__init__" mR ["self", "task", "depth", "word"] ["word", "depth", "task"] rvl (spThree (c 12) "task" "depth" "word")
  k13 : MkC P w K mg hb "Busy" (c 13) "RuntimeError" "RuntimeError.__new__" "RuntimeError.__init__" mR ["self"] [] idl (spNone (c 13))
  k14 : MkC P w K mg hb "Idle" (c 14) "RuntimeError" "RuntimeError.__new__" "RuntimeError.__init__" mR ["self"] [] idl (spNone (c 14))
  k15 : MkC P w K mg hb "Stopped" (c 15) "RuntimeError" "RuntimeError.__new__" "RuntimeError.__init__" mR ["self"] [] idl (spNone (c 15))
  k16 : MkC P w K mg hb "NoRoot" (c 16) "RuntimeError" "RuntimeError.__new__" "RuntimeError.__init__" mR ["self"] [] idl (spNone (c 16))
  k17 : MkC P w K mg hb "Full" (c 17) "OverflowError" "OverflowError.__new__" "OverflowError.__init__" mO ["self", "count"] ["count"] idl (spOne (c 17) "count")
/-- the fields of the j-th error, made from n, the list of t1 and t2, the hint and the mark -/
def FieldsOk (n : Int) (t1 t2 : Addr) (hint mark : Str) (H : Hp) (fs : List (Str × V)) : Nat → Prop
  | 0 => fs = [(Str.ofString "at", V.int n)]
  | 1 => ∃ l, fs = [(Str.ofString "faults", V.ref l)] ∧ H l = some (.lst [.ref t1, .ref t2])
  | 2 => fs = [(Str.ofString "number", V.int n)]
  | 3 => fs = [(Str.ofString "number", V.int n)]
  | 4 => fs = [(Str.ofString "number", V.int n)]
  | 5 => fs = [(Str.ofString "block", V.int n)]
  | 6 => fs = [(Str.ofString "index", V.int n)]
  | 7 => fs = [(Str.ofString "ref", V.str mark)]
  | 8 => fs = [(Str.ofString "place", V.int n)]
  | 9 => fs = [(Str.ofString "place", V.int n)]
  | 10 => fs = [(Str.ofString "number", V.int n)]
  | 11 => fs = [(Str.ofString "number", V.int n)]
  | 12 => fs = [(Str.ofString "word", V.str hint), (Str.ofString "depth", V.int 2), (Str.ofString "task", V.int n)]
  | 13 => fs = []
  | 14 => fs = []
  | 15 => fs = []
  | 16 => fs = []
  | 17 => fs = [(Str.ofString "count", V.int n)]
  | _ => False
def Good (c : Nat → Addr) (n : Int) (t1 t2 : Addr) (hint mark : Str) (H : Hp) (j : Nat) (a : Addr) : Prop :=
  ∃ fs, ErrIs H a (c j) fs ∧ FieldsOk n t1 t2 hint mark H fs j
section
variable {c : Nat → Addr} {n : Int} {t1 t2 : Addr} {hint mark : Str}
theorem Good.keep {H H' : Hp} {j : Nat} {a : Addr} (h : Good c n t1 t2 hint mark H j a) (s : Same H H') : Good c n t1 t2 hint mark H' j a := by
  obtain ⟨fs, e, q⟩ := h
  refine ⟨fs, e.keep s, ?_⟩
  unfold FieldsOk at q ⊢
  split at q <;> first | exact q | (obtain ⟨l, e, h⟩ := q; exact ⟨l, e, s _ _ h⟩)
end
/-- what stands in the first slots, and the list of the two faults -/
structure Pre (n : Int) (sm t1 t2 : Addr) (hint mark : Str) (σ : L2.St) (H : Hp) : Prop where
  c0 : σ[0]? = some (some (.int n))
  c1 : σ[1]? = some (some (.ref sm))
  c2 : σ[2]? = some (some (.str hint))
  c3 : σ[3]? = some (some (.str mark))
  l : H sm = some (.lst [.ref t1, .ref t2])
  u : H t1 = some (.tup [.str "main", .int n, .str "twice"])
  v : H t2 = some (.tup [.str "f", .int (-1), .str "many"])
theorem Pre.keep {n : Int} {sm t1 t2 : Addr} {hint mark : Str} {σ : L2.St} {H H' : Hp} (p : Pre n sm t1 t2 hint mark σ H) (s : Same H H') :
    Pre n sm t1 t2 hint mark σ H' := ⟨p.c0, p.c1, p.c2, p.c3, s _ _ p.l, s _ _ p.u, s _ _ p.v⟩
/-- what is known of n, the hint and the mark -/
structure Small (n : Int) (hint mark : Str) : Prop where
  sn : Short (.int n)
  sh : Short (.str hint)
  sk : Short (.str mark)
  sd : ∃ d : PyData, d = .list [.tuple [.str "main", .int n, .str "twice"], .tuple [.str "f", .int (-1), .str "many"]] ∧ d.showable = true ∧ d.shown.length ≤ 1000
theorem dp_pre {K : PySem.W.Frag} {n : Int} {sm t1 t2 : Addr} {hint mark : Str} {σ : L2.St} {H : Hp} (p : Pre n sm t1 t2 hint mark σ H) :
    Dp K H (.ref sm) (.list [.tuple [.str "main", .int n, .str "twice"], .tuple [.str "f", .int (-1), .str "many"]]) :=
  .lst (SqL.of p.l) (.cons (.tup (SqT.of p.u) (.cons (.str _) (.cons (.int _) (.cons (.str _) .nil))))
    (.cons (.tup (SqT.of p.v) (.cons (.str _) (.cons (.int _) (.cons (.str _) .nil)))) .nil))
/-- an expression that makes the j-th error -/
def Mk1 (X : Cx) (c : Nat → Addr) (n : Int) (hint mark : Str) (e : Expr) (j : Nat) : Prop :=
  ∃ te, PE X e te ∧ ∀ sm t1 t2 σ H Q, Pre n sm t1 t2 hint mark σ H → (∀ a H', Same H H' → Good c n t1 t2 hint mark H' j a → Q (.ref a) H') → te σ H Q
inductive Goods (c : Nat → Addr) (n : Int) (t1 t2 : Addr) (hint mark : Str) (H : Hp) : List Nat → List Addr → Prop
  | nil : Goods c n t1 t2 hint mark H [] []
  | cons {j : Nat} {a : Addr} {js : List Nat} {as : List Addr} : Good c n t1 t2 hint mark H j a → Goods c n t1 t2 hint mark H js as →
      Goods c n t1 t2 hint mark H (j :: js) (a :: as)
section
variable {c : Nat → Addr} {n : Int} {sm t1 t2 : Addr} {hint mark : Str}
theorem Goods.keep {H H' : Hp} {js : List Nat} {as : List Addr} (h : Goods c n t1 t2 hint mark H js as) (s : Same H H') : Goods c n t1 t2 hint mark H' js as := by
  induction h with
  | nil => exact .nil
  | cons g _ ih => exact .cons (g.keep s) ih
theorem Goods.app {H : Hp} {js ks : List Nat} {as bs : List Addr} (h : Goods c n t1 t2 hint mark H js as) (k : Goods c n t1 t2 hint mark H ks bs) :
    Goods c n t1 t2 hint mark H (js ++ ks) (as ++ bs) := by
  induction h with
  | nil => exact k
  | cons g _ ih => exact .cons g ih
theorem Goods.len {H : Hp} {js : List Nat} {as : List Addr} (h : Goods c n t1 t2 hint mark H js as) : as.length = js.length := by
  induction h with
  | nil => rfl
  | cons _ _ ih => simp [ih]
theorem Goods.get {H : Hp} {js : List Nat} {as : List Addr} (h : Goods c n t1 t2 hint mark H js as) :
    ∀ (i j : Nat), js[i]? = some j → ∃ a, as[i]? = some a ∧ Good c n t1 t2 hint mark H j a := by
  induction h with
  | nil => intro i j e; simp at e
  | cons g _ ih =>
    intro i j e
    cases i with
    | zero => simp at e; subst e; exact ⟨_, rfl, g⟩
    | succ i => simpa using ih i j (by simpa using e)
/-- displays of such expressions -/
def PAs (X : Cx) (c : Nat → Addr) (n : Int) (hint mark : Str) (es : List Expr) (js : List Nat) : Prop :=
  ∃ ta, PA X es ta ∧ ∀ sm t1 t2 σ H Q, Pre n sm t1 t2 hint mark σ H → (∀ as H', Same H H' → Goods c n t1 t2 hint mark H' js as → Q (as.map V.ref) H') → ta σ H Q
theorem pas_nil {X : Cx} : PAs X c n hint mark [] [] := ⟨_, pa_nil, fun _ _ _ σ H Q _ k => k [] H (Same.refl H) .nil⟩
theorem pas_cons {X : Cx} {e : Expr} {es : List Expr} {j : Nat} {js : List Nat} (h : Mk1 X c n hint mark e j) (r : PAs X c n hint mark es js)
    (hs : starEach (e :: es) X.env = (false, eval e X.env) :: starEach es X.env := by rfl) : PAs X c n hint mark (e :: es) (j :: js) := by
  obtain ⟨te, pe, q⟩ := h
  obtain ⟨ta, pa, qa⟩ := r
  refine ⟨_, pa_cons pe pa hs, fun sm t1 t2 σ H Q p k => q sm t1 t2 σ H _ p fun a H1 s1 g => qa sm t1 t2 σ H1 _ (p.keep s1) fun as H2 s2 gs => ?_⟩
  exact k (a :: as) H2 (s1.trans s2) (.cons (g.keep s2) gs)
theorem made_same {H H' : Hp} {a : Addr} {o : HO} (n : H a = none) (k : ∀ b u, upd H a o b = some u → b ≠ a → H' b = some u) : Same H H' := fun b u e =>
  k b u (by rw [upd_ne (ne_of_none e n)]; exact e) (ne_of_none e n)
end
section
variable {X : Cx} {c : Nat → Addr} {n : Int} {hint mark : Str} {k : Nat}
variable (hs : Still X.A) (hr : Room 2 X.A) (M : Mkr X.prog X.w X.K X.mg X.base c) (S : Small n hint mark)
include hs hr M S
theorem mk0p {p pos q : Pos} {z : Str} (pe : PE X (.Name z q) (tVar 0)) (hg : Gl X "BadText") :
    Mk1 X c n hint mark (.Call (.Name "BadText" p) [.Name z q] [] pos) 0 := by
  obtain ⟨fI, fd, iC, tI, G, b1, b2⟩ := M.k0.fn
  refine ⟨_, pe_mkE M.k0.bs M.k0.ex iC tI hs G hr b1 hg M.k0.gl (pa_cons pe pa_nil), fun sm t1 t2 σ H Q pr k => ⟨_, pr.c0, (by show 1 ≤ 1000; decide), fun a hn => ?_⟩⟩
  exact ⟨a, _, rfl, upd_same, S.sn, fun H' kp ei => ⟨rfl, k a H' (made_same hn kp) ⟨_, ei, rfl⟩⟩⟩
theorem mk0k {p pos q kp : Pos} {z : Str} (pe : PE X (.Name z q) (tVar 0)) (hg : Gl X "BadText") :
    Mk1 X c n hint mark (.Call (.Name "BadText" p) [] [⟨some "at", .Name z q, kp⟩] pos) 0 := by
  obtain ⟨fI, fd, iC, tI, G, b1, b2⟩ := M.k0.fn
  refine ⟨_, pe_mkEK M.k0.bs M.k0.ex iC tI hs G hr b2 hg M.k0.gl (pk_cons pe pk_nil), fun sm t1 t2 σ H Q pr k => ⟨_, pr.c0, rfl, (by show 1 ≤ 1000; decide), fun a hn => ?_⟩⟩
  exact ⟨a, _, rfl, upd_same, S.sn, fun H' kp ei => ⟨rfl, k a H' (made_same hn kp) ⟨_, ei, rfl⟩⟩⟩
theorem mk1p {p pos q : Pos} {z : Str} (pe : PE X (.Name z q) (tVar 1)) (hg : Gl X "Unsound") :
    Mk1 X c n hint mark (.Call (.Name "Unsound" p) [.Name z q] [] pos) 1 := by
  obtain ⟨fI, fd, iC, tI, G, b1, b2⟩ := M.k1.fn
  refine ⟨_, pe_mkE M.k1.bs M.k1.ex iC tI hs G hr b1 hg M.k1.gl (pa_cons pe pa_nil), fun sm t1 t2 σ H Q pr k => ⟨_, pr.c1, (by show 1 ≤ 1000; decide), fun a hn => ?_⟩⟩
  · obtain ⟨d, hd, d1, d2⟩ := S.sd
    have dp := dp_pre (K := X.K) pr
    have na : sm ≠ a := fun z => by rw [← z, pr.l] at hn; cases hn
    have s0 : Same H (upd H a (exo a (c 1) none)) := same_new hn
    have dq := dp_pre (K := X.K) (pr.keep s0)
    rw [← hd] at dq
    have hh : d.hasDict = false := by rw [hd]; rfl
    have hdp : d.depth ≤ 60 := by rw [hd]; simp [PyData.depth, PyData.depthAll]
    exact ⟨a, sm, _, d, rfl, upd_same, s0 _ _ pr.l, dq, d1, hh, hdp, d2, fun l' H' nl kp hl' ei =>
      ⟨rfl, k a H' (made_same hn kp) ⟨_, ei, l', rfl, hl'⟩⟩⟩
theorem mk1k {p pos q kp : Pos} {z : Str} (pe : PE X (.Name z q) (tVar 1)) (hg : Gl X "Unsound") :
    Mk1 X c n hint mark (.Call (.Name "Unsound" p) [] [⟨some "faults", .Name z q, kp⟩] pos) 1 := by
  obtain ⟨fI, fd, iC, tI, G, b1, b2⟩ := M.k1.fn
  refine ⟨_, pe_mkEK M.k1.bs M.k1.ex iC tI hs G hr b2 hg M.k1.gl (pk_cons pe pk_nil), fun sm t1 t2 σ H Q pr k => ⟨_, pr.c1, rfl, (by show 1 ≤ 1000; decide), fun a hn => ?_⟩⟩
  · obtain ⟨d, hd, d1, d2⟩ := S.sd
    have dp := dp_pre (K := X.K) pr
    have na : sm ≠ a := fun z => by rw [← z, pr.l] at hn; cases hn
    have s0 : Same H (upd H a (exo a (c 1) none)) := same_new hn
    have dq := dp_pre (K := X.K) (pr.keep s0)
    rw [← hd] at dq
    have hh : d.hasDict = false := by rw [hd]; rfl
    have hdp : d.depth ≤ 60 := by rw [hd]; simp [PyData.depth, PyData.depthAll]
    exact ⟨a, sm, _, d, rfl, upd_same, s0 _ _ pr.l, dq, d1, hh, hdp, d2, fun l' H' nl kp hl' ei =>
      ⟨rfl, k a H' (made_same hn kp) ⟨_, ei, l', rfl, hl'⟩⟩⟩
theorem mk2p {p pos q : Pos} {z : Str} (pe : PE X (.Name z q) (tVar 0)) (hg : Gl X "Gap") :
    Mk1 X c n hint mark (.Call (.Name "Gap" p) [.Name z q] [] pos) 2 := by
  obtain ⟨fI, fd, iC, tI, G, b1, b2⟩ := M.k2.fn
  refine ⟨_, pe_mkE M.k2.bs M.k2.ex iC tI hs G hr b1 hg M.k2.gl (pa_cons pe pa_nil), fun sm t1 t2 σ H Q pr k => ⟨_, pr.c0, (by show 1 ≤ 1000; decide), fun a hn => ?_⟩⟩
  exact ⟨a, _, rfl, upd_same, S.sn, fun H' kp ei => ⟨rfl, k a H' (made_same hn kp) ⟨_, ei, rfl⟩⟩⟩
theorem mk2k {p pos q kp : Pos} {z : Str} (pe : PE X (.Name z q) (tVar 0)) (hg : Gl X "Gap") :
    Mk1 X c n hint mark (.Call (.Name "Gap" p) [] [⟨some "number", .Name z q, kp⟩] pos) 2 := by
  obtain ⟨fI, fd, iC, tI, G, b1, b2⟩ := M.k2.fn
  refine ⟨_, pe_mkEK M.k2.bs M.k2.ex iC tI hs G hr b2 hg M.k2.gl (pk_cons pe pk_nil), fun sm t1 t2 σ H Q pr k => ⟨_, pr.c0, rfl, (by show 1 ≤ 1000; decide), fun a hn => ?_⟩⟩
  exact ⟨a, _, rfl, upd_same, S.sn, fun H' kp ei => ⟨rfl, k a H' (made_same hn kp) ⟨_, ei, rfl⟩⟩⟩
theorem mk3p {p pos q : Pos} {z : Str} (pe : PE X (.Name z q) (tVar 0)) (hg : Gl X "BadLine") :
    Mk1 X c n hint mark (.Call (.Name "BadLine" p) [.Name z q] [] pos) 3 := by
  obtain ⟨fI, fd, iC, tI, G, b1, b2⟩ := M.k3.fn
  refine ⟨_, pe_mkE M.k3.bs M.k3.ex iC tI hs G hr b1 hg M.k3.gl (pa_cons pe pa_nil), fun sm t1 t2 σ H Q pr k => ⟨_, pr.c0, (by show 1 ≤ 1000; decide), fun a hn => ?_⟩⟩
  exact ⟨a, _, rfl, upd_same, S.sn, fun H' kp ei => ⟨rfl, k a H' (made_same hn kp) ⟨_, ei, rfl⟩⟩⟩
theorem mk3k {p pos q kp : Pos} {z : Str} (pe : PE X (.Name z q) (tVar 0)) (hg : Gl X "BadLine") :
    Mk1 X c n hint mark (.Call (.Name "BadLine" p) [] [⟨some "number", .Name z q, kp⟩] pos) 3 := by
  obtain ⟨fI, fd, iC, tI, G, b1, b2⟩ := M.k3.fn
  refine ⟨_, pe_mkEK M.k3.bs M.k3.ex iC tI hs G hr b2 hg M.k3.gl (pk_cons pe pk_nil), fun sm t1 t2 σ H Q pr k => ⟨_, pr.c0, rfl, (by show 1 ≤ 1000; decide), fun a hn => ?_⟩⟩
  exact ⟨a, _, rfl, upd_same, S.sn, fun H' kp ei => ⟨rfl, k a H' (made_same hn kp) ⟨_, ei, rfl⟩⟩⟩
theorem mk4p {p pos q : Pos} {z : Str} (pe : PE X (.Name z q) (tVar 0)) (hg : Gl X "NoLoose") :
    Mk1 X c n hint mark (.Call (.Name "NoLoose" p) [.Name z q] [] pos) 4 := by
  obtain ⟨fI, fd, iC, tI, G, b1, b2⟩ := M.k4.fn
  refine ⟨_, pe_mkE M.k4.bs M.k4.ex iC tI hs G hr b1 hg M.k4.gl (pa_cons pe pa_nil), fun sm t1 t2 σ H Q pr k => ⟨_, pr.c0, (by show 1 ≤ 1000; decide), fun a hn => ?_⟩⟩
  exact ⟨a, _, rfl, upd_same, S.sn, fun H' kp ei => ⟨rfl, k a H' (made_same hn kp) ⟨_, ei, rfl⟩⟩⟩
theorem mk4k {p pos q kp : Pos} {z : Str} (pe : PE X (.Name z q) (tVar 0)) (hg : Gl X "NoLoose") :
    Mk1 X c n hint mark (.Call (.Name "NoLoose" p) [] [⟨some "number", .Name z q, kp⟩] pos) 4 := by
  obtain ⟨fI, fd, iC, tI, G, b1, b2⟩ := M.k4.fn
  refine ⟨_, pe_mkEK M.k4.bs M.k4.ex iC tI hs G hr b2 hg M.k4.gl (pk_cons pe pk_nil), fun sm t1 t2 σ H Q pr k => ⟨_, pr.c0, rfl, (by show 1 ≤ 1000; decide), fun a hn => ?_⟩⟩
  exact ⟨a, _, rfl, upd_same, S.sn, fun H' kp ei => ⟨rfl, k a H' (made_same hn kp) ⟨_, ei, rfl⟩⟩⟩
theorem mk5p {p pos q : Pos} {z : Str} (pe : PE X (.Name z q) (tVar 0)) (hg : Gl X "NoCut") :
    Mk1 X c n hint mark (.Call (.Name "NoCut" p) [.Name z q] [] pos) 5 := by
  obtain ⟨fI, fd, iC, tI, G, b1, b2⟩ := M.k5.fn
  refine ⟨_, pe_mkE M.k5.bs M.k5.ex iC tI hs G hr b1 hg M.k5.gl (pa_cons pe pa_nil), fun sm t1 t2 σ H Q pr k => ⟨_, pr.c0, (by show 1 ≤ 1000; decide), fun a hn => ?_⟩⟩
  exact ⟨a, _, rfl, upd_same, S.sn, fun H' kp ei => ⟨rfl, k a H' (made_same hn kp) ⟨_, ei, rfl⟩⟩⟩
theorem mk5k {p pos q kp : Pos} {z : Str} (pe : PE X (.Name z q) (tVar 0)) (hg : Gl X "NoCut") :
    Mk1 X c n hint mark (.Call (.Name "NoCut" p) [] [⟨some "block", .Name z q, kp⟩] pos) 5 := by
  obtain ⟨fI, fd, iC, tI, G, b1, b2⟩ := M.k5.fn
  refine ⟨_, pe_mkEK M.k5.bs M.k5.ex iC tI hs G hr b2 hg M.k5.gl (pk_cons pe pk_nil), fun sm t1 t2 σ H Q pr k => ⟨_, pr.c0, rfl, (by show 1 ≤ 1000; decide), fun a hn => ?_⟩⟩
  exact ⟨a, _, rfl, upd_same, S.sn, fun H' kp ei => ⟨rfl, k a H' (made_same hn kp) ⟨_, ei, rfl⟩⟩⟩
theorem mk6p {p pos q : Pos} {z : Str} (pe : PE X (.Name z q) (tVar 0)) (hg : Gl X "NoHistory") :
    Mk1 X c n hint mark (.Call (.Name "NoHistory" p) [.Name z q] [] pos) 6 := by
  obtain ⟨fI, fd, iC, tI, G, b1, b2⟩ := M.k6.fn
  refine ⟨_, pe_mkE M.k6.bs M.k6.ex iC tI hs G hr b1 hg M.k6.gl (pa_cons pe pa_nil), fun sm t1 t2 σ H Q pr k => ⟨_, pr.c0, (by show 1 ≤ 1000; decide), fun a hn => ?_⟩⟩
  exact ⟨a, _, rfl, upd_same, S.sn, fun H' kp ei => ⟨rfl, k a H' (made_same hn kp) ⟨_, ei, rfl⟩⟩⟩
theorem mk6k {p pos q kp : Pos} {z : Str} (pe : PE X (.Name z q) (tVar 0)) (hg : Gl X "NoHistory") :
    Mk1 X c n hint mark (.Call (.Name "NoHistory" p) [] [⟨some "index", .Name z q, kp⟩] pos) 6 := by
  obtain ⟨fI, fd, iC, tI, G, b1, b2⟩ := M.k6.fn
  refine ⟨_, pe_mkEK M.k6.bs M.k6.ex iC tI hs G hr b2 hg M.k6.gl (pk_cons pe pk_nil), fun sm t1 t2 σ H Q pr k => ⟨_, pr.c0, rfl, (by show 1 ≤ 1000; decide), fun a hn => ?_⟩⟩
  exact ⟨a, _, rfl, upd_same, S.sn, fun H' kp ei => ⟨rfl, k a H' (made_same hn kp) ⟨_, ei, rfl⟩⟩⟩
theorem mk7p {p pos q : Pos} {z : Str} (pe : PE X (.Name z q) (tVar 3)) (hg : Gl X "NoObject") :
    Mk1 X c n hint mark (.Call (.Name "NoObject" p) [.Name z q] [] pos) 7 := by
  obtain ⟨fI, fd, iC, tI, G, b1, b2⟩ := M.k7.fn
  refine ⟨_, pe_mkE M.k7.bs M.k7.ex iC tI hs G hr b1 hg M.k7.gl (pa_cons pe pa_nil), fun sm t1 t2 σ H Q pr k => ⟨_, pr.c3, (by show 1 ≤ 1000; decide), fun a hn => ?_⟩⟩
  exact ⟨a, _, rfl, upd_same, S.sk, fun H' kp ei => ⟨rfl, k a H' (made_same hn kp) ⟨_, ei, rfl⟩⟩⟩
theorem mk7k {p pos q kp : Pos} {z : Str} (pe : PE X (.Name z q) (tVar 3)) (hg : Gl X "NoObject") :
    Mk1 X c n hint mark (.Call (.Name "NoObject" p) [] [⟨some "ref", .Name z q, kp⟩] pos) 7 := by
  obtain ⟨fI, fd, iC, tI, G, b1, b2⟩ := M.k7.fn
  refine ⟨_, pe_mkEK M.k7.bs M.k7.ex iC tI hs G hr b2 hg M.k7.gl (pk_cons pe pk_nil), fun sm t1 t2 σ H Q pr k => ⟨_, pr.c3, rfl, (by show 1 ≤ 1000; decide), fun a hn => ?_⟩⟩
  exact ⟨a, _, rfl, upd_same, S.sk, fun H' kp ei => ⟨rfl, k a H' (made_same hn kp) ⟨_, ei, rfl⟩⟩⟩
theorem mk8p {p pos q : Pos} {z : Str} (pe : PE X (.Name z q) (tVar 0)) (hg : Gl X "NoPlace") :
    Mk1 X c n hint mark (.Call (.Name "NoPlace" p) [.Name z q] [] pos) 8 := by
  obtain ⟨fI, fd, iC, tI, G, b1, b2⟩ := M.k8.fn
  refine ⟨_, pe_mkE M.k8.bs M.k8.ex iC tI hs G hr b1 hg M.k8.gl (pa_cons pe pa_nil), fun sm t1 t2 σ H Q pr k => ⟨_, pr.c0, (by show 1 ≤ 1000; decide), fun a hn => ?_⟩⟩
  exact ⟨a, _, rfl, upd_same, S.sn, fun H' kp ei => ⟨rfl, k a H' (made_same hn kp) ⟨_, ei, rfl⟩⟩⟩
theorem mk8k {p pos q kp : Pos} {z : Str} (pe : PE X (.Name z q) (tVar 0)) (hg : Gl X "NoPlace") :
    Mk1 X c n hint mark (.Call (.Name "NoPlace" p) [] [⟨some "place", .Name z q, kp⟩] pos) 8 := by
  obtain ⟨fI, fd, iC, tI, G, b1, b2⟩ := M.k8.fn
  refine ⟨_, pe_mkEK M.k8.bs M.k8.ex iC tI hs G hr b2 hg M.k8.gl (pk_cons pe pk_nil), fun sm t1 t2 σ H Q pr k => ⟨_, pr.c0, rfl, (by show 1 ≤ 1000; decide), fun a hn => ?_⟩⟩
  exact ⟨a, _, rfl, upd_same, S.sn, fun H' kp ei => ⟨rfl, k a H' (made_same hn kp) ⟨_, ei, rfl⟩⟩⟩
theorem mk9p {p pos q : Pos} {z : Str} (pe : PE X (.Name z q) (tVar 0)) (hg : Gl X "NoBlock") :
    Mk1 X c n hint mark (.Call (.Name "NoBlock" p) [.Name z q] [] pos) 9 := by
  obtain ⟨fI, fd, iC, tI, G, b1, b2⟩ := M.k9.fn
  refine ⟨_, pe_mkE M.k9.bs M.k9.ex iC tI hs G hr b1 hg M.k9.gl (pa_cons pe pa_nil), fun sm t1 t2 σ H Q pr k => ⟨_, pr.c0, (by show 1 ≤ 1000; decide), fun a hn => ?_⟩⟩
  exact ⟨a, _, rfl, upd_same, S.sn, fun H' kp ei => ⟨rfl, k a H' (made_same hn kp) ⟨_, ei, rfl⟩⟩⟩
theorem mk9k {p pos q kp : Pos} {z : Str} (pe : PE X (.Name z q) (tVar 0)) (hg : Gl X "NoBlock") :
    Mk1 X c n hint mark (.Call (.Name "NoBlock" p) [] [⟨some "place", .Name z q, kp⟩] pos) 9 := by
  obtain ⟨fI, fd, iC, tI, G, b1, b2⟩ := M.k9.fn
  refine ⟨_, pe_mkEK M.k9.bs M.k9.ex iC tI hs G hr b2 hg M.k9.gl (pk_cons pe pk_nil), fun sm t1 t2 σ H Q pr k => ⟨_, pr.c0, rfl, (by show 1 ≤ 1000; decide), fun a hn => ?_⟩⟩
  exact ⟨a, _, rfl, upd_same, S.sn, fun H' kp ei => ⟨rfl, k a H' (made_same hn kp) ⟨_, ei, rfl⟩⟩⟩
theorem mk10p {p pos q : Pos} {z : Str} (pe : PE X (.Name z q) (tVar 0)) (hg : Gl X "NoOutput") :
    Mk1 X c n hint mark (.Call (.Name "NoOutput" p) [.Name z q] [] pos) 10 := by
  obtain ⟨fI, fd, iC, tI, G, b1, b2⟩ := M.k10.fn
  refine ⟨_, pe_mkE M.k10.bs M.k10.ex iC tI hs G hr b1 hg M.k10.gl (pa_cons pe pa_nil), fun sm t1 t2 σ H Q pr k => ⟨_, pr.c0, (by show 1 ≤ 1000; decide), fun a hn => ?_⟩⟩
  exact ⟨a, _, rfl, upd_same, S.sn, fun H' kp ei => ⟨rfl, k a H' (made_same hn kp) ⟨_, ei, rfl⟩⟩⟩
theorem mk10k {p pos q kp : Pos} {z : Str} (pe : PE X (.Name z q) (tVar 0)) (hg : Gl X "NoOutput") :
    Mk1 X c n hint mark (.Call (.Name "NoOutput" p) [] [⟨some "number", .Name z q, kp⟩] pos) 10 := by
  obtain ⟨fI, fd, iC, tI, G, b1, b2⟩ := M.k10.fn
  refine ⟨_, pe_mkEK M.k10.bs M.k10.ex iC tI hs G hr b2 hg M.k10.gl (pk_cons pe pk_nil), fun sm t1 t2 σ H Q pr k => ⟨_, pr.c0, rfl, (by show 1 ≤ 1000; decide), fun a hn => ?_⟩⟩
  exact ⟨a, _, rfl, upd_same, S.sn, fun H' kp ei => ⟨rfl, k a H' (made_same hn kp) ⟨_, ei, rfl⟩⟩⟩
theorem mk11p {p pos q : Pos} {z : Str} (pe : PE X (.Name z q) (tVar 0)) (hg : Gl X "Gone") :
    Mk1 X c n hint mark (.Call (.Name "Gone" p) [.Name z q] [] pos) 11 := by
  obtain ⟨fI, fd, iC, tI, G, b1, b2⟩ := M.k11.fn
  refine ⟨_, pe_mkE M.k11.bs M.k11.ex iC tI hs G hr b1 hg M.k11.gl (pa_cons pe pa_nil), fun sm t1 t2 σ H Q pr k => ⟨_, pr.c0, (by show 1 ≤ 1000; decide), fun a hn => ?_⟩⟩
  exact ⟨a, _, rfl, upd_same, S.sn, fun H' kp ei => ⟨rfl, k a H' (made_same hn kp) ⟨_, ei, rfl⟩⟩⟩
theorem mk11k {p pos q kp : Pos} {z : Str} (pe : PE X (.Name z q) (tVar 0)) (hg : Gl X "Gone") :
    Mk1 X c n hint mark (.Call (.Name "Gone" p) [] [⟨some "number", .Name z q, kp⟩] pos) 11 := by
  obtain ⟨fI, fd, iC, tI, G, b1, b2⟩ := M.k11.fn
  refine ⟨_, pe_mkEK M.k11.bs M.k11.ex iC tI hs G hr b2 hg M.k11.gl (pk_cons pe pk_nil), fun sm t1 t2 σ H Q pr k => ⟨_, pr.c0, rfl, (by show 1 ≤ 1000; decide), fun a hn => ?_⟩⟩
  exact ⟨a, _, rfl, upd_same, S.sn, fun H' kp ei => ⟨rfl, k a H' (made_same hn kp) ⟨_, ei, rfl⟩⟩⟩
theorem mk12p {p pos q q2 q3 : Pos} {z z3 : Str} {jj : Nat} (pe : PE X (.Name z q) (tVar 0)) (pe3 : PE X (.Name z3 q3) (tVar 2)) (hg : Gl X "Refused") :
    Mk1 X c n hint mark (.Call (.Name "Refused" p) [.Name z q, .Constant (.int 2) jj q2, .Name z3 q3] [] pos) 12 := by
  obtain ⟨fI, fd, iC, tI, G, b1, b2⟩ := M.k12.fn
  refine ⟨_, pe_mkE M.k12.bs M.k12.ex iC tI hs G hr b1 hg M.k12.gl (pa_cons pe (pa_cons pe_int (pa_cons pe3 pa_nil))),
    fun sm t1 t2 σ H Q pr k => ⟨_, pr.c0, _, pr.c2, (by show 3 ≤ 1000; decide), fun a hn => ?_⟩⟩
  exact ⟨a, _, _, _, rfl, upd_same, S.sn, .inr ⟨2, rfl, by decide +kernel, by decide +kernel⟩, S.sh, fun H' kp ei => ⟨rfl, k a H' (made_same hn kp) ⟨_, ei, rfl⟩⟩⟩
theorem mk12k {p pos q q2 q3 p1 p2 p3 : Pos} {z z3 : Str} {jj : Nat} (pe : PE X (.Name z q) (tVar 0)) (pe3 : PE X (.Name z3 q3) (tVar 2)) (hg : Gl X "Refused") :
    Mk1 X c n hint mark (.Call (.Name "Refused" p) [] [⟨some "word", .Name z3 q3, p1⟩, ⟨some "depth", .Constant (.int 2) jj q2, p2⟩, ⟨some "task", .Name z q, p3⟩] pos) 12 := by
  obtain ⟨fI, fd, iC, tI, G, b1, b2⟩ := M.k12.fn
  refine ⟨_, pe_mkEK M.k12.bs M.k12.ex iC tI hs G hr b2 hg M.k12.gl (pk_cons pe3 (pk_cons pe_int (pk_cons pe pk_nil))),
    fun sm t1 t2 σ H Q pr k => ⟨_, pr.c2, _, pr.c0, rfl, (by show 3 ≤ 1000; decide), fun a hn => ?_⟩⟩
  exact ⟨a, _, _, _, rfl, upd_same, S.sn, .inr ⟨2, rfl, by decide +kernel, by decide +kernel⟩, S.sh, fun H' kp ei => ⟨rfl, k a H' (made_same hn kp) ⟨_, ei, rfl⟩⟩⟩
theorem mk13p {p pos : Pos} (hg : Gl X "Busy") : Mk1 X c n hint mark (.Call (.Name "Busy" p) [] [] pos) 13 := by
  obtain ⟨fI, fd, iC, tI, G, b1, b2⟩ := M.k13.fn
  refine ⟨_, pe_mkE0 M.k13.bs M.k13.ex iC tI hs G hr b1 hg M.k13.gl, fun sm t1 t2 σ H Q pr k => ⟨by decide, fun a hn => ?_⟩⟩
  exact ⟨a, rfl, upd_same, fun H' kp ei => ⟨rfl, k a H' (made_same hn kp) ⟨_, ei, rfl⟩⟩⟩
theorem mk13k {p pos : Pos} (hg : Gl X "Busy") : Mk1 X c n hint mark (.Call (.Name "Busy" p) [] [] pos) 13 := mk13p hs hr M S hg
theorem mk14p {p pos : Pos} (hg : Gl X "Idle") : Mk1 X c n hint mark (.Call (.Name "Idle" p) [] [] pos) 14 := by
  obtain ⟨fI, fd, iC, tI, G, b1, b2⟩ := M.k14.fn
  refine ⟨_, pe_mkE0 M.k14.bs M.k14.ex iC tI hs G hr b1 hg M.k14.gl, fun sm t1 t2 σ H Q pr k => ⟨by decide, fun a hn => ?_⟩⟩
  exact ⟨a, rfl, upd_same, fun H' kp ei => ⟨rfl, k a H' (made_same hn kp) ⟨_, ei, rfl⟩⟩⟩
theorem mk14k {p pos : Pos} (hg : Gl X "Idle") : Mk1 X c n hint mark (.Call (.Name "Idle" p) [] [] pos) 14 := mk14p hs hr M S hg
theorem mk15p {p pos : Pos} (hg : Gl X "Stopped") : Mk1 X c n hint mark (.Call (.Name "Stopped" p) [] [] pos) 15 := by
  obtain ⟨fI, fd, iC, tI, G, b1, b2⟩ := M.k15.fn
  refine ⟨_, pe_mkE0 M.k15.bs M.k15.ex iC tI hs G hr b1 hg M.k15.gl, fun sm t1 t2 σ H Q pr k => ⟨by decide, fun a hn => ?_⟩⟩
  exact ⟨a, rfl, upd_same, fun H' kp ei => ⟨rfl, k a H' (made_same hn kp) ⟨_, ei, rfl⟩⟩⟩
theorem mk15k {p pos : Pos} (hg : Gl X "Stopped") : Mk1 X c n hint mark (.Call (.Name "Stopped" p) [] [] pos) 15 := mk15p hs hr M S hg
theorem mk16p {p pos : Pos} (hg : Gl X "NoRoot") : Mk1 X c n hint mark (.Call (.Name "NoRoot" p) [] [] pos) 16 := by
  obtain ⟨fI, fd, iC, tI, G, b1, b2⟩ := M.k16.fn
  refine ⟨_, pe_mkE0 M.k16.bs M.k16.ex iC tI hs G hr b1 hg M.k16.gl, fun sm t1 t2 σ H Q pr k => ⟨by decide, fun a hn => ?_⟩⟩
  exact ⟨a, rfl, upd_same, fun H' kp ei => ⟨rfl, k a H' (made_same hn kp) ⟨_, ei, rfl⟩⟩⟩
theorem mk16k {p pos : Pos} (hg : Gl X "NoRoot") : Mk1 X c n hint mark (.Call (.Name "NoRoot" p) [] [] pos) 16 := mk16p hs hr M S hg
theorem mk17p {p pos q : Pos} {z : Str} (pe : PE X (.Name z q) (tVar 0)) (hg : Gl X "Full") :
    Mk1 X c n hint mark (.Call (.Name "Full" p) [.Name z q] [] pos) 17 := by
  obtain ⟨fI, fd, iC, tI, G, b1, b2⟩ := M.k17.fn
  refine ⟨_, pe_mkE M.k17.bs M.k17.ex iC tI hs G hr b1 hg M.k17.gl (pa_cons pe pa_nil), fun sm t1 t2 σ H Q pr k => ⟨_, pr.c0, (by show 1 ≤ 1000; decide), fun a hn => ?_⟩⟩
  exact ⟨a, _, rfl, upd_same, S.sn, fun H' kp ei => ⟨rfl, k a H' (made_same hn kp) ⟨_, ei, rfl⟩⟩⟩
theorem mk17k {p pos q kp : Pos} {z : Str} (pe : PE X (.Name z q) (tVar 0)) (hg : Gl X "Full") :
    Mk1 X c n hint mark (.Call (.Name "Full" p) [] [⟨some "count", .Name z q, kp⟩] pos) 17 := by
  obtain ⟨fI, fd, iC, tI, G, b1, b2⟩ := M.k17.fn
  refine ⟨_, pe_mkEK M.k17.bs M.k17.ex iC tI hs G hr b2 hg M.k17.gl (pk_cons pe pk_nil), fun sm t1 t2 σ H Q pr k => ⟨_, pr.c0, rfl, (by show 1 ≤ 1000; decide), fun a hn => ?_⟩⟩
  exact ⟨a, _, rfl, upd_same, S.sn, fun H' kp ei => ⟨rfl, k a H' (made_same hn kp) ⟨_, ei, rfl⟩⟩⟩
end
end K09

set_option Elab.async false
set_option linter.all false
set_option maxRecDepth 100000
set_option maxHeartbeats 4000000
namespace K09
open PySem L2 JB
def forBody (s : Stmt) : List Stmt := match s with
  | .For _ _ b _ _ => b
  | _ => []
abbrev bR (i : Nat) : Stmt := (defBody sRight).getD i (.Pass ⟨0, 0, 0, 0⟩)
/-- the i-th statement of the loop over the two lists -/
abbrev bL (i : Nat) : Stmt := (forBody (bR 9)).getD i (.Pass ⟨0, 0, 0, 0⟩)
theorem scR : FnScope nR ["_law_cell"] (defScope sRight) :=
  ⟨rfl, rfl, rfl, by decide +kernel, rfl, by decide +kernel, by decide +kernel⟩
abbrev XR (P : Program) (w : World) (K : PySem.W.Frag) (mg : Str → Option Value) (base : Heap) (f : Addr) (cdv : Value) (A : Around)
    (outer : List Env) (s : Shared) (H : Hp) (E : XK) : Cx :=
  (cxOf CX0 P w K mg base nR "_law_right" (defScope sRight) f cdv A outer s H E).nox
/-- the helpers -/
structure Helps (P : Program) (w : World) (K : PySem.W.Frag) (mg : Str → Option Value) (base : Heap) (c : Nat → Addr) : Prop where
  same : ∃ f fd, mg "_law_same" = some (.ref f) ∧ PySem.W.keepIn K (.ref f) = true ∧ FnG P w K mg base CX0 1 f fd ["_law_found", "_law_due"] (spSame K) ∧ Binds K fd ["_law_found", "_law_due"] []
  kinds : ∃ f fd, mg "_law_kinds" = some (.ref f) ∧ PySem.W.keepIn K (.ref f) = true ∧ FnOk P w K mg base CX0 1 f fd ["_law_error"] (spKinds c) ∧ Binds K fd ["_law_error"] []
  bases : ∃ f fd, mg "_law_bases" = some (.ref f) ∧ PySem.W.keepIn K (.ref f) = true ∧ FnOk P w K mg base CX0 1 f fd ["_law_error"] (spBases c) ∧ Binds K fd ["_law_error"] []
  mEnum : mg "enumerate" = none
  mInt : mg "int" = none
  mRange : mg "range" = none
  mStr : mg "str" = none
theorem bools_dp {K : PySem.W.Frag} {H : Hp} {l : Addr} {bs : List Bool} (h : H l = some (.lst (bs.map V.bl))) : Dp K H (.ref l) (.list (bs.map PyData.bool)) := by
  refine .lst (SqL.of h) ?_
  clear h
  induction bs with
  | nil => exact .nil
  | cons b r ih => exact .cons (.bl b) ih
theorem can_bools : ∀ bs : List Bool, PyData.canLayAll0 (bs.map PyData.bool) = true
  | [] => rfl
  | b :: r => by
    rw [List.map_cons, PyData.canLayAll0, can_bools r]
    rfl
theorem dep_bools : ∀ bs : List Bool, PyData.depthAll (bs.map PyData.bool) ≤ 2
  | [] => by simp [PyData.depthAll]
  | b :: r => by
    have := dep_bools r
    simp only [List.map_cons, PyData.depthAll, PyData.depth]
    omega
theorem sh_bools (bs : List Bool) : SeqAt.shaped (.list (bs.map PyData.bool)) = true := by
  unfold SeqAt.shaped
  have h1 : (PyData.list (bs.map PyData.bool)).canLay0 = true := by rw [PyData.canLay0]; exact can_bools bs
  have h2 : (PyData.list (bs.map PyData.bool)).depth ≤ 64 := by
    have := dep_bools bs
    simp only [PyData.depth]
    omega
  rw [h1, decide_eq_true h2]
  rfl
theorem eq_bools (bs : List Bool) : PyData.eqv (.list (bs.map PyData.bool)) (.list (bs.map PyData.bool)) = true :=
  SeqAt.eqv_refl _ (SeqAt.canLay_of_shaped (sh_bools bs))
theorem base_eq : ∀ j : Fin 18, ([decide (j.val < 7), decide (6 < j.val ∧ j.val < 12), decide (11 < j.val ∧ j.val < 17), decide (16 < j.val), false] : List Bool) =
    ((List.range 4).map fun (i : Nat) => decide ((i : Int) = ((if decide ((6 : Int) < (j.val : Int)) = true then 1 else 0) + (if decide ((11 : Int) < (j.val : Int)) = true then 1 else 0) +
      (if decide ((16 : Int) < (j.val : Int)) = true then 1 else 0)))) ++ [false] := by decide +kernel
theorem int_dec (i j : Nat) : decide (V.int (0 + (i : Int)) = V.int (j : Int)) = decide (i = j) := by
  by_cases h : i = j
  · subst h; simp
  · rw [decide_eq_false h]; exact decide_eq_false (fun e => h (by have := V.int.inj e; omega))
theorem int_decI (i : Nat) (z : Int) : decide (V.int (0 + (i : Int)) = V.int z) = decide ((i : Int) = z) := by
  by_cases h : (i : Int) = z
  · subst h; simp
  · rw [decide_eq_false h]; exact decide_eq_false (fun e => h (by have := V.int.inj e; omega))
theorem keep_list {H H' : Hp} {D : Addr} {o : HO} (n : H D = none) (s : Same H H') : Same H (upd H' D o) := fun b u e => by
  rw [upd_ne (ne_of_none e n)]; exact s b u e
theorem wipe_set (σ : L2.St) (x : Option V) : wipe ((wipe σ [12]).set 12 x) [12] = wipe σ [12] := by
  simp [wipe, List.set_set]
theorem small_len {α : Type} (f : Nat → α) {i m : Nat} (h : i < m) (hm : m ≤ 1000 := by decide) : ((List.range i).map f).length < sizeLine := by
  rw [List.length_map, List.length_range, sizeLine_eq]; omega
def bsum (i : Nat) : Int := ((if decide ((6 : Int) < ((i : Nat) : Int)) = true then (1 : Int) else 0) + (if decide ((11 : Int) < ((i : Nat) : Int)) = true then 1 else 0)) +
  (if decide ((16 : Int) < ((i : Nat) : Int)) = true then 1 else 0)
def slots (σ : L2.St) (i : Nat) (a : Addr) : L2.St := ((σ.set 9 (some (V.int (i : Nat)))).set 10 (some (V.ref a))).set 11 (some (V.int (bsum i)))
/-- what a loop leaves alone -/
structure Left (k : Nat) (σ σ' : L2.St) (H H' : Hp) : Prop where
  sl : ∀ i, i < k → σ'[i]? = σ[i]?
  ln : σ'.length = 13
  hp : Same H H'
section
variable {P : Program} {w : World} {K : PySem.W.Frag} {mg : Str → Option Value} {base : Heap} {c : Nat → Addr}
variable {n : Int} {hint mark : Str}
theorem inner {f : Addr} {cdv : Value} {A : Around} {outer : List Env} {s : Shared} {H0 : Hp} {E : XK} (hr : Room 2 (XR P w K mg base f cdv A outer s H0 E).A)
    (U : Helps P w K mg base c) :
    ∃ t, PS (XR P w K mg base f cdv A outer s H0 E) (bL 5) t ∧ ∀ (t1 t2 : Addr) (D : Ends) (σ : L2.St) (H : Hp) (es : Addr) (as : List Addr), σ.length = 13 →
      σ[6]? = some (some (.ref es)) → H es = some (.lst (as.map V.ref)) → Goods c n t1 t2 hint mark H (List.range 18) as →
      (∀ σ' H', Left 9 σ σ' H H' → D.nx σ' H') → t D σ H := by
  obtain ⟨fK, fdK, gK, kK, okK, bK⟩ := U.kinds
  obtain ⟨fB, fdB, gB, kB, okB, bB⟩ := U.bases
  have hr1 := hr.mono (by decide : 1 ≤ 2)
  refine ⟨_, ps_for PassesOwn.never rfl (pi_enum rfl U.mEnum (pa_cons (pv 6) pa_nil))
    (pg_tup rfl (pgs_cons (pg_name (i := 9) scR.nd rfl (Or.inr rfl)) (pgs_cons (pg_name (i := 10) scR.nd rfl (Or.inl rfl)) pgs_nil)))
    (pss_cons (ps_set (i := 11) scR.nd rfl (Or.inr rfl) (pe_op op_add (pe_op op_add
        (pe_callTy call_int1 (by rfl) U.mInt (by decide +kernel) (pa_cons (pe_cmpR op_gt (pv 9) pe_int (nomark _)) pa_nil))
        (pe_callTy call_int1 (by rfl) U.mInt (by decide +kernel) (pa_cons (pe_cmpR op_gt (pv 9) pe_int (nomark _)) pa_nil)))
        (pe_callTy call_int1 (by rfl) U.mInt (by decide +kernel) (pa_cons (pe_cmpR op_gt (pv 9) pe_int (nomark _)) pa_nil))))
    (pss_cons (ps_if (pt_cmpR (op_neD hr.units) (pe_call okK hr1 rfl gK kK bK .nil pass0 (pa_cons (pv 10) pa_nil))
        (pe_lc (own := [("_law_spot", 12)]) (g := gName 12) (tt := tYes) rfl scR.nd (pi_range1 rfl U.mRange (pa_cons pe_int pa_nil))
          (blkOk_by (N := nR) (sc := defScope sRight) (by decide +kernel)) (fun _ _ _ _ _ => pg_name (i := 12) scR.nd rfl (Or.inl rfl))
          (fun _ _ _ _ _ => pts_nil) (fun _ _ _ _ _ => pe_cmpR op_eq (pv 12) (pv 9) (nomark _))) (nomark _)) (pss_one (ps_ret pe_bl)) pss_nil)
    (pss_one (ps_if (pt_cmpR (op_neD hr.units) (pe_call okB hr1 rfl gB kB bB .nil pass0 (pa_cons (pv 10) pa_nil))
        (pe_op op_cat (pe_lc (own := [("_law_spot", 12)]) (g := gName 12) (tt := tYes) rfl scR.nd (pi_range1 rfl U.mRange (pa_cons pe_int pa_nil))
          (blkOk_by (N := nR) (sc := defScope sRight) (by decide +kernel)) (fun _ _ _ _ _ => pg_name (i := 12) scR.nd rfl (Or.inl rfl))
          (fun _ _ _ _ _ => pts_nil) (fun _ _ _ _ _ => pe_cmpR op_eq (pv 12) (pv 11) (nomark _))) (pe_lst (pa_cons pe_bl pa_nil))) (nomark _)) (pss_one (ps_ret pe_bl)) pss_nil)))), ?_⟩
  intro t1 t2 D σ H es as hlen h6 hes hg k
  refine ⟨_, h6, es, as.map V.ref, rfl, SqL.of hes, for_it (walk_enum (K := K) (a := es) (xs := as.map V.ref)) (fun i σ' H' => Left 9 σ σ' H H')
    ⟨fun i _ => rfl, hlen, Same.refl H⟩ (fun i σ' H' _ p => p.hp.seq (SqL.of hes)) ?_ (fun σ' H' p => k σ' H' p)⟩
  have l18 : as.length = 18 := by rw [hg.len]; rfl
  rintro i x σ' H1 H2 hi p ⟨Tp, _, y, rfl, nT, rfl, e1, e2⟩
  cases e1
  rw [List.length_map, l18] at hi
  obtain ⟨a, ha, good⟩ := hg.get i i (by rw [List.getElem?_range hi])
  have ey : y = V.ref a := by
    have e3 : (as.map V.ref)[i]? = some y := e2
    rw [List.getElem?_map, ha] at e3
    exact (Option.some.inj e3).symm
  subst ey
  obtain ⟨fs, ei, _⟩ := good
  have s1 : Same H (upd H1 Tp (.tup [.int (i : Nat), .ref a])) := p.hp.trans (same_new nT)
  have ei1 := ei.keep s1
  have ln := p.ln
  refine ⟨Tp, _, rfl, SqT.of upd_same, rfl, _, _, rfl, _, _, rfl, rfl, ?_⟩
  have s9 : ((σ'.set 9 (some (V.int (i : Nat)))).set 10 (some (V.ref a)))[9]? = some (some (V.int (i : Nat))) := by
    simp [List.getElem?_set, ln]
  refine ⟨_, s9, _, _, rfl, rfl, .inr ⟨_, rfl, _, s9, _, _, rfl, rfl, .inr ⟨_, rfl, _, _, rfl, rfl, _, s9, _, _, rfl, rfl, .inr ⟨_, rfl, _, _, rfl, rfl, ?_⟩⟩⟩⟩
  have t9 : (slots σ' i a)[9]? = some (some (V.int (i : Nat))) := by simp [slots, List.getElem?_set, ln]
  have t10 : (slots σ' i a)[10]? = some (some (V.ref a)) := by simp [slots, List.getElem?_set, ln]
  have t11 : (slots σ' i a)[11]? = some (some (V.int (bsum i))) := by simp [slots, List.getElem?_set, ln]
  have tl : (slots σ' i a).length = 13 := by simp [slots, ln]
  have u9 : ∀ x, ((wipe (slots σ' i a) [12]).set 12 x)[9]? = some (some (V.int (i : Nat))) := fun x => by rw [← t9]; simp [wipe, List.getElem?_set]
  have u11 : ∀ x, ((wipe (slots σ' i a) [12]).set 12 x)[11]? = some (some (V.int (bsum i))) := fun x => by rw [← t11]; simp [wipe, List.getElem?_set]
  have u12 : ∀ x, ((wipe (slots σ' i a) [12]).set 12 x)[12]? = some x := fun x => by simp [wipe, List.getElem?_set, tl]
  -- kinds
  refine ⟨_, t10, a, i, fs, rfl, hi, ei1, fun l Hk sk hl => ?_⟩
  refine ⟨18, rfl, by decide, by decide, fun Dc hD => ?_⟩
  refine lc_range (lo := 0) (n := 18) (fun m H' => Same Hk H' ∧ H' Dc = some (.lst ((List.range m).map fun q => V.bl (decide (q = i)))))
    ⟨same_new hD, upd_same⟩ ?_ ?_
  · rintro m H' hm ⟨sm', hl'⟩
    refine ⟨wipe_set _ _, ?_⟩
    refine ⟨_, u12 _, _, u9 _, rfl, _, hl', small_len _ hm, ?_⟩
    refine ⟨keep_list hD sm', ?_⟩
    rw [upd_same, int_dec, List.range_succ, List.map_append]
    rfl
  rintro H' ⟨sm', hl'⟩
  have d1 : Dp K H' (.ref l) (.list (((List.range 18).map fun q => decide (q = i)).map PyData.bool)) := bools_dp (by rw [List.map_map]; exact sm' _ _ hl)
  have d2 : Dp K H' (.ref Dc) (.list (((List.range 18).map fun q => decide (q = i)).map PyData.bool)) := bools_dp (by rw [List.map_map]; exact hl')
  refine ⟨_, _, d1, d2, sh_bools _, sh_bools _, _, rfl, ?_⟩
  rw [eq_bools]
  refine iteF ?_
  have s2 : Same H H' := s1.trans (sk.trans sm')
  -- bases
  refine ⟨_, t10, a, i, fs, rfl, hi, ei.keep s2, fun l2 Hb sb hl2 => ?_⟩
  refine ⟨4, rfl, by decide, by decide, fun Dd hDd => ?_⟩
  refine lc_range (lo := 0) (n := 4) (fun m H' => Same Hb H' ∧ H' Dd = some (.lst ((List.range m).map fun (q : Nat) => V.bl (decide ((q : Int) = bsum i)))))
    ⟨same_new hDd, upd_same⟩ ?_ ?_
  · rintro m H' hm ⟨sm', hl'⟩
    refine ⟨wipe_set _ _, ?_⟩
    refine ⟨_, u12 _, _, u11 _, rfl, _, hl', small_len _ hm, ?_⟩
    refine ⟨keep_list hDd sm', ?_⟩
    rw [upd_same, int_decI, List.range_succ, List.map_append]
    rfl
  rintro H3 ⟨sm3, hl3⟩
  refine ⟨(by show 1 ≤ sizeLine; decide), fun pF nF => ?_⟩
  refine ⟨Dd, pF, _, _, rfl, rfl, Eq.trans (upd_ne (ne_of_none hl3 nF)) hl3, upd_same, (by show 5 ≤ sizeLine; decide), fun pG nG => ?_⟩
  have q := base_eq ⟨i, hi⟩
  have eB : ([decide (i < 7), decide (6 < i ∧ i < 12), decide (11 < i ∧ i < 17), decide (16 < i), false] : List Bool) =
      ((List.range 4).map fun (q : Nat) => decide ((q : Int) = bsum i)) ++ [false] := q
  have e1 : Dp K (upd (upd H3 pF (.lst [V.bl false])) pG (.lst (((List.range 4).map fun (q : Nat) => V.bl (decide ((q : Int) = bsum i))) ++ [V.bl false]))) (.ref l2)
      (.list ([decide (i < 7), decide (6 < i ∧ i < 12), decide (11 < i ∧ i < 17), decide (16 < i), false].map PyData.bool)) :=
    bools_dp (by
      have a1 := sm3 _ _ hl2
      rw [upd_ne (ne_of_none (Eq.trans (upd_ne (ne_of_none a1 nF)) a1) nG), upd_ne (ne_of_none a1 nF)]
      exact a1)
  have e2' : Dp K (upd (upd H3 pF (.lst [V.bl false])) pG (.lst (((List.range 4).map fun (q : Nat) => V.bl (decide ((q : Int) = bsum i))) ++ [V.bl false]))) (.ref pG)
      (.list ((((List.range 4).map fun (q : Nat) => decide ((q : Int) = bsum i)) ++ [false]).map PyData.bool)) :=
    bools_dp (by rw [upd_same, List.map_append, List.map_map]; rfl)
  rw [← eB] at e2'
  refine ⟨_, _, e1, e2', sh_bools _, sh_bools _, _, rfl, ?_⟩
  rw [eq_bools]
  refine iteF ?_
  refine ⟨fun z hz => ?_, tl, ((s2.trans (sb.trans sm3)).trans (same_new nF)).trans (same_new nG)⟩
  show (((σ'.set 9 _).set 10 _).set 11 _)[z]? = _
  rw [List.getElem?_set_ne (by omega), List.getElem?_set_ne (by omega), List.getElem?_set_ne (by omega)]
  exact p.sl z hz
end
end K09

set_option Elab.async false
set_option linter.all false
set_option maxRecDepth 100000
set_option maxHeartbeats 4000000
namespace K09
open PySem L2 JB
theorem iteB {c : Bool} {A B : Prop} (h : c = false) (b : B) : if c = true then A else B := by
  subst h
  exact iteF b
/-- no class has an attribute of its fields' names -/
structure NoA (K : PySem.W.Frag) (c : Nat → Addr) : Prop where
  a0at : PySem.W.findIn K (.ref (c 0)) "at" = some none
  a1faults : PySem.W.findIn K (.ref (c 1)) "faults" = some none
  a2number : PySem.W.findIn K (.ref (c 2)) "number" = some none
  a3number : PySem.W.findIn K (.ref (c 3)) "number" = some none
  a4number : PySem.W.findIn K (.ref (c 4)) "number" = some none
  a5block : PySem.W.findIn K (.ref (c 5)) "block" = some none
  a6index : PySem.W.findIn K (.ref (c 6)) "index" = some none
  a7ref : PySem.W.findIn K (.ref (c 7)) "ref" = some none
  a8place : PySem.W.findIn K (.ref (c 8)) "place" = some none
  a9place : PySem.W.findIn K (.ref (c 9)) "place" = some none
  a10number : PySem.W.findIn K (.ref (c 10)) "number" = some none
  a11number : PySem.W.findIn K (.ref (c 11)) "number" = some none
  a12task : PySem.W.findIn K (.ref (c 12)) "task" = some none
  a12depth : PySem.W.findIn K (.ref (c 12)) "depth" = some none
  a12word : PySem.W.findIn K (.ref (c 12)) "word" = some none
  a17count : PySem.W.findIn K (.ref (c 17)) "count" = some none
abbrev dL (n : Int) : PyData := .list [.tuple [.str "main", .int n, .str "twice"], .tuple [.str "f", .int (-1), .str "many"]]
abbrev dAll (n : Int) (hint mark : Str) : PyData := .list [.int n, dL n, .int n, .int n, .int n, .int n, .int n, .str mark, .int n, .int n, .int n, .int n, .int n, .int 2, .str hint, .int n]
theorem errIs_some {H : Hp} {a C : Addr} {fs : List (Str × V)} (h : ErrIs H a C fs) (n : fs ≠ []) : ∃ dx, H a = some (exo a C (some dx)) ∧ H dx = some (exd dx fs) := by
  rcases h with ⟨e, _⟩ | h
  · exact absurd e n
  · exact h
section
variable {c : Nat → Addr} {n : Int} {t1 t2 : Addr} {hint mark : Str} {H : Hp} {a : Addr}
theorem fld0at (g : Good c n t1 t2 hint mark H 0 a) : ∃ dx fs, H a = some (exo a (c 0) (some dx)) ∧ H dx = some (exd dx fs) ∧
    fs.lookup (Str.ofString "at") = some (V.int n) := by
  obtain ⟨fs, e, q⟩ := g
  obtain rfl : fs = _ := q
  obtain ⟨dx, h1, h2⟩ := errIs_some e (by simp)
  exact ⟨dx, _, h1, h2, by simp [List.lookup]⟩
theorem fld1faults (g : Good c n t1 t2 hint mark H 1 a) : ∃ dx fs l, H a = some (exo a (c 1) (some dx)) ∧ H dx = some (exd dx fs) ∧
    fs.lookup (Str.ofString "faults") = some (V.ref l) ∧ H l = some (.lst [.ref t1, .ref t2]) := by
  obtain ⟨fs, e, l, rfl, hl⟩ := g
  obtain ⟨dx, h1, h2⟩ := errIs_some e (by simp)
  exact ⟨dx, _, l, h1, h2, by simp [List.lookup], hl⟩
theorem fld2number (g : Good c n t1 t2 hint mark H 2 a) : ∃ dx fs, H a = some (exo a (c 2) (some dx)) ∧ H dx = some (exd dx fs) ∧
    fs.lookup (Str.ofString "number") = some (V.int n) := by
  obtain ⟨fs, e, q⟩ := g
  obtain rfl : fs = _ := q
  obtain ⟨dx, h1, h2⟩ := errIs_some e (by simp)
  exact ⟨dx, _, h1, h2, by simp [List.lookup]⟩
theorem fld3number (g : Good c n t1 t2 hint mark H 3 a) : ∃ dx fs, H a = some (exo a (c 3) (some dx)) ∧ H dx = some (exd dx fs) ∧
    fs.lookup (Str.ofString "number") = some (V.int n) := by
  obtain ⟨fs, e, q⟩ := g
  obtain rfl : fs = _ := q
  obtain ⟨dx, h1, h2⟩ := errIs_some e (by simp)
  exact ⟨dx, _, h1, h2, by simp [List.lookup]⟩
theorem fld4number (g : Good c n t1 t2 hint mark H 4 a) : ∃ dx fs, H a = some (exo a (c 4) (some dx)) ∧ H dx = some (exd dx fs) ∧
    fs.lookup (Str.ofString "number") = some (V.int n) := by
  obtain ⟨fs, e, q⟩ := g
  obtain rfl : fs = _ := q
  obtain ⟨dx, h1, h2⟩ := errIs_some e (by simp)
  exact ⟨dx, _, h1, h2, by simp [List.lookup]⟩
theorem fld5block (g : Good c n t1 t2 hint mark H 5 a) : ∃ dx fs, H a = some (exo a (c 5) (some dx)) ∧ H dx = some (exd dx fs) ∧
    fs.lookup (Str.ofString "block") = some (V.int n) := by
  obtain ⟨fs, e, q⟩ := g
  obtain rfl : fs = _ := q
  obtain ⟨dx, h1, h2⟩ := errIs_some e (by simp)
  exact ⟨dx, _, h1, h2, by simp [List.lookup]⟩
theorem fld6index (g : Good c n t1 t2 hint mark H 6 a) : ∃ dx fs, H a = some (exo a (c 6) (some dx)) ∧ H dx = some (exd dx fs) ∧
    fs.lookup (Str.ofString "index") = some (V.int n) := by
  obtain ⟨fs, e, q⟩ := g
  obtain rfl : fs = _ := q
  obtain ⟨dx, h1, h2⟩ := errIs_some e (by simp)
  exact ⟨dx, _, h1, h2, by simp [List.lookup]⟩
theorem fld7ref (g : Good c n t1 t2 hint mark H 7 a) : ∃ dx fs, H a = some (exo a (c 7) (some dx)) ∧ H dx = some (exd dx fs) ∧
    fs.lookup (Str.ofString "ref") = some (V.str mark) := by
  obtain ⟨fs, e, q⟩ := g
  obtain rfl : fs = _ := q
  obtain ⟨dx, h1, h2⟩ := errIs_some e (by simp)
  exact ⟨dx, _, h1, h2, by simp [List.lookup]⟩
theorem fld8place (g : Good c n t1 t2 hint mark H 8 a) : ∃ dx fs, H a = some (exo a (c 8) (some dx)) ∧ H dx = some (exd dx fs) ∧
    fs.lookup (Str.ofString "place") = some (V.int n) := by
  obtain ⟨fs, e, q⟩ := g
  obtain rfl : fs = _ := q
  obtain ⟨dx, h1, h2⟩ := errIs_some e (by simp)
  exact ⟨dx, _, h1, h2, by simp [List.lookup]⟩
theorem fld9place (g : Good c n t1 t2 hint mark H 9 a) : ∃ dx fs, H a = some (exo a (c 9) (some dx)) ∧ H dx = some (exd dx fs) ∧
    fs.lookup (Str.ofString "place") = some (V.int n) := by
  obtain ⟨fs, e, q⟩ := g
  obtain rfl : fs = _ := q
  obtain ⟨dx, h1, h2⟩ := errIs_some e (by simp)
  exact ⟨dx, _, h1, h2, by simp [List.lookup]⟩
theorem fld10number (g : Good c n t1 t2 hint mark H 10 a) : ∃ dx fs, H a = some (exo a (c 10) (some dx)) ∧ H dx = some (exd dx fs) ∧
    fs.lookup (Str.ofString "number") = some (V.int n) := by
  obtain ⟨fs, e, q⟩ := g
  obtain rfl : fs = _ := q
  obtain ⟨dx, h1, h2⟩ := errIs_some e (by simp)
  exact ⟨dx, _, h1, h2, by simp [List.lookup]⟩
theorem fld11number (g : Good c n t1 t2 hint mark H 11 a) : ∃ dx fs, H a = some (exo a (c 11) (some dx)) ∧ H dx = some (exd dx fs) ∧
    fs.lookup (Str.ofString "number") = some (V.int n) := by
  obtain ⟨fs, e, q⟩ := g
  obtain rfl : fs = _ := q
  obtain ⟨dx, h1, h2⟩ := errIs_some e (by simp)
  exact ⟨dx, _, h1, h2, by simp [List.lookup]⟩
theorem fld12task (g : Good c n t1 t2 hint mark H 12 a) : ∃ dx fs, H a = some (exo a (c 12) (some dx)) ∧ H dx = some (exd dx fs) ∧
    fs.lookup (Str.ofString "task") = some (V.int n) := by
  obtain ⟨fs, e, q⟩ := g
  obtain rfl : fs = _ := q
  obtain ⟨dx, h1, h2⟩ := errIs_some e (by simp)
  exact ⟨dx, _, h1, h2, by rfl⟩
theorem fld12depth (g : Good c n t1 t2 hint mark H 12 a) : ∃ dx fs, H a = some (exo a (c 12) (some dx)) ∧ H dx = some (exd dx fs) ∧
    fs.lookup (Str.ofString "depth") = some (V.int 2) := by
  obtain ⟨fs, e, q⟩ := g
  obtain rfl : fs = _ := q
  obtain ⟨dx, h1, h2⟩ := errIs_some e (by simp)
  exact ⟨dx, _, h1, h2, by rfl⟩
theorem fld12word (g : Good c n t1 t2 hint mark H 12 a) : ∃ dx fs, H a = some (exo a (c 12) (some dx)) ∧ H dx = some (exd dx fs) ∧
    fs.lookup (Str.ofString "word") = some (V.str hint) := by
  obtain ⟨fs, e, q⟩ := g
  obtain rfl : fs = _ := q
  obtain ⟨dx, h1, h2⟩ := errIs_some e (by simp)
  exact ⟨dx, _, h1, h2, by rfl⟩
theorem fld17count (g : Good c n t1 t2 hint mark H 17 a) : ∃ dx fs, H a = some (exo a (c 17) (some dx)) ∧ H dx = some (exd dx fs) ∧
    fs.lookup (Str.ofString "count") = some (V.int n) := by
  obtain ⟨fs, e, q⟩ := g
  obtain rfl : fs = _ := q
  obtain ⟨dx, h1, h2⟩ := errIs_some e (by simp)
  exact ⟨dx, _, h1, h2, by simp [List.lookup]⟩
end
section
variable {P : Program} {w : World} {K : PySem.W.Frag} {mg : Str → Option Value} {base : Heap} {c : Nat → Addr}
variable {n : Int} {hint mark : Str}
theorem turnL {f : Addr} {cdv : Value} {A : Around} {outer : List Env} {s : Shared} {H0 : Hp} {E : XK} (hst : Still (XR P w K mg base f cdv A outer s H0 E).A) (hr : Room 2 (XR P w K mg base f cdv A outer s H0 E).A)
    (U : Helps P w K mg base c) (N : NoA K c) (T : AllC K mg c) (fn : Fine (dAll n hint mark)) :
    ∃ t, PSs (XR P w K mg base f cdv A outer s H0 E) (forBody (bR 9)) t ∧ ∀ (sm t1 t2 : Addr) (D : Ends) (σ : L2.St) (H : Hp) (es : Addr) (as : List Addr), σ.length = 13 →
      σ[6]? = some (some (.ref es)) → H es = some (.lst (as.map V.ref)) → Goods c n t1 t2 hint mark H (List.range 18) as → Pre n sm t1 t2 hint mark σ H →
      (∀ σ' H', Left 7 σ σ' H H' → D.nx σ' H') → t D σ H := by
  obtain ⟨tI, pI, qI⟩ := inner (c := c) (n := n) (hint := hint) (mark := mark) (f := f) (cdv := cdv) (A := A) (outer := outer) (s := s) (H0 := H0) (E := E) hr U
  obtain ⟨fS, fdS, gS, kS, okS, bS⟩ := U.same
  have hr1 := hr.mono (by decide : 1 ≤ 2)
  refine ⟨_, pss_cons (ps_set (i := 7) scR.nd rfl (Or.inl rfl) (pe_lst (pa_cons (pe_getE (pe_ix ix_list (pv 6) pe_int (fun _ _ => rfl))) (pa_cons (pe_getE (pe_ix ix_list (pv 6) pe_int (fun _ _ => rfl))) (pa_cons (pe_getE (pe_ix ix_list (pv 6) pe_int (fun _ _ => rfl))) (pa_cons (pe_getE (pe_ix ix_list (pv 6) pe_int (fun _ _ => rfl))) (pa_cons (pe_getE (pe_ix ix_list (pv 6) pe_int (fun _ _ => rfl))) (pa_cons (pe_getE (pe_ix ix_list (pv 6) pe_int (fun _ _ => rfl))) pa_nil))))))))
    (pss_cons (ps_set (i := 7) scR.nd rfl (Or.inl rfl) (pe_op op_cat (pv 7) (pe_lst (pa_cons (pe_getE (pe_ix ix_list (pv 6) pe_int (fun _ _ => rfl))) (pa_cons (pe_getE (pe_ix ix_list (pv 6) pe_int (fun _ _ => rfl))) (pa_cons (pe_getE (pe_ix ix_list (pv 6) pe_int (fun _ _ => rfl))) (pa_cons (pe_getE (pe_ix ix_list (pv 6) pe_int (fun _ _ => rfl))) (pa_cons (pe_getE (pe_ix ix_list (pv 6) pe_int (fun _ _ => rfl))) pa_nil))))))))
    (pss_cons (ps_set (i := 7) scR.nd rfl (Or.inl rfl) (pe_op op_cat (pv 7) (pe_lst (pa_cons (pe_getE (pe_ix ix_list (pv 6) pe_int (fun _ _ => rfl))) (pa_cons (pe_getE (pe_ix ix_list (pv 6) pe_int (fun _ _ => rfl))) (pa_cons (pe_getE (pe_ix ix_list (pv 6) pe_int (fun _ _ => rfl))) (pa_cons (pe_getE (pe_ix ix_list (pv 6) pe_int (fun _ _ => rfl))) (pa_cons (pe_getE (pe_ix ix_list (pv 6) pe_int (fun _ _ => rfl))) pa_nil))))))))
    (pss_cons (ps_set (i := 8) scR.nd rfl (Or.inl rfl) (pe_lst (pa_cons (pv 0) (pa_cons (pv 1) (pa_cons (pv 0) (pa_cons (pv 0) (pa_cons (pv 0) (pa_cons (pv 0) (pa_cons (pv 0) (pa_cons (pv 3) (pa_cons (pv 0) (pa_cons (pv 0) (pa_cons (pv 0) (pa_cons (pv 0) (pa_cons (pv 0) (pa_cons pe_int (pa_cons (pv 2) (pa_cons (pv 0) pa_nil))))))))))))))))))
    (pss_cons (ps_if (pt_not (pt_val (pe_callG hst okS hr1 rfl gS kS bS .nil pass0 (pa_cons (pv 7) (pa_cons (pv 8) pa_nil))))) (pss_one (ps_ret pe_bl)) pss_nil)
    (pss_one pI))))), ?_⟩
  intro sm t1 t2 D σ H es as hlen h6 hes hg pr k
  obtain ⟨a0, i0, g0⟩ := hg.get 0 0 rfl
  obtain ⟨a1, i1, g1⟩ := hg.get 1 1 rfl
  obtain ⟨a2, i2, g2⟩ := hg.get 2 2 rfl
  obtain ⟨a3, i3, g3⟩ := hg.get 3 3 rfl
  obtain ⟨a4, i4, g4⟩ := hg.get 4 4 rfl
  obtain ⟨a5, i5, g5⟩ := hg.get 5 5 rfl
  obtain ⟨a6, i6, g6⟩ := hg.get 6 6 rfl
  obtain ⟨a7, i7, g7⟩ := hg.get 7 7 rfl
  obtain ⟨a8, i8, g8⟩ := hg.get 8 8 rfl
  obtain ⟨a9, i9, g9⟩ := hg.get 9 9 rfl
  obtain ⟨a10, i10, g10⟩ := hg.get 10 10 rfl
  obtain ⟨a11, i11, g11⟩ := hg.get 11 11 rfl
  obtain ⟨a12, i12, g12⟩ := hg.get 12 12 rfl
  obtain ⟨a17, i17, g17⟩ := hg.get 17 17 rfl
  obtain ⟨d0at, f0at, x0at, y0at, z0at⟩ := fld0at g0
  obtain ⟨d1faults, f1faults, lf, x1faults, y1faults, z1faults, hlf⟩ := fld1faults g1
  obtain ⟨d2number, f2number, x2number, y2number, z2number⟩ := fld2number g2
  obtain ⟨d3number, f3number, x3number, y3number, z3number⟩ := fld3number g3
  obtain ⟨d4number, f4number, x4number, y4number, z4number⟩ := fld4number g4
  obtain ⟨d5block, f5block, x5block, y5block, z5block⟩ := fld5block g5
  obtain ⟨d6index, f6index, x6index, y6index, z6index⟩ := fld6index g6
  obtain ⟨d7ref, f7ref, x7ref, y7ref, z7ref⟩ := fld7ref g7
  obtain ⟨d8place, f8place, x8place, y8place, z8place⟩ := fld8place g8
  obtain ⟨d9place, f9place, x9place, y9place, z9place⟩ := fld9place g9
  obtain ⟨d10number, f10number, x10number, y10number, z10number⟩ := fld10number g10
  obtain ⟨d11number, f11number, x11number, y11number, z11number⟩ := fld11number g11
  obtain ⟨d12task, f12task, x12task, y12task, z12task⟩ := fld12task g12
  obtain ⟨d12depth, f12depth, x12depth, y12depth, z12depth⟩ := fld12depth g12
  obtain ⟨d12word, f12word, x12word, y12word, z12word⟩ := fld12word g12
  obtain ⟨d17count, f17count, x17count, y17count, z17count⟩ := fld17count g17
  have at_ : ∀ {j : Nat} {a : Addr}, as[j]? = some a → (as.map V.ref)[j]? = some (V.ref a) := fun h => by rw [List.getElem?_map, h]; rfl
  refine ⟨_, h6, es, _, _, _, rfl, rfl, SqL.of hes, atI_nat (j := 0) (at_ i0), a0, c 0, d0at, f0at, _, rfl, T.ex 0 (by decide), N.a0at, x0at, y0at, z0at, _, h6, es, _, _, _, rfl, rfl, SqL.of hes, atI_nat (j := 1) (at_ i1), a1, c 1, d1faults, f1faults, _, rfl, T.ex 1 (by decide), N.a1faults, x1faults, y1faults, z1faults, _, h6, es, _, _, _, rfl, rfl, SqL.of hes, atI_nat (j := 2) (at_ i2), a2, c 2, d2number, f2number, _, rfl, T.ex 2 (by decide), N.a2number, x2number, y2number, z2number, _, h6, es, _, _, _, rfl, rfl, SqL.of hes, atI_nat (j := 3) (at_ i3), a3, c 3, d3number, f3number, _, rfl, T.ex 3 (by decide), N.a3number, x3number, y3number, z3number, _, h6, es, _, _, _, rfl, rfl, SqL.of hes, atI_nat (j := 4) (at_ i4), a4, c 4, d4number, f4number, _, rfl, T.ex 4 (by decide), N.a4number, x4number, y4number, z4number, _, h6, es, _, _, _, rfl, rfl, SqL.of hes, atI_nat (j := 5) (at_ i5), a5, c 5, d5block, f5block, _, rfl, T.ex 5 (by decide), N.a5block, x5block, y5block, z5block, (by show 6 ≤ sizeLine; decide), fun p0 q0 => ?_⟩
  have e6 : ∀ v : Option V, (σ.set 7 v)[6]? = some (some (V.ref es)) := fun v => by rw [List.getElem?_set_ne (by decide)]; exact h6
  have e7 : ∀ v : Option V, (σ.set 7 v)[7]? = some v := fun v => by simp [List.getElem?_set, hlen]
  have s0 : Same H (upd H p0 (.lst [.int n, .ref lf, .int n, .int n, .int n, .int n])) := same_new q0
  refine ⟨_, e7 _, _, e6 _, es, _, _, _, rfl, rfl, SqL.of (s0 _ _ hes), atI_nat (j := 6) (at_ i6), a6, c 6, d6index, f6index, _, rfl, T.ex 6 (by decide), N.a6index, (s0 _ _ x6index), (s0 _ _ y6index), z6index, _, e6 _, es, _, _, _, rfl, rfl, SqL.of (s0 _ _ hes), atI_nat (j := 7) (at_ i7), a7, c 7, d7ref, f7ref, _, rfl, T.ex 7 (by decide), N.a7ref, (s0 _ _ x7ref), (s0 _ _ y7ref), z7ref, _, e6 _, es, _, _, _, rfl, rfl, SqL.of (s0 _ _ hes), atI_nat (j := 8) (at_ i8), a8, c 8, d8place, f8place, _, rfl, T.ex 8 (by decide), N.a8place, (s0 _ _ x8place), (s0 _ _ y8place), z8place, _, e6 _, es, _, _, _, rfl, rfl, SqL.of (s0 _ _ hes), atI_nat (j := 9) (at_ i9), a9, c 9, d9place, f9place, _, rfl, T.ex 9 (by decide), N.a9place, (s0 _ _ x9place), (s0 _ _ y9place), z9place, _, e6 _, es, _, _, _, rfl, rfl, SqL.of (s0 _ _ hes), atI_nat (j := 10) (at_ i10), a10, c 10, d10number, f10number, _, rfl, T.ex 10 (by decide), N.a10number, (s0 _ _ x10number), (s0 _ _ y10number), z10number, (by show 5 ≤ sizeLine; decide), fun p1 q1 => ?_⟩
  refine ⟨p0, p1, _, _, rfl, rfl, same_new q1 _ _ upd_same, upd_same, (by show 11 ≤ sizeLine; decide), fun p2 q2 => ?_⟩
  have s2 := (s0.trans (same_new (o := .lst [.int n, .str mark, .int n, .int n, .int n]) q1)).trans (same_new (o := .lst [.int n, .ref lf, .int n, .int n, .int n, .int n, .int n, .str mark, .int n, .int n, .int n]) q2)
  have e6' : ∀ v u : Option V, ((σ.set 7 v).set 7 u)[6]? = some (some (V.ref es)) := fun v u => by rw [List.set_set]; exact e6 u
  have e7' : ∀ v u : Option V, ((σ.set 7 v).set 7 u)[7]? = some u := fun v u => by rw [List.set_set]; exact e7 u
  refine ⟨_, e7' _ _, _, e6' _ _, es, _, _, _, rfl, rfl, SqL.of (s2 _ _ hes), atI_nat (j := 11) (at_ i11), a11, c 11, d11number, f11number, _, rfl, T.ex 11 (by decide), N.a11number, (s2 _ _ x11number), (s2 _ _ y11number), z11number, _, e6' _ _, es, _, _, _, rfl, rfl, SqL.of (s2 _ _ hes), atI_nat (j := 12) (at_ i12), a12, c 12, d12task, f12task, _, rfl, T.ex 12 (by decide), N.a12task, (s2 _ _ x12task), (s2 _ _ y12task), z12task, _, e6' _ _, es, _, _, _, rfl, rfl, SqL.of (s2 _ _ hes), atI_nat (j := 12) (at_ i12), a12, c 12, d12depth, f12depth, _, rfl, T.ex 12 (by decide), N.a12depth, (s2 _ _ x12depth), (s2 _ _ y12depth), z12depth, _, e6' _ _, es, _, _, _, rfl, rfl, SqL.of (s2 _ _ hes), atI_nat (j := 12) (at_ i12), a12, c 12, d12word, f12word, _, rfl, T.ex 12 (by decide), N.a12word, (s2 _ _ x12word), (s2 _ _ y12word), z12word, _, e6' _ _, es, _, _, _, rfl, rfl, SqL.of (s2 _ _ hes), atI_nat (j := 17) (at_ i17), a17, c 17, d17count, f17count, _, rfl, T.ex 17 (by decide), N.a17count, (s2 _ _ x17count), (s2 _ _ y17count), z17count, (by show 5 ≤ sizeLine; decide), fun p3 q3 => ?_⟩
  refine ⟨p2, p3, _, _, rfl, rfl, same_new q3 _ _ upd_same, upd_same, (by show 16 ≤ sizeLine; decide), fun p4 q4 => ?_⟩
  have s4 := (s2.trans (same_new (o := .lst [.int n, .int n, .int 2, .str hint, .int n]) q3)).trans (same_new (o := .lst [.int n, .ref lf, .int n, .int n, .int n, .int n, .int n, .str mark, .int n, .int n, .int n, .int n, .int n, .int 2, .str hint, .int n]) q4)
  have c_ : ∀ (i : Nat) (v u x : Option V), i < 7 → (((σ.set 7 v).set 7 u).set 7 x)[i]? = σ[i]? := fun i v u x hi => by
    rw [List.getElem?_set_ne (by omega), List.getElem?_set_ne (by omega), List.getElem?_set_ne (by omega)]
  have c0 : ∀ (v u x : Option V), (((σ.set 7 v).set 7 u).set 7 x)[0]? = some (some (.int n)) := fun v u x => (c_ 0 v u x (by decide)).trans pr.c0
  have c1 : ∀ (v u x : Option V), (((σ.set 7 v).set 7 u).set 7 x)[1]? = some (some (.ref sm)) := fun v u x => (c_ 1 v u x (by decide)).trans pr.c1
  have c2 : ∀ (v u x : Option V), (((σ.set 7 v).set 7 u).set 7 x)[2]? = some (some (.str hint)) := fun v u x => (c_ 2 v u x (by decide)).trans pr.c2
  have c3 : ∀ (v u x : Option V), (((σ.set 7 v).set 7 u).set 7 x)[3]? = some (some (.str mark)) := fun v u x => (c_ 3 v u x (by decide)).trans pr.c3
  refine ⟨_, c0 _ _ _, _, c1 _ _ _, _, c0 _ _ _, _, c0 _ _ _, _, c0 _ _ _, _, c0 _ _ _, _, c0 _ _ _, _, c3 _ _ _, _, c0 _ _ _, _, c0 _ _ _, _, c0 _ _ _, _, c0 _ _ _, _, c0 _ _ _, _, c2 _ _ _, _, c0 _ _ _, (by show 16 ≤ sizeLine; decide), fun p5 q5 => ?_⟩
  have s5 := s4.trans (same_new (o := .lst [.int n, .ref sm, .int n, .int n, .int n, .int n, .int n, .str mark, .int n, .int n, .int n, .int n, .int n, .int 2, .str hint, .int n]) q5)
  have l7 : ∀ v u x y : Option V, ((((σ.set 7 v).set 7 u).set 7 x).set 8 y)[7]? = some x := fun v u x y => by simp [List.getElem?_set, hlen]
  have l8 : ∀ v u x y : Option V, ((((σ.set 7 v).set 7 u).set 7 x).set 8 y)[8]? = some y := fun v u x y => by simp [List.getElem?_set, hlen]
  have dl : ∀ {l : Addr} {H' : Hp}, Same H H' → H' l = some (.lst [.ref t1, .ref t2]) → Dp K H' (.ref l) (dL n) := fun s h =>
    .lst (SqL.of h) (.cons (.tup (SqT.of (s _ _ pr.u)) (.cons (.str _) (.cons (.int _) (.cons (.str _) .nil))))
      (.cons (.tup (SqT.of (s _ _ pr.v)) (.cons (.str _) (.cons (.int _) (.cons (.str _) .nil)))) .nil))
  have dd : ∀ {p l : Addr} {H' : Hp}, Same H H' → H' l = some (.lst [.ref t1, .ref t2]) → H' p = some (.lst [.int n, .ref l, .int n, .int n, .int n, .int n, .int n, .str mark, .int n, .int n, .int n, .int n, .int n, .int 2, .str hint, .int n]) → Dp K H' (.ref p) (dAll n hint mark) := fun s h hp =>
    .lst (SqL.of hp) (.cons (.int _) (.cons (dl s h) (.cons (.int _) (.cons (.int _) (.cons (.int _) (.cons (.int _) (.cons (.int _) (.cons (.str _) (.cons (.int _) (.cons (.int _) (.cons (.int _) (.cons (.int _) (.cons (.int _) (.cons (.int _) (.cons (.str _) (.cons (.int _) .nil))))))))))))))))
  refine ⟨_, l7 _ _ _ _, _, l8 _ _ _ _, p4, p5, _, _, rfl, dd s5 (s5 _ _ hlf) (same_new q5 _ _ upd_same), dd s5 (s5 _ _ pr.l) upd_same, fn, fn, _, rfl, ?_⟩
  refine iteB (by simp) ?_
  refine qI t1 t2 D _ _ es as (by simp [hlen]) ?_ (s5 _ _ hes) (hg.keep s5) fun σ' H' lf => k σ' H' ⟨fun i hi => ?_, lf.ln, s5.trans lf.hp⟩
  · rw [List.getElem?_set_ne (by decide)]
    exact (c_ 6 _ _ _ (by decide)).trans h6
  · rw [lf.sl i (by omega), List.getElem?_set_ne (by omega)]
    exact c_ i _ _ _ hi
end
end K09

set_option Elab.async false
set_option linter.all false
set_option maxRecDepth 100000
set_option maxHeartbeats 4000000
namespace K09
open PySem L2 JB
def eltsOf : Stmt → List Expr
  | .Assign _ (.List es _) _ => es
  | .Assign _ (.BinOp _ _ (.List es _) _) _ => es
  | _ => []
def hintOf (n : Int) : Str := match (n % 4).toNat with
  | 0 => "gone"
  | 1 => "unlabelled"
  | 2 => "no label"
  | _ => "other"
def markOf (n : Int) : Str := Str.ofString "@" ++ Str.ofString (toString n)
/-- what is known of a number -/
structure Num (n : Int) : Prop where
  sln : ∃ l, n.natAbs.log2 < l ∧ l = 1920
  slm : (Str.ofString "@").length + (Str.ofString (toString n)).length ≤ sizeLine
  small : Small n (hintOf n) (markOf n)
  fine : Fine (dAll n (hintOf n) (markOf n))
def spRight : Sp := fun vs H Q _ => ∃ (n : Int), vs = [.int n] ∧ Num n ∧ ∀ H', Same H H' → Q (.bl true) H'
theorem hint_at {n : Int} : ([.str "gone", .str "unlabelled", .str "no label", .str "other"] : List V)[(n % 4).toNat]? = some (.str (hintOf n)) := by
  have h1 := Int.emod_nonneg n (by decide : (4 : Int) ≠ 0)
  have h2 := Int.emod_lt_of_pos n (by decide : (0 : Int) < 4)
  unfold hintOf
  obtain ⟨j, hj⟩ : ∃ j : Nat, (n % 4).toNat = j := ⟨_, rfl⟩
  rw [hj]
  match j, hj with
  | 0, _ => rfl
  | 1, _ => rfl
  | 2, _ => rfl
  | 3, _ => rfl
  | j + 4, hj => omega
theorem le_line {α : Type} {l : List α} {k : Nat} (h : l.length = k) (hk : k ≤ 1000 := by decide) : l.length ≤ sizeLine := by
  rw [h, sizeLine_eq]; omega
theorem glen {c : Nat → Addr} {n : Int} {t1 t2 : Addr} {hint mark : Str} {H : Hp} {js : List Nat} {as : List Addr} {k : Nat} (g : Goods c n t1 t2 hint mark H js as) (h : js.length = k) : (as.map V.ref).length = k := by
  rw [List.length_map, g.len, h]
def Beyond {Ha Hb : Hp} (_ : Same Ha Hb) (Hc : Hp) : Prop := Same Hb Hc
section
variable {P : Program} {w : World} {K : PySem.W.Frag} {mg : Str → Option Value} {base : Heap} {c : Nat → Addr}
theorem okRight {f : Addr} {fd : FuncData} (F : Fun K "_law_right" "_law_right" sRight f fd) (M : Mkr P w K mg base c)
    (U : Helps P w K mg base c) (N : NoA K c) (T : AllC K mg c) : FnG P w K mg base CX0 3 f fd ["_law_cell"] spRight := by
  refine Fun_okG F scR (fun vs H Q E h => ?_) (fun cdv A outer s H vs Q E hst hr h => ?_)
  · obtain ⟨n, rfl, _⟩ := h
    rfl
  obtain ⟨n, rfl, B, k⟩ := h
  have S := B.small
  obtain ⟨ta2, pa2, qa2⟩ : PAs (XR P w K mg base f cdv A outer s H E) c n (hintOf n) (markOf n) (eltsOf (bR 2)) [0, 1, 2, 3, 4, 5, 6] :=
    (pas_cons (mk0p hst hr M S (pv 0) rfl) (pas_cons (mk1p hst hr M S (pv 1) rfl) (pas_cons (mk2p hst hr M S (pv 0) rfl) (pas_cons (mk3p hst hr M S (pv 0) rfl) (pas_cons (mk4p hst hr M S (pv 0) rfl) (pas_cons (mk5p hst hr M S (pv 0) rfl) (pas_cons (mk6p hst hr M S (pv 0) rfl) pas_nil)))))))
  obtain ⟨ta3, pa3, qa3⟩ : PAs (XR P w K mg base f cdv A outer s H E) c n (hintOf n) (markOf n) (eltsOf (bR 3)) [7, 8, 9, 10, 11, 12] :=
    (pas_cons (mk7p hst hr M S (pv 3) rfl) (pas_cons (mk8p hst hr M S (pv 0) rfl) (pas_cons (mk9p hst hr M S (pv 0) rfl) (pas_cons (mk10p hst hr M S (pv 0) rfl) (pas_cons (mk11p hst hr M S (pv 0) rfl) (pas_cons (mk12p hst hr M S (pv 0) (pv 2) rfl) pas_nil))))))
  obtain ⟨ta4, pa4, qa4⟩ : PAs (XR P w K mg base f cdv A outer s H E) c n (hintOf n) (markOf n) (eltsOf (bR 4)) [13, 14, 15, 16, 17] :=
    (pas_cons (mk13p hst hr M S rfl) (pas_cons (mk14p hst hr M S rfl) (pas_cons (mk15p hst hr M S rfl) (pas_cons (mk16p hst hr M S rfl) (pas_cons (mk17p hst hr M S (pv 0) rfl) pas_nil)))))
  obtain ⟨ta5, pa5, qa5⟩ : PAs (XR P w K mg base f cdv A outer s H E) c n (hintOf n) (markOf n) (eltsOf (bR 5)) [0, 1, 2, 3, 4] :=
    (pas_cons (mk0k hst hr M S (pv 0) rfl) (pas_cons (mk1k hst hr M S (pv 1) rfl) (pas_cons (mk2k hst hr M S (pv 0) rfl) (pas_cons (mk3k hst hr M S (pv 0) rfl) (pas_cons (mk4k hst hr M S (pv 0) rfl) pas_nil)))))
  obtain ⟨ta6, pa6, qa6⟩ : PAs (XR P w K mg base f cdv A outer s H E) c n (hintOf n) (markOf n) (eltsOf (bR 6)) [5, 6, 7, 8] :=
    (pas_cons (mk5k hst hr M S (pv 0) rfl) (pas_cons (mk6k hst hr M S (pv 0) rfl) (pas_cons (mk7k hst hr M S (pv 3) rfl) (pas_cons (mk8k hst hr M S (pv 0) rfl) pas_nil))))
  obtain ⟨ta7, pa7, qa7⟩ : PAs (XR P w K mg base f cdv A outer s H E) c n (hintOf n) (markOf n) (eltsOf (bR 7)) [9, 10, 11] :=
    (pas_cons (mk9k hst hr M S (pv 0) rfl) (pas_cons (mk10k hst hr M S (pv 0) rfl) (pas_cons (mk11k hst hr M S (pv 0) rfl) pas_nil)))
  obtain ⟨ta8, pa8, qa8⟩ : PAs (XR P w K mg base f cdv A outer s H E) c n (hintOf n) (markOf n) (eltsOf (bR 8)) [12, 13, 14, 15, 16, 17] :=
    (pas_cons (mk12k hst hr M S (pv 0) (pv 2) rfl) (pas_cons (mk13k hst hr M S rfl) (pas_cons (mk14k hst hr M S rfl) (pas_cons (mk15k hst hr M S rfl) (pas_cons (mk16k hst hr M S rfl) (pas_cons (mk17k hst hr M S (pv 0) rfl) pas_nil))))))
  obtain ⟨tL, pL, qL⟩ := turnL (P := P) (w := w) (K := K) (mg := mg) (base := base) (c := c) (n := n) (hint := hintOf n) (mark := markOf n) (f := f) (cdv := cdv) (A := A) (outer := outer) (s := s) (H0 := H) (E := E) hst hr U N T B.fine
  refine ⟨_, (pss_cons (ps_par (i := 1) (j := 2) (by rfl) scR.nd rfl rfl (by decide) rfl rfl (pa_cons (pe_lst (pa_cons (pe_tup (pa_cons pe_str (pa_cons (pv 0) (pa_cons pe_str pa_nil)))) (pa_cons (pe_tup (pa_cons pe_str (pa_cons (pe_un un_neg pe_int) (pa_cons pe_str pa_nil)))) pa_nil))) (pa_cons (pe_ix ix_list (pe_lst (pa_cons pe_str (pa_cons pe_str (pa_cons pe_str (pa_cons pe_str pa_nil))))) (pe_op op_mod (pv 0) pe_int) (fun _ _ => rfl)) pa_nil)) (by rfl))
    (pss_cons (ps_set (i := 3) scR.nd rfl (Or.inl rfl) (pe_op op_add_str pe_str (pe_callTy call_str_int (by rfl) U.mStr (by decide +kernel) (pa_cons (pv 0) pa_nil))))
    (pss_cons (ps_set (i := 4) scR.nd rfl (Or.inl rfl) (pe_lst pa2))
    (pss_cons (ps_set (i := 4) scR.nd rfl (Or.inl rfl) (pe_op op_cat (pv 4) (pe_lst pa3)))
    (pss_cons (ps_set (i := 4) scR.nd rfl (Or.inl rfl) (pe_op op_cat (pv 4) (pe_lst pa4)))
    (pss_cons (ps_set (i := 5) scR.nd rfl (Or.inl rfl) (pe_lst pa5))
    (pss_cons (ps_set (i := 5) scR.nd rfl (Or.inl rfl) (pe_op op_cat (pv 5) (pe_lst pa6)))
    (pss_cons (ps_set (i := 5) scR.nd rfl (Or.inl rfl) (pe_op op_cat (pv 5) (pe_lst pa7)))
    (pss_cons (ps_set (i := 5) scR.nd rfl (Or.inl rfl) (pe_op op_cat (pv 5) (pe_lst pa8)))
    (pss_cons (ps_for PassesOwn.never rfl (pi_tup (pe_tup (pa_cons (pv 4) (pa_cons (pv 5) pa_nil)))) (pg_name (i := 6) scR.nd rfl (Or.inl rfl)) pL)
    (pss_one (ps_ret pe_bl)))))))))))), ?_⟩
  refine ⟨_, rfl, (by show 3 ≤ sizeLine; decide), fun t1 h1 => ?_⟩
  refine ⟨1, rfl, (by show 3 ≤ sizeLine; decide), fun t2 h2 => ⟨(by show 2 ≤ sizeLine; decide), fun sm h3 => ?_⟩⟩
  refine ⟨(by show 4 ≤ sizeLine; decide), fun lh h4 => ?_⟩
  have e4 := Int.toNat_of_nonneg (Int.emod_nonneg n (by decide : (4 : Int) ≠ 0))
  refine ⟨_, rfl, _, _, rfl, rfl, (by show (0 : Int) < 4; decide), lh, _, _, _, rfl, rfl, SqL.of upd_same, at_of e4.symm hint_at, ?_⟩
  refine ⟨_, _, rfl, ?_⟩
  obtain ⟨ln, hm⟩ : (∃ l, n.natAbs.log2 < l ∧ l = 1920) ∧ (Str.ofString "@").length + (Str.ofString (toString n)).length ≤ sizeLine := ⟨B.sln, B.slm⟩
  obtain ⟨lz, ln, rfl⟩ := ln
  refine ⟨_, rfl, n, rfl, ln, _, _, rfl, rfl, hm, ?_⟩
  have u1 : Same H (upd H t1 (.tup [.str "main", .int n, .str "twice"])) := same_new h1
  have p0 : ∀ (τ : L2.St), τ[0]? = some (some (.int n)) → τ[1]? = some (some (.ref sm)) → τ[2]? = some (some (.str (hintOf n))) → τ[3]? = some (some (.str (markOf n))) →
      Pre n sm t1 t2 (hintOf n) (markOf n) τ (upd (upd (upd (upd H t1 (.tup [.str "main", .int n, .str "twice"])) t2 (.tup [.str "f", .int (-1), .str "many"])) sm (.lst [.ref t1, .ref t2])) lh
        (.lst [.str "gone", .str "unlabelled", .str "no label", .str "other"])) := fun τ c0 c1 c2 c3 =>
    ⟨c0, c1, c2, c3, same_new h4 _ _ upd_same, same_new h4 _ _ (same_new h3 _ _ (same_new h2 _ _ upd_same)), same_new h4 _ _ (same_new h3 _ _ upd_same)⟩
  have S0 : Same H _ := ((u1.trans (same_new (o := .tup [.str "f", .int (-1), .str "many"]) h2)).trans (same_new (o := .lst [.ref t1, .ref t2]) h3)).trans (same_new (o := .lst [.str "gone", .str "unlabelled", .str "no label", .str "other"]) h4)
  refine qa2 sm t1 t2 _ _ _ (p0 _ rfl rfl rfl rfl) fun b2 H2 s2 g2 => ⟨le_line (glen g2 rfl), fun m2 n2 => ?_⟩
  have w2 := s2.trans (same_new (o := .lst (b2.map V.ref)) n2)
  refine ⟨_, rfl, qa3 sm t1 t2 _ _ _ ((p0 _ rfl rfl rfl rfl).keep w2) fun b3 H3 s3 g3 => ⟨le_line (glen g3 rfl), fun m3 n3 => ?_⟩⟩
  have w3 := (w2.trans s3).trans (same_new (o := .lst (b3.map V.ref)) n3)
  refine ⟨m2, m3, _, _, rfl, rfl, same_new n3 _ _ (s3 _ _ upd_same), upd_same, (by rw [glen g2 rfl, glen g3 rfl]; show 13 ≤ sizeLine; decide), fun m3' n3' => ?_⟩
  have w3' := w3.trans (same_new (o := .lst (b2.map V.ref ++ b3.map V.ref)) n3')
  refine ⟨_, rfl, qa4 sm t1 t2 _ _ _ ((p0 _ rfl rfl rfl rfl).keep w3') fun b4 H4 s4 g4 => ⟨le_line (glen g4 rfl), fun m4 n4 => ?_⟩⟩
  have w4 := (w3'.trans s4).trans (same_new (o := .lst (b4.map V.ref)) n4)
  refine ⟨m3', m4, _, _, rfl, rfl, same_new n4 _ _ (s4 _ _ upd_same), upd_same, (by rw [List.length_append, glen g2 rfl, glen g3 rfl, glen g4 rfl]; show 18 ≤ sizeLine; decide), fun m4' n4' => ?_⟩
  have w4' := w4.trans (same_new (o := .lst (b2.map V.ref ++ b3.map V.ref ++ b4.map V.ref)) n4')
  refine qa5 sm t1 t2 _ _ _ ((p0 _ rfl rfl rfl rfl).keep w4') fun b5 H5 s5 g5 => ⟨le_line (glen g5 rfl), fun m5 n5 => ?_⟩
  have w5 := (w4'.trans s5).trans (same_new (o := .lst (b5.map V.ref)) n5)
  refine ⟨_, rfl, qa6 sm t1 t2 _ _ _ ((p0 _ rfl rfl rfl rfl).keep w5) fun b6 H6 s6 g6 => ⟨le_line (glen g6 rfl), fun m6 n6 => ?_⟩⟩
  have w6 := (w5.trans s6).trans (same_new (o := .lst (b6.map V.ref)) n6)
  refine ⟨m5, m6, _, _, rfl, rfl, same_new n6 _ _ (s6 _ _ upd_same), upd_same, (by rw [glen g5 rfl, glen g6 rfl]; show 9 ≤ sizeLine; decide), fun m6' n6' => ?_⟩
  have w6' := w6.trans (same_new (o := .lst (b5.map V.ref ++ b6.map V.ref)) n6')
  refine ⟨_, rfl, qa7 sm t1 t2 _ _ _ ((p0 _ rfl rfl rfl rfl).keep w6') fun b7 H7 s7 g7 => ⟨le_line (glen g7 rfl), fun m7 n7 => ?_⟩⟩
  have w7 := (w6'.trans s7).trans (same_new (o := .lst (b7.map V.ref)) n7)
  refine ⟨m6', m7, _, _, rfl, rfl, same_new n7 _ _ (s7 _ _ upd_same), upd_same, (by rw [List.length_append, glen g5 rfl, glen g6 rfl, glen g7 rfl]; show 12 ≤ sizeLine; decide), fun m7' n7' => ?_⟩
  have w7' := w7.trans (same_new (o := .lst (b5.map V.ref ++ b6.map V.ref ++ b7.map V.ref)) n7')
  refine ⟨_, rfl, qa8 sm t1 t2 _ _ _ ((p0 _ rfl rfl rfl rfl).keep w7') fun b8 H8 s8 g8 => ⟨le_line (glen g8 rfl), fun m8 n8 => ?_⟩⟩
  have w8 := (w7'.trans s8).trans (same_new (o := .lst (b8.map V.ref)) n8)
  refine ⟨m7', m8, _, _, rfl, rfl, same_new n8 _ _ (s8 _ _ upd_same), upd_same, (by rw [List.length_append, List.length_append, glen g5 rfl, glen g6 rfl, glen g7 rfl, glen g8 rfl]; show 18 ≤ sizeLine; decide), fun m8' n8' => ?_⟩
  have w8' := w8.trans (same_new (o := .lst (b5.map V.ref ++ b6.map V.ref ++ b7.map V.ref ++ b8.map V.ref)) n8')
  -- the loop
  refine ⟨_, rfl, _, rfl, (by show 2 ≤ sizeLine; decide), fun tt nt => ?_⟩
  have wt := w8'.trans (same_new (o := .tup [.ref m4', .ref m8']) nt)
  have st := same_new (o := .tup [.ref m4', .ref m8']) nt
  have r8 := ((same_new n8).trans (same_new n8')).trans st
  have r7 := (((same_new n7).trans (same_new n7')).trans s8).trans r8
  have r6 := (((same_new n6).trans (same_new n6')).trans s7).trans r7
  have r5 := ((same_new n5).trans s6).trans r6
  have r4 := ((same_new n4).trans (same_new n4')).trans (s5.trans r5)
  have r3 := (((same_new n3).trans (same_new n3')).trans s4).trans r4
  have r2 := ((same_new n2).trans s3).trans r3
  have hm4 : ∀ H', Beyond wt H' → H' m4' = some (.lst ((b2 ++ b3 ++ b4).map V.ref)) := fun H' z =>
    z _ _ ((s5.trans r5) _ _ (by rw [List.map_append, List.map_append]; exact upd_same))
  have hm8 : ∀ H', Beyond wt H' → H' m8' = some (.lst ((b5 ++ b6 ++ b7 ++ b8).map V.ref)) := fun H' z =>
    z _ _ (st _ _ (by rw [List.map_append, List.map_append, List.map_append]; exact upd_same))
  refine ⟨tt, rfl, ⟨_, SqT.of upd_same⟩, for_it (walk_tup (K := K) (a := tt) (xs := [.ref m4', .ref m8'])) (fun i σ' H' => Left 6 _ σ' _ H')
    ⟨fun i _ => rfl, rfl, Same.refl _⟩ (fun i σ' H' _ p => SqT.of (p.hp _ _ upd_same)) ?_ (fun σ' H' p => k _ (S0.trans (wt.trans p.hp)))⟩
  have g4all : ∀ H', Beyond wt H' → Goods c n t1 t2 (hintOf n) (markOf n) H' (List.range 18) (b2 ++ b3 ++ b4) := fun H' z =>
    ((g2.keep (r2.trans z)).app (g3.keep (r3.trans z))).app (g4.keep (r4.trans z))
  have g8all : ∀ H', Beyond wt H' → Goods c n t1 t2 (hintOf n) (markOf n) H' (List.range 18) (b5 ++ b6 ++ b7 ++ b8) := fun H' z =>
    (((g5.keep (r5.trans z)).app (g6.keep (r6.trans z))).app (g7.keep (r7.trans z))).app (g8.keep (r8.trans z))
  rintro i x σ' Hx H9 hi p ⟨rfl, hx⟩
  have ln' := p.ln
  have pre : ∀ v, Pre n sm t1 t2 (hintOf n) (markOf n) (σ'.set 6 v) H9 := fun v =>
    (p0 _ (by rw [List.getElem?_set_ne (by decide), p.sl 0 (by decide)]; rfl) (by rw [List.getElem?_set_ne (by decide), p.sl 1 (by decide)]; rfl)
      (by rw [List.getElem?_set_ne (by decide), p.sl 2 (by decide)]; rfl) (by rw [List.getElem?_set_ne (by decide), p.sl 3 (by decide)]; rfl)).keep (wt.trans p.hp)
  have fin : ∀ {v : Option V} {σ2 : L2.St} {H2 : Hp}, Left 7 (σ'.set 6 v) σ2 H9 H2 → ∀ z, z < 6 → σ2[z]? = σ'[z]? := fun lf z hz => by
    rw [lf.sl z (by omega), List.getElem?_set_ne (by omega)]
  have x6 : ∀ v, (σ'.set 6 v)[6]? = some v := fun v => by simp [List.getElem?_set, ln']
  match i, hi, hx with
  | 0, _, hx =>
    cases hx
    exact qL sm t1 t2 _ _ _ m4' (b2 ++ b3 ++ b4) (by simp [ln']) (x6 _) (hm4 _ p.hp) (g4all _ p.hp) (pre _) fun σ2 H2 lf =>
      ⟨fun z hz => (fin lf z hz).trans (p.sl z hz), lf.ln, p.hp.trans lf.hp⟩
  | 1, _, hx =>
    cases hx
    exact qL sm t1 t2 _ _ _ m8' (b5 ++ b6 ++ b7 ++ b8) (by simp [ln']) (x6 _) (hm8 _ p.hp) (g8all _ p.hp) (pre _) fun σ2 H2 lf =>
      ⟨fun z hz => (fin lf z hz).trans (p.sl z hz), lf.ln, p.hp.trans lf.hp⟩
  | i + 2, hi, _ => exact absurd hi (by simp)
end
end K09

set_option Elab.async false
set_option linter.all false
set_option maxRecDepth 100000
set_option maxHeartbeats 4000000
namespace K09
open PySem L2 JB
def chk (k : Nat) : Bool :=
  (dAll (k : Int) (hintOf k) (markOf k)).showable && (dAll (k : Int) (hintOf k) (markOf k)).leavesShort 8 && decide ((dAll (k : Int) (hintOf k) (markOf k)).bulk ≤ 300) &&
    (dL (k : Int)).showable && (dL (k : Int)).leavesShort 8 && decide ((dL (k : Int)).bulk ≤ 99) &&
    decide ((k : Int).natAbs.log2 < 1920) && decide ((Str.ofString (toString (k : Int))).length ≤ 100) && decide ((hintOf k).length ≤ 100) && decide ((markOf k).length ≤ 200)
theorem chk1 : (List.range' 0 100).all chk = true := by decide +kernel
theorem chk2 : (List.range' 100 100).all chk = true := by decide +kernel
theorem chk3 : (List.range' 200 101).all chk = true := by decide +kernel
theorem chk_all {k : Nat} (h : k < 301) : chk k = true := by
  by_cases h1 : k < 100
  · exact List.all_eq_true.mp chk1 k (List.mem_range'_1.mpr ⟨by omega, by omega⟩)
  by_cases h2 : k < 200
  · exact List.all_eq_true.mp chk2 k (List.mem_range'_1.mpr ⟨by omega, by omega⟩)
  · exact List.all_eq_true.mp chk3 k (List.mem_range'_1.mpr ⟨by omega, by omega⟩)
theorem num_of {n : Int} (h1 : 1 ≤ n) (h2 : n ≤ 300) : Num n := by
  obtain ⟨k, rfl⟩ : ∃ k : Nat, n = (k : Int) := ⟨n.toNat, by omega⟩
  have c := chk_all (k := k) (by omega)
  simp only [chk, Bool.and_eq_true, decide_eq_true_eq] at c
  obtain ⟨⟨⟨⟨⟨⟨⟨⟨⟨c1, c2⟩, c2'⟩, c3⟩, c4⟩, c4'⟩, c5⟩, c6⟩, c7⟩, c8⟩ := c
  have l1 : (Str.ofString "@").length = 1 := by decide +kernel
  have b1 := PyData.shown_le_bulk 8 (by decide) _ c2
  have b2 := PyData.shown_le_bulk 8 (by decide) _ c4
  refine ⟨⟨1920, c5, rfl⟩, ?_, ⟨.inr ⟨_, rfl, c5, by omega⟩, .inl ⟨_, rfl, by omega⟩, .inl ⟨_, rfl, by omega⟩, ⟨_, rfl, c3, (by show (dL (k : Int)).shown.length ≤ 1000; omega)⟩⟩, ⟨c1, rfl, ?_, line (n := 5000) (by omega)⟩⟩
  · rw [l1, sizeLine_eq]; omega
  · simp [PyData.depth, PyData.depthAll]
abbrev sCells : Stmt := top 27
/-- up to m numbers of the script, the later ones added: a new list of ints, not empty -/
def spCells (K : PySem.W.Frag) : Sp := fun vs H Q _ => ∃ (a : Addr) (m : Nat) (ns : List Int), vs = [.ref a, .int (m : Int)] ∧ 1 ≤ m ∧ m ≤ 62 ∧
  SqL K H a (ns.map V.int) ∧ ns.length ≤ 63 ∧ ∀ l zs H', Same H H' → H' l = some (.lst (zs.map V.int)) → zs ≠ [] → zs.length ≤ m → Q (.ref l) H'
def cutI (xs : List Int) (lo hi : Option Int) : List Int := (xs.drop (HT.sIx xs.length 0 lo)).take (HT.sIx xs.length xs.length hi - HT.sIx xs.length 0 lo)
theorem cut_map (xs : List Int) (lo hi : Option Int) : cutV (xs.map V.int) lo hi = (cutI xs lo hi).map V.int := by
  simp [cutV, cutI, List.map_take, List.map_drop]
section
variable {P : Program} {w : World} {K : PySem.W.Frag} {mg : Str → Option Value} {base : Heap}
abbrev nC : List Str := ["_law_script", "_law_most", "_law_cells_here", "_law_k", "_law_cell"]
theorem scC : FnScope nC ["_law_script", "_law_most"] (defScope sCells) :=
  ⟨rfl, rfl, rfl, by decide +kernel, rfl, by decide +kernel, by decide +kernel⟩
theorem cut_first (ns : List Int) (m : Nat) : (cutI ns none (some (m : Int))).length = min m ns.length := by
  unfold cutI
  rw [HT.sIx_none, HT.sIx_nat, List.length_take, List.length_drop]
  omega
theorem cut_rest (ns : List Int) (m : Nat) (h : ns.length ≤ 63) : (cutI ns (some (m : Int)) (some 63)).length ≤ ns.length - m := by
  unfold cutI
  rw [show (63 : Int) = ((63 : Nat) : Int) from rfl, HT.sIx_nat, HT.sIx_nat, List.length_take, List.length_drop]
  omega
abbrev bC (i : Nat) : Stmt := (defBody sCells).getD i (.Pass ⟨0, 0, 0, 0⟩)
def valOf : Stmt → Expr
  | .Assign _ e _ => e
  | _ => .Constant .none 0 ⟨0, 0, 0, 0⟩
theorem okCells {f : Addr} {fd : FuncData} (F : Fun K "_law_cells" "_law_cells" sCells f fd) (mL : mg "list" = none) (mE : mg "enumerate" = none) :
    FnOk P w K mg base CX0 1 f fd ["_law_script", "_law_most"] (spCells K) := by
  refine F.ok scC (fun vs H Q E h => ?_) (fun cdv A outer s H vs Q E hr h => ?_)
  · obtain ⟨a, m, ns, rfl, _⟩ := h
    rfl
  obtain ⟨a, m, ns, rfl, m1, m2, hS, hn, k⟩ := h
  obtain ⟨te, pe, qe⟩ : ∃ te, PE (cxOf CX0 P w K mg base nC "_law_cells" (defScope sCells) f cdv A outer s H E).nox (valOf (bC 0)) te ∧
      ∀ (Q : VK), (∀ l zs H1, Same H H1 → H l = none → H1 l = some (.lst (zs.map V.int)) → zs ≠ [] → zs.length ≤ m → (m < ns.length → zs.length = m) → Q (.ref l) H1) →
        te (start nC [.ref a, .int (m : Int)]) H Q := by
    refine ⟨_, pe_orT (pe_callTy call_list_of (by rfl) mL (by decide +kernel) (pa_cons (pe_slice sl_list (pv 0) po_none (po_some (pv 1))) pa_nil))
      (pe_one (pe_lst (pa_cons pe_int pa_nil))), fun Q q => ?_⟩
    refine ⟨_, rfl, _, rfl, _, rfl, a, _, rfl, hS, fun p1 q1 => ⟨p1, _, rfl, .inl (SqL.of upd_same), fun l1 r1 => ?_⟩⟩
    have n1 : H l1 = none := (same_new q1).free r1
    rw [cut_map] at r1 ⊢
    have s1 := (same_new (o := .lst ((cutI ns none (some (m : Int))).map V.int)) q1).trans (same_new (o := .lst ((cutI ns none (some (m : Int))).map V.int)) r1)
    have lz := cut_first ns m
    by_cases e : cutI ns none (some (m : Int)) = []
    · refine ⟨false, .inl ⟨_, SqL.of upd_same, by rw [e]; rfl⟩, iteF ⟨(by show 1 ≤ sizeLine; decide), fun l2 r2 => ?_⟩⟩
      rw [e] at lz
      exact q l2 [0] _ (s1.trans (same_new r2)) (s1.free r2) upd_same (by simp) m1 (fun h => by simp at lz; omega)
    · refine ⟨true, .inl ⟨_, SqL.of upd_same, by cases h : cutI ns none (some (m : Int)) with | nil => exact absurd h e | cons _ _ => rfl⟩, iteT ?_⟩
      exact q l1 _ _ s1 n1 upd_same e (by omega) (fun h => by omega)
  refine ⟨_, pss_cons (ps_set (i := 2) scC.nd rfl (Or.inl rfl) pe)
    (pss_cons (ps_for PassesOwn.never rfl (pi_enum rfl mE (pa_cons (pe_slice sl_list (pv 0) (po_some (pv 1)) (po_some pe_int)) pa_nil))
      (pg_tup rfl (pgs_cons (pg_name (i := 3) scC.nd rfl (Or.inl rfl)) (pgs_cons (pg_name (i := 4) scC.nd rfl (Or.inl rfl)) pgs_nil)))
      (pss_one (ps_asg (pe_op op_add (pe_ix ix_list (pv 2) (pe_op op_mod (pv 3) (pv 1)) (fun _ _ => rfl)) (pe_op op_mul (pv 4) (pe_op op_add (pv 3) pe_int)))
        (pg_sub (pv 2) (pe_op op_mod (pv 3) (pv 1)) set_list))))
    (pss_one (ps_ret (pv 2)))), ?_⟩
  refine qe _ fun l zs H1 s1 nl hl zne zl zm => ?_
  refine ⟨_, rfl, _, rfl, _, rfl, 63, rfl, a, _, rfl, s1.seq hS, fun p2 q2 => ?_⟩
  rw [cut_map] at *
  have lr := cut_rest ns m hn
  generalize hws : cutI ns (some (m : Int)) (some 63) = ws at *
  have s2 : Same H (upd H1 p2 (.lst (ws.map V.int))) := s1.trans (same_new q2)
  have pl : l ≠ p2 := ne_of_none hl q2
  refine ⟨p2, _, rfl, SqL.of upd_same, for_it (walk_enum (K := K) (a := p2) (xs := ws.map V.int))
    (fun i σ' H' => ∃ (u v : Option V) (ys : List Int), σ' = [some (.ref a), some (.int (m : Int)), some (.ref l), u, v] ∧ Same H H' ∧ H' p2 = some (.lst (ws.map V.int)) ∧
      H' l = some (.lst (ys.map V.int)) ∧ ys.length = zs.length) ⟨none, none, zs, rfl, s2, upd_same, by rw [upd_ne pl]; exact hl, rfl⟩
    (fun i σ' H' _ ⟨_, _, _, _, _, h, _⟩ => SqL.of h) ?_ ?_⟩
  · rintro i x σ' H2 H3 hi ⟨u, v, ys, rfl, s3, hp, hy, ly⟩ ⟨Tp, _, y, rfl, nT, rfl, e1, e2⟩
    cases e1
    rw [List.length_map] at hi
    have e3 : (ws.map V.int)[i]? = some y := e2
    obtain ⟨z, hz, rfl⟩ : ∃ z, ws[i]? = some z ∧ V.int z = y := by rw [List.getElem?_map] at e3; simpa using e3
    have zm' : zs.length = m := zm (by omega)
    have sT := same_new (o := .tup [.int (i : Nat), .int z]) nT
    have hm : ((i : Nat) : Int) % (m : Int) = ((i % m : Nat) : Int) := by omega
    have hlt : i % m < ys.length := by rw [ly, zm']; exact Nat.mod_lt _ (by omega)
    obtain ⟨g, hg⟩ : ∃ g, ys[i % m]? = some g := ⟨ys[i % m], List.getElem?_eq_getElem hlt⟩
    refine ⟨Tp, _, rfl, SqT.of upd_same, rfl, _, _, rfl, _, _, rfl, rfl, ?_⟩
    have i64 : i < 64 := by omega
    refine ⟨_, rfl, _, rfl, _, rfl, _, _, rfl, rfl, (by show (0 : Int) < (m : Int); omega), l, _, _, _, rfl, rfl, SqL.of (sT _ _ hy), at_of (j := i % m) hm (by rw [List.getElem?_map, hg]; rfl),
      _, rfl, _, rfl, _, _, rfl, rfl, _, _, rfl, rfl, .inr ⟨by omega, by omega⟩, _, _, rfl, rfl, ?_⟩
    have hx : ixN (ys.map V.int).length (((i : Nat) : Int) % (m : Int)) = some (i % m) := by
      rw [hm, List.length_map]
      unfold ixN
      rw [if_pos (by omega), if_pos (by omega), Int.toNat_natCast]
    refine ⟨_, rfl, _, rfl, _, rfl, _, _, rfl, rfl, (by show (0 : Int) < (m : Int); omega), l, _, _, _, rfl, rfl, sT _ _ hy, hx, ?_⟩
    have pT : p2 ≠ l := Ne.symm pl
    refine ⟨_, _, ys.set (i % m) (g + z * ((i : Nat) + 2)), rfl, fun b o e => ?_, by rw [upd_ne pT]; exact sT _ _ hp, ?_, by rw [List.length_set]; exact ly⟩
    · rw [upd_ne (ne_of_none e nl)]
      exact sT _ _ (s3 _ _ e)
    · rw [upd_same, List.map_set]
  · rintro σ' H2 ⟨u, v, ys, rfl, s3, hp, hy, ly⟩
    refine ⟨_, rfl, k l ys H2 s3 hy (fun z => zne (by rw [z] at ly; exact List.eq_nil_of_length_eq_zero ly.symm)) (by omega)⟩
end
end K09

set_option Elab.async false
set_option linter.all false
set_option maxRecDepth 100000
set_option maxHeartbeats 4000000
namespace K09
open PySem L2 JB
abbrev sLaw : Stmt := top 32
def spLaw (K : PySem.W.Frag) : Sp := fun vs H Q _ => ∃ (a : Addr) (ns : List Int), vs = [.ref a] ∧ SqL K H a (ns.map V.int) ∧ ns.length ≤ 63 ∧ ∀ H', Q (.bl true) H'
structure LawT (P : Program) (w : World) (K : PySem.W.Frag) (mg : Str → Option Value) (base : Heap) : Prop where
  same : ∃ f fd, mg "_law_same" = some (.ref f) ∧ PySem.W.keepIn K (.ref f) = true ∧ FnG P w K mg base CX0 1 f fd ["_law_found", "_law_due"] (spSame K) ∧ Binds K fd ["_law_found", "_law_due"] []
  cells : ∃ f fd, mg "_law_cells" = some (.ref f) ∧ PySem.W.keepIn K (.ref f) = true ∧ FnOk P w K mg base CX0 1 f fd ["_law_script", "_law_most"] (spCells K) ∧ Binds K fd ["_law_script", "_law_most"] []
  right : ∃ f fd, mg "_law_right" = some (.ref f) ∧ PySem.W.keepIn K (.ref f) = true ∧ FnG P w K mg base CX0 3 f fd ["_law_cell"] spRight ∧ Binds K fd ["_law_cell"] []
  mAll : mg "all" = none
  mAbs : mg "abs" = none
  lims : ∃ t1 t2 t3 t4 t5 t6 t7, mg "LIMIT" = some (.int 1000000000000 t1) ∧ mg "DEPTH" = some (.int 20 t2) ∧ mg "QUANTUM" = some (.int 6 t3) ∧ mg "PAGE" = some (.int 8 t4) ∧
    mg "FAN" = some (.int 4 t5) ∧ mg "WIDTH" = some (.int 24 t6) ∧ mg "LOG_BLOCKS" = some (.int 16 t7)
abbrev dLim : PyData := .list [.int 1000000000000, .int 20, .int 6, .int 8, .int 4, .int 24, .int 16]
theorem fineLim : Fine dLim := ⟨by decide +kernel, rfl, by simp [PyData.depth, PyData.depthAll], line (n := 1000) (by decide +kernel)⟩
theorem dpLim {K : PySem.W.Frag} {H : Hp} {p : Addr} (h : H p = some (.lst [.int 1000000000000, .int 20, .int 6, .int 8, .int 4, .int 24, .int 16])) : Dp K H (.ref p) dLim :=
  .lst (SqL.of h) (.cons (.int _) (.cons (.int _) (.cons (.int _) (.cons (.int _) (.cons (.int _) (.cons (.int _) (.cons (.int _) .nil)))))))
section
variable {P : Program} {w : World} {K : PySem.W.Frag} {mg : Str → Option Value} {base : Heap}
abbrev nL : List Str := ["_law_script", "_law_cell"]
theorem scL : FnScope nL ["_law_script"] (defScope sLaw) :=
  ⟨rfl, rfl, rfl, by decide +kernel, rfl, by decide +kernel, by decide +kernel⟩
theorem okLaw {f : Addr} {fd : FuncData} (F : Fun K "law" "law" sLaw f fd) (T : LawT P w K mg base) : FnG P w K mg base CX0 4 f fd ["_law_script"] (spLaw K) := by
  refine Fun_okG F scL (fun vs H Q E h => ?_) (fun cdv A outer s H vs Q E hst hr h => ?_)
  · obtain ⟨a, ns, rfl, _⟩ := h
    rfl
  obtain ⟨a, ns, rfl, hS, hn, k⟩ := h
  obtain ⟨fS, fdS, gS, kS, okS, bS⟩ := T.same
  obtain ⟨fC, fdC, gC, kC, okC, bC⟩ := T.cells
  obtain ⟨fR, fdR, gR, kR, okR, bR⟩ := T.right
  obtain ⟨t1, t2, t3, t4, t5, t6, t7, l1, l2, l3, l4, l5, l6, l7⟩ := T.lims
  have hr1 := hr.mono (by decide : 1 ≤ 3)
  refine ⟨_, pss_cons (ps_if (pt_not (pt_val (pe_callG hst okS hr1 rfl gS kS bS .nil pass0
      (pa_cons (pe_lst (pa_cons (pe_glob (v := .int 1000000000000) rfl l1 ⟨_, rfl⟩) (pa_cons (pe_glob (v := .int 20) rfl l2 ⟨_, rfl⟩) (pa_cons (pe_glob (v := .int 6) rfl l3 ⟨_, rfl⟩)
        (pa_cons (pe_glob (v := .int 8) rfl l4 ⟨_, rfl⟩) (pa_cons (pe_glob (v := .int 4) rfl l5 ⟨_, rfl⟩) (pa_cons (pe_glob (v := .int 24) rfl l6 ⟨_, rfl⟩) (pa_cons (pe_glob (v := .int 16) rfl l7 ⟨_, rfl⟩) pa_nil))))))))
      (pa_cons (pe_lst (pa_cons (pe_op op_pow pe_int pe_int) (pa_cons pe_int (pa_cons pe_int (pa_cons pe_int (pa_cons pe_int (pa_cons pe_int (pa_cons pe_int pa_nil)))))))) pa_nil))))) (pss_one (ps_ret pe_bl)) pss_nil)
    (pss_one (ps_ret (pe_callB (cr_all rfl) (by rfl) T.mAll (by decide +kernel) (pa_cons
      (pe_lc (own := [("_law_cell", 1)]) (g := gName 1) (tt := tYes) rfl scL.nd (pi_list (pe_call okC hr1 rfl gC kC bC .nil pass0 (pa_cons (pv 0) (pa_cons pe_int pa_nil))))
        (blkOk_by (N := nL) (sc := defScope sLaw) (by decide +kernel)) (fun _ _ _ _ _ => pg_name (i := 1) scL.nd rfl (Or.inl rfl)) (fun _ _ _ _ _ => pts_nil)
        (fun _ _ _ _ _ => pe_callG hst okR hr rfl gR kR bR .nil pass0 (pa_cons (pe_op op_add pe_int (pe_op op_mod (pe_callB call_abs (by rfl) T.mAbs (by decide +kernel) (pa_cons (pv 1) pa_nil)) pe_int)) pa_nil))) pa_nil)))), ?_⟩
  refine ⟨(by show 7 ≤ sizeLine; decide), fun p1 q1 => ?_⟩
  refine ⟨_, _, rfl, rfl, ⟨by decide, by decide, by decide⟩, (by show 7 ≤ sizeLine; decide), fun p2 q2 => ?_⟩
  refine ⟨p1, p2, dLim, dLim, rfl, dpLim (same_new q2 _ _ upd_same), dpLim upd_same, fineLim, fineLim, _, rfl, ?_⟩
  refine iteB (by simp) ?_
  have s0 := (same_new (o := .lst [.int 1000000000000, .int 20, .int 6, .int 8, .int 4, .int 24, .int 16]) q1).trans (same_new (o := .lst [.int 1000000000000, .int 20, .int 6, .int 8, .int 4, .int 24, .int 16]) q2)
  refine ⟨_, rfl, a, 8, ns, rfl, by decide, by decide, s0.seq hS, hn, fun l zs H1 s1 hl zne zl => ⟨l, rfl, ⟨_, SqL.of hl⟩, fun D hD => ?_⟩⟩
  refine lc_it (walk_list (K := K) (a := l) (xs := zs.map V.int)) (fun i H' => Same H1 H' ∧ H' D = some (.lst ((List.replicate i true).map V.bl)))
    ⟨same_new hD, upd_same⟩ (fun i H' _ p => SqL.of (p.1 _ _ hl)) ?_ ?_
  · rintro i x H2 H3 hi ⟨s2, hd⟩ ⟨rfl, hx⟩
    rw [List.length_map] at hi
    obtain ⟨z, hz, rfl⟩ : ∃ z, zs[i]? = some z ∧ V.int z = x := by rw [List.getElem?_map] at hx; simpa using hx
    refine ⟨rfl, ?_⟩
    refine ⟨_, rfl, _, rfl, _, _, rfl, rfl, (by show (0 : Int) < 300; decide), _, _, rfl, rfl, ?_⟩
    refine ⟨_, rfl, num_of ?_ ?_, fun H' s3 => ?_⟩
    · have := Int.emod_nonneg (if z < 0 then -z else z) (by decide : (300 : Int) ≠ 0)
      omega
    · have := Int.emod_lt_of_pos (if z < 0 then -z else z) (by decide : (0 : Int) < 300)
      omega
    refine ⟨_, s3 _ _ hd, by rw [List.length_map, List.length_replicate, sizeLine_eq]; omega, keep_list hD (s2.trans s3), ?_⟩
    rw [upd_same, List.replicate_succ', List.map_append]
    rfl
  · rintro H2 ⟨s2, hd⟩
    refine ⟨D, _, rfl, SqL.of hd, ?_⟩
    have e : (List.replicate (zs.map V.int).length true).all id = true := by simp
    show Q (V.bl ((List.replicate (zs.map V.int).length true).all id)) _
    rw [e]
    exact k _
end
end K09

set_option Elab.async false
set_option linter.all false
set_option maxRecDepth 100000
set_option maxHeartbeats 4000000
namespace K09
open PySem L2 JB
theorem vals_rev : ∀ {vs : List V} {us : List Value}, Vals vs us → Vals vs.reverse us.reverse
  | _, _, .nil => .nil
  | _, _, .cons r t => by
    rw [List.reverse_cons, List.reverse_cons]
    exact Vals.append (vals_rev t) (.cons r .nil)
/-- the facts that every own error class has in common -/
structure Cf (K : PySem.W.Frag) (C : Addr) : Prop where
  sa : PySem.W.findIn K (.ref C) "__setattr__" = some (some (.builtin "object.__setattr__"))
  ga : PySem.W.findIn K (.ref C) "__getattribute__" = some (some (.builtin "BaseException.__getattribute__"))
  gg : PySem.W.findIn K (.ref C) "__getattr__" = some none
  ca : PySem.W.findIn K (.ref C) "__class__" = some (some (.builtin "object.__class__"))
  ty : PySem.W.typeIn K (.ref C) = some (.type "type")
  kp : PySem.W.keepIn K (.ref C) = true
theorem Cf.ex {K : PySem.W.Frag} {C : Addr} {newId : String} {bm : List Value} (f : Cf K C) {nm q : Str} {N : Addr} {bs : List Value} {sn : List Str} {sub : List Value} {ab : Bool} {col : Option Bool} {dd : Option Addr} {m0 m1 m2 m3 m5 : Option Value}
    (x : K.lookup C = some (excClassObj nm q C N bs bm true sn sub ab col dd m0 m1 m2 m3 m5 newId)) : ExK K C newId bm :=
  ⟨⟨nm, q, N, bs, sn, sub, ab, col, dd, m0, m1, m2, m3, m5, x⟩, f.sa, f.ga, f.gg, f.ca, f.ty, f.kp⟩
theorem mkc0 {P : Program} {w : World} {K : PySem.W.Frag} {mg : Str → Option Value} {C f : Addr} {oc : Value} {od an : Option Addr} {sl : Array (Option Value)} {kV dc pm cd ct : Value}
    (T : ExK K C "ValueError.__new__" mV) (gl : mg "BadText" = some (.ref C)) (iC : PySem.W.findIn K (.ref C) "__init__" = some (some (.ref f))) (tf : PySem.W.typeIn K (.ref f) = some (.type "function"))
    (l : K.lookup f = some ⟨oc, od, .func (PySem.W.fnOf "__init__" "BadText.__init__" (defArgs s0) (defBody s0) (defScope s0) .none kV dc pm an cd ct), sl⟩) (c : PySem.W.codeIn K cd "BadText.__init__" = true) (k : PySem.W.keepIn K (.ref f) = true)
    (n0 : PySem.W.findIn K (.ref C) "at" = some none) (b : BaseK K mg "ValueError" "ValueError" "ValueError.__init__")  (base : Heap) :
    MkC P w K mg base "BadText" C "ValueError" "ValueError.__new__" "ValueError.__init__" mV ["self", "at"] ["at"] idl (spOne C "at") := by
  have F := fun_mk (st := s0) l c k
  refine ⟨base_V, T, gl, f, _, iC, tf, FnG.of (ok0 (P := P) (w := w) (mg := mg) (base := base) F T n0 b), ?_, ?_, ?_⟩
  · exact F.binds (ps := ["self", "at"]) fun _ _ _ _ _ _ us hl => match us, hl with | [_, _], _ => rfl
  · intro s self ws X hl
    match ws, hl with
    | [_], _ => exact .of_eq rfl
  · exact fun r => r
theorem mkc1 {P : Program} {w : World} {K : PySem.W.Frag} {mg : Str → Option Value} {C f : Addr} {oc : Value} {od an : Option Addr} {sl : Array (Option Value)} {kV dc pm cd ct : Value}
    (T : ExK K C "ValueError.__new__" mV) (gl : mg "Unsound" = some (.ref C)) (iC : PySem.W.findIn K (.ref C) "__init__" = some (some (.ref f))) (tf : PySem.W.typeIn K (.ref f) = some (.type "function"))
    (l : K.lookup f = some ⟨oc, od, .func (PySem.W.fnOf "__init__" "Unsound.__init__" (defArgs s1) (defBody s1) (defScope s1) .none kV dc pm an cd ct), sl⟩) (c : PySem.W.codeIn K cd "Unsound.__init__" = true) (k : PySem.W.keepIn K (.ref f) = true)
    (n0 : PySem.W.findIn K (.ref C) "faults" = some none) (b : BaseK K mg "ValueError" "ValueError" "ValueError.__init__") (mI : mg "isinstance" = none) (mL : mg "list" = none) (base : Heap) :
    MkC P w K mg base "Unsound" C "ValueError" "ValueError.__new__" "ValueError.__init__" mV ["self", "faults"] ["faults"] idl (spList K C "faults") := by
  have F := fun_mk (st := s1) l c k
  refine ⟨base_V, T, gl, f, _, iC, tf, ok1 (P := P) (w := w) (mg := mg) (base := base) F T n0 b mI mL, ?_, ?_, ?_⟩
  · exact F.binds (ps := ["self", "faults"]) fun _ _ _ _ _ _ us hl => match us, hl with | [_, _], _ => rfl
  · intro s self ws X hl
    match ws, hl with
    | [_], _ => exact .of_eq rfl
  · exact fun r => r
theorem mkc2 {P : Program} {w : World} {K : PySem.W.Frag} {mg : Str → Option Value} {C f : Addr} {oc : Value} {od an : Option Addr} {sl : Array (Option Value)} {kV dc pm cd ct : Value}
    (T : ExK K C "ValueError.__new__" mV) (gl : mg "Gap" = some (.ref C)) (iC : PySem.W.findIn K (.ref C) "__init__" = some (some (.ref f))) (tf : PySem.W.typeIn K (.ref f) = some (.type "function"))
    (l : K.lookup f = some ⟨oc, od, .func (PySem.W.fnOf "__init__" "Gap.__init__" (defArgs s2) (defBody s2) (defScope s2) .none kV dc pm an cd ct), sl⟩) (c : PySem.W.codeIn K cd "Gap.__init__" = true) (k : PySem.W.keepIn K (.ref f) = true)
    (n0 : PySem.W.findIn K (.ref C) "number" = some none) (b : BaseK K mg "ValueError" "ValueError" "ValueError.__init__")  (base : Heap) :
    MkC P w K mg base "Gap" C "ValueError" "ValueError.__new__" "ValueError.__init__" mV ["self", "number"] ["number"] idl (spOne C "number") := by
  have F := fun_mk (st := s2) l c k
  refine ⟨base_V, T, gl, f, _, iC, tf, FnG.of (ok2 (P := P) (w := w) (mg := mg) (base := base) F T n0 b), ?_, ?_, ?_⟩
  · exact F.binds (ps := ["self", "number"]) fun _ _ _ _ _ _ us hl => match us, hl with | [_, _], _ => rfl
  · intro s self ws X hl
    match ws, hl with
    | [_], _ => exact .of_eq rfl
  · exact fun r => r
theorem mkc3 {P : Program} {w : World} {K : PySem.W.Frag} {mg : Str → Option Value} {C f : Addr} {oc : Value} {od an : Option Addr} {sl : Array (Option Value)} {kV dc pm cd ct : Value}
    (T : ExK K C "ValueError.__new__" mV) (gl : mg "BadLine" = some (.ref C)) (iC : PySem.W.findIn K (.ref C) "__init__" = some (some (.ref f))) (tf : PySem.W.typeIn K (.ref f) = some (.type "function"))
    (l : K.lookup f = some ⟨oc, od, .func (PySem.W.fnOf "__init__" "BadLine.__init__" (defArgs s3) (defBody s3) (defScope s3) .none kV dc pm an cd ct), sl⟩) (c : PySem.W.codeIn K cd "BadLine.__init__" = true) (k : PySem.W.keepIn K (.ref f) = true)
    (n0 : PySem.W.findIn K (.ref C) "number" = some none) (b : BaseK K mg "ValueError" "ValueError" "ValueError.__init__")  (base : Heap) :
    MkC P w K mg base "BadLine" C "ValueError" "ValueError.__new__" "ValueError.__init__" mV ["self", "number"] ["number"] idl (spOne C "number") := by
  have F := fun_mk (st := s3) l c k
  refine ⟨base_V, T, gl, f, _, iC, tf, FnG.of (ok3 (P := P) (w := w) (mg := mg) (base := base) F T n0 b), ?_, ?_, ?_⟩
  · exact F.binds (ps := ["self", "number"]) fun _ _ _ _ _ _ us hl => match us, hl with | [_, _], _ => rfl
  · intro s self ws X hl
    match ws, hl with
    | [_], _ => exact .of_eq rfl
  · exact fun r => r
theorem mkc4 {P : Program} {w : World} {K : PySem.W.Frag} {mg : Str → Option Value} {C f : Addr} {oc : Value} {od an : Option Addr} {sl : Array (Option Value)} {kV dc pm cd ct : Value}
    (T : ExK K C "ValueError.__new__" mV) (gl : mg "NoLoose" = some (.ref C)) (iC : PySem.W.findIn K (.ref C) "__init__" = some (some (.ref f))) (tf : PySem.W.typeIn K (.ref f) = some (.type "function"))
    (l : K.lookup f = some ⟨oc, od, .func (PySem.W.fnOf "__init__" "NoLoose.__init__" (defArgs s4) (defBody s4) (defScope s4) .none kV dc pm an cd ct), sl⟩) (c : PySem.W.codeIn K cd "NoLoose.__init__" = true) (k : PySem.W.keepIn K (.ref f) = true)
    (n0 : PySem.W.findIn K (.ref C) "number" = some none) (b : BaseK K mg "ValueError" "ValueError" "ValueError.__init__")  (base : Heap) :
    MkC P w K mg base "NoLoose" C "ValueError" "ValueError.__new__" "ValueError.__init__" mV ["self", "number"] ["number"] idl (spOne C "number") := by
  have F := fun_mk (st := s4) l c k
  refine ⟨base_V, T, gl, f, _, iC, tf, FnG.of (ok4 (P := P) (w := w) (mg := mg) (base := base) F T n0 b), ?_, ?_, ?_⟩
  · exact F.binds (ps := ["self", "number"]) fun _ _ _ _ _ _ us hl => match us, hl with | [_, _], _ => rfl
  · intro s self ws X hl
    match ws, hl with
    | [_], _ => exact .of_eq rfl
  · exact fun r => r
theorem mkc5 {P : Program} {w : World} {K : PySem.W.Frag} {mg : Str → Option Value} {C f : Addr} {oc : Value} {od an : Option Addr} {sl : Array (Option Value)} {kV dc pm cd ct : Value}
    (T : ExK K C "ValueError.__new__" mV) (gl : mg "NoCut" = some (.ref C)) (iC : PySem.W.findIn K (.ref C) "__init__" = some (some (.ref f))) (tf : PySem.W.typeIn K (.ref f) = some (.type "function"))
    (l : K.lookup f = some ⟨oc, od, .func (PySem.W.fnOf "__init__" "NoCut.__init__" (defArgs s5) (defBody s5) (defScope s5) .none kV dc pm an cd ct), sl⟩) (c : PySem.W.codeIn K cd "NoCut.__init__" = true) (k : PySem.W.keepIn K (.ref f) = true)
    (n0 : PySem.W.findIn K (.ref C) "block" = some none) (b : BaseK K mg "ValueError" "ValueError" "ValueError.__init__")  (base : Heap) :
    MkC P w K mg base "NoCut" C "ValueError" "ValueError.__new__" "ValueError.__init__" mV ["self", "block"] ["block"] idl (spOne C "block") := by
  have F := fun_mk (st := s5) l c k
  refine ⟨base_V, T, gl, f, _, iC, tf, FnG.of (ok5 (P := P) (w := w) (mg := mg) (base := base) F T n0 b), ?_, ?_, ?_⟩
  · exact F.binds (ps := ["self", "block"]) fun _ _ _ _ _ _ us hl => match us, hl with | [_, _], _ => rfl
  · intro s self ws X hl
    match ws, hl with
    | [_], _ => exact .of_eq rfl
  · exact fun r => r
theorem mkc6 {P : Program} {w : World} {K : PySem.W.Frag} {mg : Str → Option Value} {C f : Addr} {oc : Value} {od an : Option Addr} {sl : Array (Option Value)} {kV dc pm cd ct : Value}
    (T : ExK K C "ValueError.__new__" mV) (gl : mg "NoHistory" = some (.ref C)) (iC : PySem.W.findIn K (.ref C) "__init__" = some (some (.ref f))) (tf : PySem.W.typeIn K (.ref f) = some (.type "function"))
    (l : K.lookup f = some ⟨oc, od, .func (PySem.W.fnOf "__init__" "NoHistory.__init__" (defArgs s6) (defBody s6) (defScope s6) .none kV dc pm an cd ct), sl⟩) (c : PySem.W.codeIn K cd "NoHistory.__init__" = true) (k : PySem.W.keepIn K (.ref f) = true)
    (n0 : PySem.W.findIn K (.ref C) "index" = some none) (b : BaseK K mg "ValueError" "ValueError" "ValueError.__init__")  (base : Heap) :
    MkC P w K mg base "NoHistory" C "ValueError" "ValueError.__new__" "ValueError.__init__" mV ["self", "index"] ["index"] idl (spOne C "index") := by
  have F := fun_mk (st := s6) l c k
  refine ⟨base_V, T, gl, f, _, iC, tf, FnG.of (ok6 (P := P) (w := w) (mg := mg) (base := base) F T n0 b), ?_, ?_, ?_⟩
  · exact F.binds (ps := ["self", "index"]) fun _ _ _ _ _ _ us hl => match us, hl with | [_, _], _ => rfl
  · intro s self ws X hl
    match ws, hl with
    | [_], _ => exact .of_eq rfl
  · exact fun r => r
theorem mkc7 {P : Program} {w : World} {K : PySem.W.Frag} {mg : Str → Option Value} {C f : Addr} {oc : Value} {od an : Option Addr} {sl : Array (Option Value)} {kV dc pm cd ct : Value}
    (T : ExK K C "LookupError.__new__" mL) (gl : mg "NoObject" = some (.ref C)) (iC : PySem.W.findIn K (.ref C) "__init__" = some (some (.ref f))) (tf : PySem.W.typeIn K (.ref f) = some (.type "function"))
    (l : K.lookup f = some ⟨oc, od, .func (PySem.W.fnOf "__init__" "NoObject.__init__" (defArgs s7) (defBody s7) (defScope s7) .none kV dc pm an cd ct), sl⟩) (c : PySem.W.codeIn K cd "NoObject.__init__" = true) (k : PySem.W.keepIn K (.ref f) = true)
    (n0 : PySem.W.findIn K (.ref C) "ref" = some none) (b : BaseK K mg "LookupError" "LookupError" "LookupError.__init__")  (base : Heap) :
    MkC P w K mg base "NoObject" C "LookupError" "LookupError.__new__" "LookupError.__init__" mL ["self", "ref"] ["ref"] idl (spOne C "ref") := by
  have F := fun_mk (st := s7) l c k
  refine ⟨base_L, T, gl, f, _, iC, tf, FnG.of (ok7 (P := P) (w := w) (mg := mg) (base := base) F T n0 b), ?_, ?_, ?_⟩
  · exact F.binds (ps := ["self", "ref"]) fun _ _ _ _ _ _ us hl => match us, hl with | [_, _], _ => rfl
  · intro s self ws X hl
    match ws, hl with
    | [_], _ => exact .of_eq rfl
  · exact fun r => r
theorem mkc8 {P : Program} {w : World} {K : PySem.W.Frag} {mg : Str → Option Value} {C f : Addr} {oc : Value} {od an : Option Addr} {sl : Array (Option Value)} {kV dc pm cd ct : Value}
    (T : ExK K C "LookupError.__new__" mL) (gl : mg "NoPlace" = some (.ref C)) (iC : PySem.W.findIn K (.ref C) "__init__" = some (some (.ref f))) (tf : PySem.W.typeIn K (.ref f) = some (.type "function"))
    (l : K.lookup f = some ⟨oc, od, .func (PySem.W.fnOf "__init__" "NoPlace.__init__" (defArgs s8) (defBody s8) (defScope s8) .none kV dc pm an cd ct), sl⟩) (c : PySem.W.codeIn K cd "NoPlace.__init__" = true) (k : PySem.W.keepIn K (.ref f) = true)
    (n0 : PySem.W.findIn K (.ref C) "place" = some none) (b : BaseK K mg "LookupError" "LookupError" "LookupError.__init__")  (base : Heap) :
    MkC P w K mg base "NoPlace" C "LookupError" "LookupError.__new__" "LookupError.__init__" mL ["self", "place"] ["place"] idl (spOne C "place") := by
  have F := fun_mk (st := s8) l c k
  refine ⟨base_L, T, gl, f, _, iC, tf, FnG.of (ok8 (P := P) (w := w) (mg := mg) (base := base) F T n0 b), ?_, ?_, ?_⟩
  · exact F.binds (ps := ["self", "place"]) fun _ _ _ _ _ _ us hl => match us, hl with | [_, _], _ => rfl
  · intro s self ws X hl
    match ws, hl with
    | [_], _ => exact .of_eq rfl
  · exact fun r => r
theorem mkc9 {P : Program} {w : World} {K : PySem.W.Frag} {mg : Str → Option Value} {C f : Addr} {oc : Value} {od an : Option Addr} {sl : Array (Option Value)} {kV dc pm cd ct : Value}
    (T : ExK K C "LookupError.__new__" mL) (gl : mg "NoBlock" = some (.ref C)) (iC : PySem.W.findIn K (.ref C) "__init__" = some (some (.ref f))) (tf : PySem.W.typeIn K (.ref f) = some (.type "function"))
    (l : K.lookup f = some ⟨oc, od, .func (PySem.W.fnOf "__init__" "NoBlock.__init__" (defArgs s9) (defBody s9) (defScope s9) .none kV dc pm an cd ct), sl⟩) (c : PySem.W.codeIn K cd "NoBlock.__init__" = true) (k : PySem.W.keepIn K (.ref f) = true)
    (n0 : PySem.W.findIn K (.ref C) "place" = some none) (b : BaseK K mg "LookupError" "LookupError" "LookupError.__init__")  (base : Heap) :
    MkC P w K mg base "NoBlock" C "LookupError" "LookupError.__new__" "LookupError.__init__" mL ["self", "place"] ["place"] idl (spOne C "place") := by
  have F := fun_mk (st := s9) l c k
  refine ⟨base_L, T, gl, f, _, iC, tf, FnG.of (ok9 (P := P) (w := w) (mg := mg) (base := base) F T n0 b), ?_, ?_, ?_⟩
  · exact F.binds (ps := ["self", "place"]) fun _ _ _ _ _ _ us hl => match us, hl with | [_, _], _ => rfl
  · intro s self ws X hl
    match ws, hl with
    | [_], _ => exact .of_eq rfl
  · exact fun r => r
theorem mkc10 {P : Program} {w : World} {K : PySem.W.Frag} {mg : Str → Option Value} {C f : Addr} {oc : Value} {od an : Option Addr} {sl : Array (Option Value)} {kV dc pm cd ct : Value}
    (T : ExK K C "LookupError.__new__" mL) (gl : mg "NoOutput" = some (.ref C)) (iC : PySem.W.findIn K (.ref C) "__init__" = some (some (.ref f))) (tf : PySem.W.typeIn K (.ref f) = some (.type "function"))
    (l : K.lookup f = some ⟨oc, od, .func (PySem.W.fnOf "__init__" "NoOutput.__init__" (defArgs s10) (defBody s10) (defScope s10) .none kV dc pm an cd ct), sl⟩) (c : PySem.W.codeIn K cd "NoOutput.__init__" = true) (k : PySem.W.keepIn K (.ref f) = true)
    (n0 : PySem.W.findIn K (.ref C) "number" = some none) (b : BaseK K mg "LookupError" "LookupError" "LookupError.__init__")  (base : Heap) :
    MkC P w K mg base "NoOutput" C "LookupError" "LookupError.__new__" "LookupError.__init__" mL ["self", "number"] ["number"] idl (spOne C "number") := by
  have F := fun_mk (st := s10) l c k
  refine ⟨base_L, T, gl, f, _, iC, tf, FnG.of (ok10 (P := P) (w := w) (mg := mg) (base := base) F T n0 b), ?_, ?_, ?_⟩
  · exact F.binds (ps := ["self", "number"]) fun _ _ _ _ _ _ us hl => match us, hl with | [_, _], _ => rfl
  · intro s self ws X hl
    match ws, hl with
    | [_], _ => exact .of_eq rfl
  · exact fun r => r
theorem mkc11 {P : Program} {w : World} {K : PySem.W.Frag} {mg : Str → Option Value} {C f : Addr} {oc : Value} {od an : Option Addr} {sl : Array (Option Value)} {kV dc pm cd ct : Value}
    (T : ExK K C "LookupError.__new__" mL) (gl : mg "Gone" = some (.ref C)) (iC : PySem.W.findIn K (.ref C) "__init__" = some (some (.ref f))) (tf : PySem.W.typeIn K (.ref f) = some (.type "function"))
    (l : K.lookup f = some ⟨oc, od, .func (PySem.W.fnOf "__init__" "Gone.__init__" (defArgs s11) (defBody s11) (defScope s11) .none kV dc pm an cd ct), sl⟩) (c : PySem.W.codeIn K cd "Gone.__init__" = true) (k : PySem.W.keepIn K (.ref f) = true)
    (n0 : PySem.W.findIn K (.ref C) "number" = some none) (b : BaseK K mg "LookupError" "LookupError" "LookupError.__init__")  (base : Heap) :
    MkC P w K mg base "Gone" C "LookupError" "LookupError.__new__" "LookupError.__init__" mL ["self", "number"] ["number"] idl (spOne C "number") := by
  have F := fun_mk (st := s11) l c k
  refine ⟨base_L, T, gl, f, _, iC, tf, FnG.of (ok11 (P := P) (w := w) (mg := mg) (base := base) F T n0 b), ?_, ?_, ?_⟩
  · exact F.binds (ps := ["self", "number"]) fun _ _ _ _ _ _ us hl => match us, hl with | [_, _], _ => rfl
  · intro s self ws X hl
    match ws, hl with
    | [_], _ => exact .of_eq rfl
  · exact fun r => r
theorem mkc12 {P : Program} {w : World} {K : PySem.W.Frag} {mg : Str → Option Value} {C f : Addr} {oc : Value} {od an : Option Addr} {sl : Array (Option Value)} {kV dc pm cd ct : Value}
    (T : ExK K C "RuntimeError.__new__" mR) (gl : mg "Refused" = some (.ref C)) (iC : PySem.W.findIn K (.ref C) "__init__" = some (some (.ref f))) (tf : PySem.W.typeIn K (.ref f) = some (.type "function"))
    (l : K.lookup f = some ⟨oc, od, .func (PySem.W.fnOf "__init__" "Refused.__init__" (defArgs s12) (defBody s12) (defScope s12) .none kV dc pm an cd ct), sl⟩) (c : PySem.W.codeIn K cd "Refused.__init__" = true) (k : PySem.W.keepIn K (.ref f) = true)
    (n0 : PySem.W.findIn K (.ref C) "task" = some none) (n1 : PySem.W.findIn K (.ref C) "depth" = some none) (n2 : PySem.W.findIn K (.ref C) "word" = some none) (b : BaseK K mg "RuntimeError" "RuntimeError" "RuntimeError.__init__")  (base : Heap) :
    MkC P w K mg base "Refused" C "RuntimeError" "RuntimeError.__new__" "RuntimeError.__init__" mR ["self", "task", "depth", "word"] ["word", "depth", "task"] rvl (spThree C "task" "depth" "word") := by
  have F := fun_mk (st := s12) l c k
  refine ⟨base_R, T, gl, f, _, iC, tf, FnG.of (ok12 (P := P) (w := w) (mg := mg) (base := base) F T n0 n1 n2 b), ?_, ?_, ?_⟩
  · exact F.binds (ps := ["self", "task", "depth", "word"]) fun _ _ _ _ _ _ us hl => match us, hl with | [_, _, _, _], _ => rfl
  · intro s self ws X hl
    match ws, hl with
    | [_, _, _], _ => exact .of_eq rfl
  · exact fun r => vals_rev r
theorem mkc13 {P : Program} {w : World} {K : PySem.W.Frag} {mg : Str → Option Value} {C f : Addr} {oc : Value} {od an : Option Addr} {sl : Array (Option Value)} {kV dc pm cd ct : Value}
    (T : ExK K C "RuntimeError.__new__" mR) (gl : mg "Busy" = some (.ref C)) (iC : PySem.W.findIn K (.ref C) "__init__" = some (some (.ref f))) (tf : PySem.W.typeIn K (.ref f) = some (.type "function"))
    (l : K.lookup f = some ⟨oc, od, .func (PySem.W.fnOf "__init__" "Busy.__init__" (defArgs s13) (defBody s13) (defScope s13) .none kV dc pm an cd ct), sl⟩) (c : PySem.W.codeIn K cd "Busy.__init__" = true) (k : PySem.W.keepIn K (.ref f) = true)
     (b : BaseK K mg "RuntimeError" "RuntimeError" "RuntimeError.__init__")  (base : Heap) :
    MkC P w K mg base "Busy" C "RuntimeError" "RuntimeError.__new__" "RuntimeError.__init__" mR ["self"] [] idl (spNone C) := by
  have F := fun_mk (st := s13) l c k
  refine ⟨base_R, T, gl, f, _, iC, tf, FnG.of (ok13 (P := P) (w := w) (mg := mg) (base := base) F T  b), ?_, ?_, ?_⟩
  · exact F.binds (ps := ["self"]) fun _ _ _ _ _ _ us hl => match us, hl with | [_], _ => rfl
  · intro s self ws X hl
    match ws, hl with
    | [], _ => exact .of_eq rfl
  · exact fun r => r
theorem mkc14 {P : Program} {w : World} {K : PySem.W.Frag} {mg : Str → Option Value} {C f : Addr} {oc : Value} {od an : Option Addr} {sl : Array (Option Value)} {kV dc pm cd ct : Value}
    (T : ExK K C "RuntimeError.__new__" mR) (gl : mg "Idle" = some (.ref C)) (iC : PySem.W.findIn K (.ref C) "__init__" = some (some (.ref f))) (tf : PySem.W.typeIn K (.ref f) = some (.type "function"))
    (l : K.lookup f = some ⟨oc, od, .func (PySem.W.fnOf "__init__" "Idle.__init__" (defArgs s14) (defBody s14) (defScope s14) .none kV dc pm an cd ct), sl⟩) (c : PySem.W.codeIn K cd "Idle.__init__" = true) (k : PySem.W.keepIn K (.ref f) = true)
     (b : BaseK K mg "RuntimeError" "RuntimeError" "RuntimeError.__init__")  (base : Heap) :
    MkC P w K mg base "Idle" C "RuntimeError" "RuntimeError.__new__" "RuntimeError.__init__" mR ["self"] [] idl (spNone C) := by
  have F := fun_mk (st := s14) l c k
  refine ⟨base_R, T, gl, f, _, iC, tf, FnG.of (ok14 (P := P) (w := w) (mg := mg) (base := base) F T  b), ?_, ?_, ?_⟩
  · exact F.binds (ps := ["self"]) fun _ _ _ _ _ _ us hl => match us, hl with | [_], _ => rfl
  · intro s self ws X hl
    match ws, hl with
    | [], _ => exact .of_eq rfl
  · exact fun r => r
theorem mkc15 {P : Program} {w : World} {K : PySem.W.Frag} {mg : Str → Option Value} {C f : Addr} {oc : Value} {od an : Option Addr} {sl : Array (Option Value)} {kV dc pm cd ct : Value}
    (T : ExK K C "RuntimeError.__new__" mR) (gl : mg "Stopped" = some (.ref C)) (iC : PySem.W.findIn K (.ref C) "__init__" = some (some (.ref f))) (tf : PySem.W.typeIn K (.ref f) = some (.type "function"))
    (l : K.lookup f = some ⟨oc, od, .func (PySem.W.fnOf "__init__" "Stopped.__init__" (defArgs s15) (defBody s15) (defScope s15) .none kV dc pm an cd ct), sl⟩) (c : PySem.W.codeIn K cd "Stopped.__init__" = true) (k : PySem.W.keepIn K (.ref f) = true)
     (b : BaseK K mg "RuntimeError" "RuntimeError" "RuntimeError.__init__")  (base : Heap) :
    MkC P w K mg base "Stopped" C "RuntimeError" "RuntimeError.__new__" "RuntimeError.__init__" mR ["self"] [] idl (spNone C) := by
  have F := fun_mk (st := s15) l c k
  refine ⟨base_R, T, gl, f, _, iC, tf, FnG.of (ok15 (P := P) (w := w) (mg := mg) (base := base) F T  b), ?_, ?_, ?_⟩
  · exact F.binds (ps := ["self"]) fun _ _ _ _ _ _ us hl => match us, hl with | [_], _ => rfl
  · intro s self ws X hl
    match ws, hl with
    | [], _ => exact .of_eq rfl
  · exact fun r => r
theorem mkc16 {P : Program} {w : World} {K : PySem.W.Frag} {mg : Str → Option Value} {C f : Addr} {oc : Value} {od an : Option Addr} {sl : Array (Option Value)} {kV dc pm cd ct : Value}
    (T : ExK K C "RuntimeError.__new__" mR) (gl : mg "NoRoot" = some (.ref C)) (iC : PySem.W.findIn K (.ref C) "__init__" = some (some (.ref f))) (tf : PySem.W.typeIn K (.ref f) = some (.type "function"))
    (l : K.lookup f = some ⟨oc, od, .func (PySem.W.fnOf "__init__" "NoRoot.__init__" (defArgs s16) (defBody s16) (defScope s16) .none kV dc pm an cd ct), sl⟩) (c : PySem.W.codeIn K cd "NoRoot.__init__" = true) (k : PySem.W.keepIn K (.ref f) = true)
     (b : BaseK K mg "RuntimeError" "RuntimeError" "RuntimeError.__init__")  (base : Heap) :
    MkC P w K mg base "NoRoot" C "RuntimeError" "RuntimeError.__new__" "RuntimeError.__init__" mR ["self"] [] idl (spNone C) := by
  have F := fun_mk (st := s16) l c k
  refine ⟨base_R, T, gl, f, _, iC, tf, FnG.of (ok16 (P := P) (w := w) (mg := mg) (base := base) F T  b), ?_, ?_, ?_⟩
  · exact F.binds (ps := ["self"]) fun _ _ _ _ _ _ us hl => match us, hl with | [_], _ => rfl
  · intro s self ws X hl
    match ws, hl with
    | [], _ => exact .of_eq rfl
  · exact fun r => r
theorem mkc17 {P : Program} {w : World} {K : PySem.W.Frag} {mg : Str → Option Value} {C f : Addr} {oc : Value} {od an : Option Addr} {sl : Array (Option Value)} {kV dc pm cd ct : Value}
    (T : ExK K C "OverflowError.__new__" mO) (gl : mg "Full" = some (.ref C)) (iC : PySem.W.findIn K (.ref C) "__init__" = some (some (.ref f))) (tf : PySem.W.typeIn K (.ref f) = some (.type "function"))
    (l : K.lookup f = some ⟨oc, od, .func (PySem.W.fnOf "__init__" "Full.__init__" (defArgs s17) (defBody s17) (defScope s17) .none kV dc pm an cd ct), sl⟩) (c : PySem.W.codeIn K cd "Full.__init__" = true) (k : PySem.W.keepIn K (.ref f) = true)
    (n0 : PySem.W.findIn K (.ref C) "count" = some none) (b : BaseK K mg "OverflowError" "OverflowError" "OverflowError.__init__")  (base : Heap) :
    MkC P w K mg base "Full" C "OverflowError" "OverflowError.__new__" "OverflowError.__init__" mO ["self", "count"] ["count"] idl (spOne C "count") := by
  have F := fun_mk (st := s17) l c k
  refine ⟨base_O, T, gl, f, _, iC, tf, FnG.of (ok17 (P := P) (w := w) (mg := mg) (base := base) F T n0 b), ?_, ?_, ?_⟩
  · exact F.binds (ps := ["self", "count"]) fun _ _ _ _ _ _ us hl => match us, hl with | [_, _], _ => rfl
  · intro s self ws X hl
    match ws, hl with
    | [_], _ => exact .of_eq rfl
  · exact fun r => r
theorem all_mk {P : Program} {w : World} {K : PySem.W.Frag} {h : Heap} {mg : Str → Option Value} {fa : Addr} (X : K.In h) (G : h.Ns mainGlobals mg) (hfa : mg "law" = some (.ref fa))
    {C0 f0 N0 : Addr} {nm0 q0 : Str} {bs0 sub0 : List Value} {sn0 : List Str} {ab0 : Bool} {col0 : Option Bool} {dd0 od0 an0 : Option Addr} {x0_0 x1_0 x2_0 x3_0 x5_0 : Option Value} {sl0 : Array (Option Value)} {oc0 kV0 dc0 pm0 cd0 ct0 : Value}
    {C1 f1 N1 : Addr} {nm1 q1 : Str} {bs1 sub1 : List Value} {sn1 : List Str} {ab1 : Bool} {col1 : Option Bool} {dd1 od1 an1 : Option Addr} {x0_1 x1_1 x2_1 x3_1 x5_1 : Option Value} {sl1 : Array (Option Value)} {oc1 kV1 dc1 pm1 cd1 ct1 : Value}
    {C2 f2 N2 : Addr} {nm2 q2 : Str} {bs2 sub2 : List Value} {sn2 : List Str} {ab2 : Bool} {col2 : Option Bool} {dd2 od2 an2 : Option Addr} {x0_2 x1_2 x2_2 x3_2 x5_2 : Option Value} {sl2 : Array (Option Value)} {oc2 kV2 dc2 pm2 cd2 ct2 : Value}
    {C3 f3 N3 : Addr} {nm3 q3 : Str} {bs3 sub3 : List Value} {sn3 : List Str} {ab3 : Bool} {col3 : Option Bool} {dd3 od3 an3 : Option Addr} {x0_3 x1_3 x2_3 x3_3 x5_3 : Option Value} {sl3 : Array (Option Value)} {oc3 kV3 dc3 pm3 cd3 ct3 : Value}
    {C4 f4 N4 : Addr} {nm4 q4 : Str} {bs4 sub4 : List Value} {sn4 : List Str} {ab4 : Bool} {col4 : Option Bool} {dd4 od4 an4 : Option Addr} {x0_4 x1_4 x2_4 x3_4 x5_4 : Option Value} {sl4 : Array (Option Value)} {oc4 kV4 dc4 pm4 cd4 ct4 : Value}
    {C5 f5 N5 : Addr} {nm5 q5 : Str} {bs5 sub5 : List Value} {sn5 : List Str} {ab5 : Bool} {col5 : Option Bool} {dd5 od5 an5 : Option Addr} {x0_5 x1_5 x2_5 x3_5 x5_5 : Option Value} {sl5 : Array (Option Value)} {oc5 kV5 dc5 pm5 cd5 ct5 : Value}
    {C6 f6 N6 : Addr} {nm6 q6 : Str} {bs6 sub6 : List Value} {sn6 : List Str} {ab6 : Bool} {col6 : Option Bool} {dd6 od6 an6 : Option Addr} {x0_6 x1_6 x2_6 x3_6 x5_6 : Option Value} {sl6 : Array (Option Value)} {oc6 kV6 dc6 pm6 cd6 ct6 : Value}
    {C7 f7 N7 : Addr} {nm7 q7 : Str} {bs7 sub7 : List Value} {sn7 : List Str} {ab7 : Bool} {col7 : Option Bool} {dd7 od7 an7 : Option Addr} {x0_7 x1_7 x2_7 x3_7 x5_7 : Option Value} {sl7 : Array (Option Value)} {oc7 kV7 dc7 pm7 cd7 ct7 : Value}
    {C8 f8 N8 : Addr} {nm8 q8 : Str} {bs8 sub8 : List Value} {sn8 : List Str} {ab8 : Bool} {col8 : Option Bool} {dd8 od8 an8 : Option Addr} {x0_8 x1_8 x2_8 x3_8 x5_8 : Option Value} {sl8 : Array (Option Value)} {oc8 kV8 dc8 pm8 cd8 ct8 : Value}
    {C9 f9 N9 : Addr} {nm9 q9 : Str} {bs9 sub9 : List Value} {sn9 : List Str} {ab9 : Bool} {col9 : Option Bool} {dd9 od9 an9 : Option Addr} {x0_9 x1_9 x2_9 x3_9 x5_9 : Option Value} {sl9 : Array (Option Value)} {oc9 kV9 dc9 pm9 cd9 ct9 : Value}
    {C10 f10 N10 : Addr} {nm10 q10 : Str} {bs10 sub10 : List Value} {sn10 : List Str} {ab10 : Bool} {col10 : Option Bool} {dd10 od10 an10 : Option Addr} {x0_10 x1_10 x2_10 x3_10 x5_10 : Option Value} {sl10 : Array (Option Value)} {oc10 kV10 dc10 pm10 cd10 ct10 : Value}
    {C11 f11 N11 : Addr} {nm11 q11 : Str} {bs11 sub11 : List Value} {sn11 : List Str} {ab11 : Bool} {col11 : Option Bool} {dd11 od11 an11 : Option Addr} {x0_11 x1_11 x2_11 x3_11 x5_11 : Option Value} {sl11 : Array (Option Value)} {oc11 kV11 dc11 pm11 cd11 ct11 : Value}
    {C12 f12 N12 : Addr} {nm12 q12 : Str} {bs12 sub12 : List Value} {sn12 : List Str} {ab12 : Bool} {col12 : Option Bool} {dd12 od12 an12 : Option Addr} {x0_12 x1_12 x2_12 x3_12 x5_12 : Option Value} {sl12 : Array (Option Value)} {oc12 kV12 dc12 pm12 cd12 ct12 : Value}
    {C13 f13 N13 : Addr} {nm13 q13 : Str} {bs13 sub13 : List Value} {sn13 : List Str} {ab13 : Bool} {col13 : Option Bool} {dd13 od13 an13 : Option Addr} {x0_13 x1_13 x2_13 x3_13 x5_13 : Option Value} {sl13 : Array (Option Value)} {oc13 kV13 dc13 pm13 cd13 ct13 : Value}
    {C14 f14 N14 : Addr} {nm14 q14 : Str} {bs14 sub14 : List Value} {sn14 : List Str} {ab14 : Bool} {col14 : Option Bool} {dd14 od14 an14 : Option Addr} {x0_14 x1_14 x2_14 x3_14 x5_14 : Option Value} {sl14 : Array (Option Value)} {oc14 kV14 dc14 pm14 cd14 ct14 : Value}
    {C15 f15 N15 : Addr} {nm15 q15 : Str} {bs15 sub15 : List Value} {sn15 : List Str} {ab15 : Bool} {col15 : Option Bool} {dd15 od15 an15 : Option Addr} {x0_15 x1_15 x2_15 x3_15 x5_15 : Option Value} {sl15 : Array (Option Value)} {oc15 kV15 dc15 pm15 cd15 ct15 : Value}
    {C16 f16 N16 : Addr} {nm16 q16 : Str} {bs16 sub16 : List Value} {sn16 : List Str} {ab16 : Bool} {col16 : Option Bool} {dd16 od16 an16 : Option Addr} {x0_16 x1_16 x2_16 x3_16 x5_16 : Option Value} {sl16 : Array (Option Value)} {oc16 kV16 dc16 pm16 cd16 ct16 : Value}
    {C17 f17 N17 : Addr} {nm17 q17 : Str} {bs17 sub17 : List Value} {sn17 : List Str} {ab17 : Bool} {col17 : Option Bool} {dd17 od17 an17 : Option Addr} {x0_17 x1_17 x2_17 x3_17 x5_17 : Option Value} {sl17 : Array (Option Value)} {oc17 kV17 dc17 pm17 cd17 ct17 : Value}
    {t1 t2 t3 t4 t5 t6 t7 : Tok}
    {gCells : Addr} {odCells anCells : Option Addr} {slCells : Array (Option Value)} {ocCells kVCells dcCells pmCells cdCells ctCells : Value}
    {gSame : Addr} {odSame anSame : Option Addr} {slSame : Array (Option Value)} {ocSame kVSame dcSame pmSame cdSame ctSame : Value}
    {gKinds : Addr} {odKinds anKinds : Option Addr} {slKinds : Array (Option Value)} {ocKinds kVKinds dcKinds pmKinds cdKinds ctKinds : Value}
    {gBases : Addr} {odBases anBases : Option Addr} {slBases : Array (Option Value)} {ocBases kVBases dcBases pmBases cdBases ctBases : Value}
    {gRight : Addr} {odRight anRight : Option Addr} {slRight : Array (Option Value)} {ocRight kVRight dcRight pmRight cdRight ctRight : Value}
    {gLaw : Addr} {odLaw anLaw : Option Addr} {slLaw : Array (Option Value)} {ocLaw kVLaw dcLaw pmLaw cdLaw ctLaw : Value}
    (aC0 : PySem.W.nsIn K mainGlobals "BadText" = some (some (.ref C0)))
    (x0 : K.lookup C0 = some (excClassObj nm0 q0 C0 N0 bs0 mV true sn0 sub0 ab0 col0 dd0 x0_0 x1_0 x2_0 x3_0 x5_0 "ValueError.__new__"))
    (sa0 : PySem.W.findIn K (.ref C0) "__setattr__" = some (some (.builtin "object.__setattr__")))
    (ga0 : PySem.W.findIn K (.ref C0) "__getattribute__" = some (some (.builtin "BaseException.__getattribute__")))
    (gg0 : PySem.W.findIn K (.ref C0) "__getattr__" = some none)
    (ca0 : PySem.W.findIn K (.ref C0) "__class__" = some (some (.builtin "object.__class__")))
    (ty0 : PySem.W.typeIn K (.ref C0) = some (.type "type"))
    (kp0 : PySem.W.keepIn K (.ref C0) = true)
    (in0 : PySem.W.findIn K (.ref C0) "__init__" = some (some (.ref f0)))
    (tf0 : PySem.W.typeIn K (.ref f0) = some (.type "function"))
    (lf0 : K.lookup f0 = some ⟨oc0, od0, .func (PySem.W.fnOf "__init__" "BadText.__init__" (defArgs s0) (defBody s0) (defScope s0) .none kV0 dc0 pm0 an0 cd0 ct0), sl0⟩)
    (cf0 : PySem.W.codeIn K cd0 "BadText.__init__" = true)
    (kf0 : PySem.W.keepIn K (.ref f0) = true)
    (na0at : PySem.W.findIn K (.ref C0) "at" = some none)
    (aC1 : PySem.W.nsIn K mainGlobals "Unsound" = some (some (.ref C1)))
    (x1 : K.lookup C1 = some (excClassObj nm1 q1 C1 N1 bs1 mV true sn1 sub1 ab1 col1 dd1 x0_1 x1_1 x2_1 x3_1 x5_1 "ValueError.__new__"))
    (sa1 : PySem.W.findIn K (.ref C1) "__setattr__" = some (some (.builtin "object.__setattr__")))
    (ga1 : PySem.W.findIn K (.ref C1) "__getattribute__" = some (some (.builtin "BaseException.__getattribute__")))
    (gg1 : PySem.W.findIn K (.ref C1) "__getattr__" = some none)
    (ca1 : PySem.W.findIn K (.ref C1) "__class__" = some (some (.builtin "object.__class__")))
    (ty1 : PySem.W.typeIn K (.ref C1) = some (.type "type"))
    (kp1 : PySem.W.keepIn K (.ref C1) = true)
    (in1 : PySem.W.findIn K (.ref C1) "__init__" = some (some (.ref f1)))
    (tf1 : PySem.W.typeIn K (.ref f1) = some (.type "function"))
    (lf1 : K.lookup f1 = some ⟨oc1, od1, .func (PySem.W.fnOf "__init__" "Unsound.__init__" (defArgs s1) (defBody s1) (defScope s1) .none kV1 dc1 pm1 an1 cd1 ct1), sl1⟩)
    (cf1 : PySem.W.codeIn K cd1 "Unsound.__init__" = true)
    (kf1 : PySem.W.keepIn K (.ref f1) = true)
    (na1faults : PySem.W.findIn K (.ref C1) "faults" = some none)
    (aC2 : PySem.W.nsIn K mainGlobals "Gap" = some (some (.ref C2)))
    (x2 : K.lookup C2 = some (excClassObj nm2 q2 C2 N2 bs2 mV true sn2 sub2 ab2 col2 dd2 x0_2 x1_2 x2_2 x3_2 x5_2 "ValueError.__new__"))
    (sa2 : PySem.W.findIn K (.ref C2) "__setattr__" = some (some (.builtin "object.__setattr__")))
    (ga2 : PySem.W.findIn K (.ref C2) "__getattribute__" = some (some (.builtin "BaseException.__getattribute__")))
    (gg2 : PySem.W.findIn K (.ref C2) "__getattr__" = some none)
    (ca2 : PySem.W.findIn K (.ref C2) "__class__" = some (some (.builtin "object.__class__")))
    (ty2 : PySem.W.typeIn K (.ref C2) = some (.type "type"))
    (kp2 : PySem.W.keepIn K (.ref C2) = true)
    (in2 : PySem.W.findIn K (.ref C2) "__init__" = some (some (.ref f2)))
    (tf2 : PySem.W.typeIn K (.ref f2) = some (.type "function"))
    (lf2 : K.lookup f2 = some ⟨oc2, od2, .func (PySem.W.fnOf "__init__" "Gap.__init__" (defArgs s2) (defBody s2) (defScope s2) .none kV2 dc2 pm2 an2 cd2 ct2), sl2⟩)
    (cf2 : PySem.W.codeIn K cd2 "Gap.__init__" = true)
    (kf2 : PySem.W.keepIn K (.ref f2) = true)
    (na2number : PySem.W.findIn K (.ref C2) "number" = some none)
    (aC3 : PySem.W.nsIn K mainGlobals "BadLine" = some (some (.ref C3)))
    (x3 : K.lookup C3 = some (excClassObj nm3 q3 C3 N3 bs3 mV true sn3 sub3 ab3 col3 dd3 x0_3 x1_3 x2_3 x3_3 x5_3 "ValueError.__new__"))
    (sa3 : PySem.W.findIn K (.ref C3) "__setattr__" = some (some (.builtin "object.__setattr__")))
    (ga3 : PySem.W.findIn K (.ref C3) "__getattribute__" = some (some (.builtin "BaseException.__getattribute__")))
    (gg3 : PySem.W.findIn K (.ref C3) "__getattr__" = some none)
    (ca3 : PySem.W.findIn K (.ref C3) "__class__" = some (some (.builtin "object.__class__")))
    (ty3 : PySem.W.typeIn K (.ref C3) = some (.type "type"))
    (kp3 : PySem.W.keepIn K (.ref C3) = true)
    (in3 : PySem.W.findIn K (.ref C3) "__init__" = some (some (.ref f3)))
    (tf3 : PySem.W.typeIn K (.ref f3) = some (.type "function"))
    (lf3 : K.lookup f3 = some ⟨oc3, od3, .func (PySem.W.fnOf "__init__" "BadLine.__init__" (defArgs s3) (defBody s3) (defScope s3) .none kV3 dc3 pm3 an3 cd3 ct3), sl3⟩)
    (cf3 : PySem.W.codeIn K cd3 "BadLine.__init__" = true)
    (kf3 : PySem.W.keepIn K (.ref f3) = true)
    (na3number : PySem.W.findIn K (.ref C3) "number" = some none)
    (aC4 : PySem.W.nsIn K mainGlobals "NoLoose" = some (some (.ref C4)))
    (x4 : K.lookup C4 = some (excClassObj nm4 q4 C4 N4 bs4 mV true sn4 sub4 ab4 col4 dd4 x0_4 x1_4 x2_4 x3_4 x5_4 "ValueError.__new__"))
    (sa4 : PySem.W.findIn K (.ref C4) "__setattr__" = some (some (.builtin "object.__setattr__")))
    (ga4 : PySem.W.findIn K (.ref C4) "__getattribute__" = some (some (.builtin "BaseException.__getattribute__")))
    (gg4 : PySem.W.findIn K (.ref C4) "__getattr__" = some none)
    (ca4 : PySem.W.findIn K (.ref C4) "__class__" = some (some (.builtin "object.__class__")))
    (ty4 : PySem.W.typeIn K (.ref C4) = some (.type "type"))
    (kp4 : PySem.W.keepIn K (.ref C4) = true)
    (in4 : PySem.W.findIn K (.ref C4) "__init__" = some (some (.ref f4)))
    (tf4 : PySem.W.typeIn K (.ref f4) = some (.type "function"))
    (lf4 : K.lookup f4 = some ⟨oc4, od4, .func (PySem.W.fnOf "__init__" "NoLoose.__init__" (defArgs s4) (defBody s4) (defScope s4) .none kV4 dc4 pm4 an4 cd4 ct4), sl4⟩)
    (cf4 : PySem.W.codeIn K cd4 "NoLoose.__init__" = true)
    (kf4 : PySem.W.keepIn K (.ref f4) = true)
    (na4number : PySem.W.findIn K (.ref C4) "number" = some none)
    (aC5 : PySem.W.nsIn K mainGlobals "NoCut" = some (some (.ref C5)))
    (x5 : K.lookup C5 = some (excClassObj nm5 q5 C5 N5 bs5 mV true sn5 sub5 ab5 col5 dd5 x0_5 x1_5 x2_5 x3_5 x5_5 "ValueError.__new__"))
    (sa5 : PySem.W.findIn K (.ref C5) "__setattr__" = some (some (.builtin "object.__setattr__")))
    (ga5 : PySem.W.findIn K (.ref C5) "__getattribute__" = some (some (.builtin "BaseException.__getattribute__")))
    (gg5 : PySem.W.findIn K (.ref C5) "__getattr__" = some none)
    (ca5 : PySem.W.findIn K (.ref C5) "__class__" = some (some (.builtin "object.__class__")))
    (ty5 : PySem.W.typeIn K (.ref C5) = some (.type "type"))
    (kp5 : PySem.W.keepIn K (.ref C5) = true)
    (in5 : PySem.W.findIn K (.ref C5) "__init__" = some (some (.ref f5)))
    (tf5 : PySem.W.typeIn K (.ref f5) = some (.type "function"))
    (lf5 : K.lookup f5 = some ⟨oc5, od5, .func (PySem.W.fnOf "__init__" "NoCut.__init__" (defArgs s5) (defBody s5) (defScope s5) .none kV5 dc5 pm5 an5 cd5 ct5), sl5⟩)
    (cf5 : PySem.W.codeIn K cd5 "NoCut.__init__" = true)
    (kf5 : PySem.W.keepIn K (.ref f5) = true)
    (na5block : PySem.W.findIn K (.ref C5) "block" = some none)
    (aC6 : PySem.W.nsIn K mainGlobals "NoHistory" = some (some (.ref C6)))
    (x6 : K.lookup C6 = some (excClassObj nm6 q6 C6 N6 bs6 mV true sn6 sub6 ab6 col6 dd6 x0_6 x1_6 x2_6 x3_6 x5_6 "ValueError.__new__"))
    (sa6 : PySem.W.findIn K (.ref C6) "__setattr__" = some (some (.builtin "object.__setattr__")))
    (ga6 : PySem.W.findIn K (.ref C6) "__getattribute__" = some (some (.builtin "BaseException.__getattribute__")))
    (gg6 : PySem.W.findIn K (.ref C6) "__getattr__" = some none)
    (ca6 : PySem.W.findIn K (.ref C6) "__class__" = some (some (.builtin "object.__class__")))
    (ty6 : PySem.W.typeIn K (.ref C6) = some (.type "type"))
    (kp6 : PySem.W.keepIn K (.ref C6) = true)
    (in6 : PySem.W.findIn K (.ref C6) "__init__" = some (some (.ref f6)))
    (tf6 : PySem.W.typeIn K (.ref f6) = some (.type "function"))
    (lf6 : K.lookup f6 = some ⟨oc6, od6, .func (PySem.W.fnOf "__init__" "NoHistory.__init__" (defArgs s6) (defBody s6) (defScope s6) .none kV6 dc6 pm6 an6 cd6 ct6), sl6⟩)
    (cf6 : PySem.W.codeIn K cd6 "NoHistory.__init__" = true)
    (kf6 : PySem.W.keepIn K (.ref f6) = true)
    (na6index : PySem.W.findIn K (.ref C6) "index" = some none)
    (aC7 : PySem.W.nsIn K mainGlobals "NoObject" = some (some (.ref C7)))
    (x7 : K.lookup C7 = some (excClassObj nm7 q7 C7 N7 bs7 mL true sn7 sub7 ab7 col7 dd7 x0_7 x1_7 x2_7 x3_7 x5_7 "LookupError.__new__"))
    (sa7 : PySem.W.findIn K (.ref C7) "__setattr__" = some (some (.builtin "object.__setattr__")))
    (ga7 : PySem.W.findIn K (.ref C7) "__getattribute__" = some (some (.builtin "BaseException.__getattribute__")))
    (gg7 : PySem.W.findIn K (.ref C7) "__getattr__" = some none)
    (ca7 : PySem.W.findIn K (.ref C7) "__class__" = some (some (.builtin "object.__class__")))
    (ty7 : PySem.W.typeIn K (.ref C7) = some (.type "type"))
    (kp7 : PySem.W.keepIn K (.ref C7) = true)
    (in7 : PySem.W.findIn K (.ref C7) "__init__" = some (some (.ref f7)))
    (tf7 : PySem.W.typeIn K (.ref f7) = some (.type "function"))
    (lf7 : K.lookup f7 = some ⟨oc7, od7, .func (PySem.W.fnOf "__init__" "NoObject.__init__" (defArgs s7) (defBody s7) (defScope s7) .none kV7 dc7 pm7 an7 cd7 ct7), sl7⟩)
    (cf7 : PySem.W.codeIn K cd7 "NoObject.__init__" = true)
    (kf7 : PySem.W.keepIn K (.ref f7) = true)
    (na7ref : PySem.W.findIn K (.ref C7) "ref" = some none)
    (aC8 : PySem.W.nsIn K mainGlobals "NoPlace" = some (some (.ref C8)))
    (x8 : K.lookup C8 = some (excClassObj nm8 q8 C8 N8 bs8 mL true sn8 sub8 ab8 col8 dd8 x0_8 x1_8 x2_8 x3_8 x5_8 "LookupError.__new__"))
    (sa8 : PySem.W.findIn K (.ref C8) "__setattr__" = some (some (.builtin "object.__setattr__")))
    (ga8 : PySem.W.findIn K (.ref C8) "__getattribute__" = some (some (.builtin "BaseException.__getattribute__")))
    (gg8 : PySem.W.findIn K (.ref C8) "__getattr__" = some none)
    (ca8 : PySem.W.findIn K (.ref C8) "__class__" = some (some (.builtin "object.__class__")))
    (ty8 : PySem.W.typeIn K (.ref C8) = some (.type "type"))
    (kp8 : PySem.W.keepIn K (.ref C8) = true)
    (in8 : PySem.W.findIn K (.ref C8) "__init__" = some (some (.ref f8)))
    (tf8 : PySem.W.typeIn K (.ref f8) = some (.type "function"))
    (lf8 : K.lookup f8 = some ⟨oc8, od8, .func (PySem.W.fnOf "__init__" "NoPlace.__init__" (defArgs s8) (defBody s8) (defScope s8) .none kV8 dc8 pm8 an8 cd8 ct8), sl8⟩)
    (cf8 : PySem.W.codeIn K cd8 "NoPlace.__init__" = true)
    (kf8 : PySem.W.keepIn K (.ref f8) = true)
    (na8place : PySem.W.findIn K (.ref C8) "place" = some none)
    (aC9 : PySem.W.nsIn K mainGlobals "NoBlock" = some (some (.ref C9)))
    (x9 : K.lookup C9 = some (excClassObj nm9 q9 C9 N9 bs9 mL true sn9 sub9 ab9 col9 dd9 x0_9 x1_9 x2_9 x3_9 x5_9 "LookupError.__new__"))
    (sa9 : PySem.W.findIn K (.ref C9) "__setattr__" = some (some (.builtin "object.__setattr__")))
    (ga9 : PySem.W.findIn K (.ref C9) "__getattribute__" = some (some (.builtin "BaseException.__getattribute__")))
    (gg9 : PySem.W.findIn K (.ref C9) "__getattr__" = some none)
    (ca9 : PySem.W.findIn K (.ref C9) "__class__" = some (some (.builtin "object.__class__")))
    (ty9 : PySem.W.typeIn K (.ref C9) = some (.type "type"))
    (kp9 : PySem.W.keepIn K (.ref C9) = true)
    (in9 : PySem.W.findIn K (.ref C9) "__init__" = some (some (.ref f9)))
    (tf9 : PySem.W.typeIn K (.ref f9) = some (.type "function"))
    (lf9 : K.lookup f9 = some ⟨oc9, od9, .func (PySem.W.fnOf "__init__" "NoBlock.__init__" (defArgs s9) (defBody s9) (defScope s9) .none kV9 dc9 pm9 an9 cd9 ct9), sl9⟩)
    (cf9 : PySem.W.codeIn K cd9 "NoBlock.__init__" = true)
    (kf9 : PySem.W.keepIn K (.ref f9) = true)
    (na9place : PySem.W.findIn K (.ref C9) "place" = some none)
    (aC10 : PySem.W.nsIn K mainGlobals "NoOutput" = some (some (.ref C10)))
    (x10 : K.lookup C10 = some (excClassObj nm10 q10 C10 N10 bs10 mL true sn10 sub10 ab10 col10 dd10 x0_10 x1_10 x2_10 x3_10 x5_10 "LookupError.__new__"))
    (sa10 : PySem.W.findIn K (.ref C10) "__setattr__" = some (some (.builtin "object.__setattr__")))
    (ga10 : PySem.W.findIn K (.ref C10) "__getattribute__" = some (some (.builtin "BaseException.__getattribute__")))
    (gg10 : PySem.W.findIn K (.ref C10) "__getattr__" = some none)
    (ca10 : PySem.W.findIn K (.ref C10) "__class__" = some (some (.builtin "object.__class__")))
    (ty10 : PySem.W.typeIn K (.ref C10) = some (.type "type"))
    (kp10 : PySem.W.keepIn K (.ref C10) = true)
    (in10 : PySem.W.findIn K (.ref C10) "__init__" = some (some (.ref f10)))
    (tf10 : PySem.W.typeIn K (.ref f10) = some (.type "function"))
    (lf10 : K.lookup f10 = some ⟨oc10, od10, .func (PySem.W.fnOf "__init__" "NoOutput.__init__" (defArgs s10) (defBody s10) (defScope s10) .none kV10 dc10 pm10 an10 cd10 ct10), sl10⟩)
    (cf10 : PySem.W.codeIn K cd10 "NoOutput.__init__" = true)
    (kf10 : PySem.W.keepIn K (.ref f10) = true)
    (na10number : PySem.W.findIn K (.ref C10) "number" = some none)
    (aC11 : PySem.W.nsIn K mainGlobals "Gone" = some (some (.ref C11)))
    (x11 : K.lookup C11 = some (excClassObj nm11 q11 C11 N11 bs11 mL true sn11 sub11 ab11 col11 dd11 x0_11 x1_11 x2_11 x3_11 x5_11 "LookupError.__new__"))
    (sa11 : PySem.W.findIn K (.ref C11) "__setattr__" = some (some (.builtin "object.__setattr__")))
    (ga11 : PySem.W.findIn K (.ref C11) "__getattribute__" = some (some (.builtin "BaseException.__getattribute__")))
    (gg11 : PySem.W.findIn K (.ref C11) "__getattr__" = some none)
    (ca11 : PySem.W.findIn K (.ref C11) "__class__" = some (some (.builtin "object.__class__")))
    (ty11 : PySem.W.typeIn K (.ref C11) = some (.type "type"))
    (kp11 : PySem.W.keepIn K (.ref C11) = true)
    (in11 : PySem.W.findIn K (.ref C11) "__init__" = some (some (.ref f11)))
    (tf11 : PySem.W.typeIn K (.ref f11) = some (.type "function"))
    (lf11 : K.lookup f11 = some ⟨oc11, od11, .func (PySem.W.fnOf "__init__" "Gone.__init__" (defArgs s11) (defBody s11) (defScope s11) .none kV11 dc11 pm11 an11 cd11 ct11), sl11⟩)
    (cf11 : PySem.W.codeIn K cd11 "Gone.__init__" = true)
    (kf11 : PySem.W.keepIn K (.ref f11) = true)
    (na11number : PySem.W.findIn K (.ref C11) "number" = some none)
    (aC12 : PySem.W.nsIn K mainGlobals "Refused" = some (some (.ref C12)))
    (x12 : K.lookup C12 = some (excClassObj nm12 q12 C12 N12 bs12 mR true sn12 sub12 ab12 col12 dd12 x0_12 x1_12 x2_12 x3_12 x5_12 "RuntimeError.__new__"))
    (sa12 : PySem.W.findIn K (.ref C12) "__setattr__" = some (some (.builtin "object.__setattr__")))
    (ga12 : PySem.W.findIn K (.ref C12) "__getattribute__" = some (some (.builtin "BaseException.__getattribute__")))
    (gg12 : PySem.W.findIn K (.ref C12) "__getattr__" = some none)
    (ca12 : PySem.W.findIn K (.ref C12) "__class__" = some (some (.builtin "object.__class__")))
    (ty12 : PySem.W.typeIn K (.ref C12) = some (.type "type"))
    (kp12 : PySem.W.keepIn K (.ref C12) = true)
    (in12 : PySem.W.findIn K (.ref C12) "__init__" = some (some (.ref f12)))
    (tf12 : PySem.W.typeIn K (.ref f12) = some (.type "function"))
    (lf12 : K.lookup f12 = some ⟨oc12, od12, .func (PySem.W.fnOf "__init__" "Refused.__init__" (defArgs s12) (defBody s12) (defScope s12) .none kV12 dc12 pm12 an12 cd12 ct12), sl12⟩)
    (cf12 : PySem.W.codeIn K cd12 "Refused.__init__" = true)
    (kf12 : PySem.W.keepIn K (.ref f12) = true)
    (na12task : PySem.W.findIn K (.ref C12) "task" = some none)
    (na12depth : PySem.W.findIn K (.ref C12) "depth" = some none)
    (na12word : PySem.W.findIn K (.ref C12) "word" = some none)
    (aC13 : PySem.W.nsIn K mainGlobals "Busy" = some (some (.ref C13)))
    (x13 : K.lookup C13 = some (excClassObj nm13 q13 C13 N13 bs13 mR true sn13 sub13 ab13 col13 dd13 x0_13 x1_13 x2_13 x3_13 x5_13 "RuntimeError.__new__"))
    (sa13 : PySem.W.findIn K (.ref C13) "__setattr__" = some (some (.builtin "object.__setattr__")))
    (ga13 : PySem.W.findIn K (.ref C13) "__getattribute__" = some (some (.builtin "BaseException.__getattribute__")))
    (gg13 : PySem.W.findIn K (.ref C13) "__getattr__" = some none)
    (ca13 : PySem.W.findIn K (.ref C13) "__class__" = some (some (.builtin "object.__class__")))
    (ty13 : PySem.W.typeIn K (.ref C13) = some (.type "type"))
    (kp13 : PySem.W.keepIn K (.ref C13) = true)
    (in13 : PySem.W.findIn K (.ref C13) "__init__" = some (some (.ref f13)))
    (tf13 : PySem.W.typeIn K (.ref f13) = some (.type "function"))
    (lf13 : K.lookup f13 = some ⟨oc13, od13, .func (PySem.W.fnOf "__init__" "Busy.__init__" (defArgs s13) (defBody s13) (defScope s13) .none kV13 dc13 pm13 an13 cd13 ct13), sl13⟩)
    (cf13 : PySem.W.codeIn K cd13 "Busy.__init__" = true)
    (kf13 : PySem.W.keepIn K (.ref f13) = true)
    (aC14 : PySem.W.nsIn K mainGlobals "Idle" = some (some (.ref C14)))
    (x14 : K.lookup C14 = some (excClassObj nm14 q14 C14 N14 bs14 mR true sn14 sub14 ab14 col14 dd14 x0_14 x1_14 x2_14 x3_14 x5_14 "RuntimeError.__new__"))
    (sa14 : PySem.W.findIn K (.ref C14) "__setattr__" = some (some (.builtin "object.__setattr__")))
    (ga14 : PySem.W.findIn K (.ref C14) "__getattribute__" = some (some (.builtin "BaseException.__getattribute__")))
    (gg14 : PySem.W.findIn K (.ref C14) "__getattr__" = some none)
    (ca14 : PySem.W.findIn K (.ref C14) "__class__" = some (some (.builtin "object.__class__")))
    (ty14 : PySem.W.typeIn K (.ref C14) = some (.type "type"))
    (kp14 : PySem.W.keepIn K (.ref C14) = true)
    (in14 : PySem.W.findIn K (.ref C14) "__init__" = some (some (.ref f14)))
    (tf14 : PySem.W.typeIn K (.ref f14) = some (.type "function"))
    (lf14 : K.lookup f14 = some ⟨oc14, od14, .func (PySem.W.fnOf "__init__" "Idle.__init__" (defArgs s14) (defBody s14) (defScope s14) .none kV14 dc14 pm14 an14 cd14 ct14), sl14⟩)
    (cf14 : PySem.W.codeIn K cd14 "Idle.__init__" = true)
    (kf14 : PySem.W.keepIn K (.ref f14) = true)
    (aC15 : PySem.W.nsIn K mainGlobals "Stopped" = some (some (.ref C15)))
    (x15 : K.lookup C15 = some (excClassObj nm15 q15 C15 N15 bs15 mR true sn15 sub15 ab15 col15 dd15 x0_15 x1_15 x2_15 x3_15 x5_15 "RuntimeError.__new__"))
    (sa15 : PySem.W.findIn K (.ref C15) "__setattr__" = some (some (.builtin "object.__setattr__")))
    (ga15 : PySem.W.findIn K (.ref C15) "__getattribute__" = some (some (.builtin "BaseException.__getattribute__")))
    (gg15 : PySem.W.findIn K (.ref C15) "__getattr__" = some none)
    (ca15 : PySem.W.findIn K (.ref C15) "__class__" = some (some (.builtin "object.__class__")))
    (ty15 : PySem.W.typeIn K (.ref C15) = some (.type "type"))
    (kp15 : PySem.W.keepIn K (.ref C15) = true)
    (in15 : PySem.W.findIn K (.ref C15) "__init__" = some (some (.ref f15)))
    (tf15 : PySem.W.typeIn K (.ref f15) = some (.type "function"))
    (lf15 : K.lookup f15 = some ⟨oc15, od15, .func (PySem.W.fnOf "__init__" "Stopped.__init__" (defArgs s15) (defBody s15) (defScope s15) .none kV15 dc15 pm15 an15 cd15 ct15), sl15⟩)
    (cf15 : PySem.W.codeIn K cd15 "Stopped.__init__" = true)
    (kf15 : PySem.W.keepIn K (.ref f15) = true)
    (aC16 : PySem.W.nsIn K mainGlobals "NoRoot" = some (some (.ref C16)))
    (x16 : K.lookup C16 = some (excClassObj nm16 q16 C16 N16 bs16 mR true sn16 sub16 ab16 col16 dd16 x0_16 x1_16 x2_16 x3_16 x5_16 "RuntimeError.__new__"))
    (sa16 : PySem.W.findIn K (.ref C16) "__setattr__" = some (some (.builtin "object.__setattr__")))
    (ga16 : PySem.W.findIn K (.ref C16) "__getattribute__" = some (some (.builtin "BaseException.__getattribute__")))
    (gg16 : PySem.W.findIn K (.ref C16) "__getattr__" = some none)
    (ca16 : PySem.W.findIn K (.ref C16) "__class__" = some (some (.builtin "object.__class__")))
    (ty16 : PySem.W.typeIn K (.ref C16) = some (.type "type"))
    (kp16 : PySem.W.keepIn K (.ref C16) = true)
    (in16 : PySem.W.findIn K (.ref C16) "__init__" = some (some (.ref f16)))
    (tf16 : PySem.W.typeIn K (.ref f16) = some (.type "function"))
    (lf16 : K.lookup f16 = some ⟨oc16, od16, .func (PySem.W.fnOf "__init__" "NoRoot.__init__" (defArgs s16) (defBody s16) (defScope s16) .none kV16 dc16 pm16 an16 cd16 ct16), sl16⟩)
    (cf16 : PySem.W.codeIn K cd16 "NoRoot.__init__" = true)
    (kf16 : PySem.W.keepIn K (.ref f16) = true)
    (aC17 : PySem.W.nsIn K mainGlobals "Full" = some (some (.ref C17)))
    (x17 : K.lookup C17 = some (excClassObj nm17 q17 C17 N17 bs17 mO true sn17 sub17 ab17 col17 dd17 x0_17 x1_17 x2_17 x3_17 x5_17 "OverflowError.__new__"))
    (sa17 : PySem.W.findIn K (.ref C17) "__setattr__" = some (some (.builtin "object.__setattr__")))
    (ga17 : PySem.W.findIn K (.ref C17) "__getattribute__" = some (some (.builtin "BaseException.__getattribute__")))
    (gg17 : PySem.W.findIn K (.ref C17) "__getattr__" = some none)
    (ca17 : PySem.W.findIn K (.ref C17) "__class__" = some (some (.builtin "object.__class__")))
    (ty17 : PySem.W.typeIn K (.ref C17) = some (.type "type"))
    (kp17 : PySem.W.keepIn K (.ref C17) = true)
    (in17 : PySem.W.findIn K (.ref C17) "__init__" = some (some (.ref f17)))
    (tf17 : PySem.W.typeIn K (.ref f17) = some (.type "function"))
    (lf17 : K.lookup f17 = some ⟨oc17, od17, .func (PySem.W.fnOf "__init__" "Full.__init__" (defArgs s17) (defBody s17) (defScope s17) .none kV17 dc17 pm17 an17 cd17 ct17), sl17⟩)
    (cf17 : PySem.W.codeIn K cd17 "Full.__init__" = true)
    (kf17 : PySem.W.keepIn K (.ref f17) = true)
    (na17count : PySem.W.findIn K (.ref C17) "count" = some none)
    (biV : PySem.W.findCls K (.type "ValueError") (.type "type") "__init__" = some (.val (.builtin "ValueError.__init__")))
    (biL : PySem.W.findCls K (.type "LookupError") (.type "type") "__init__" = some (.val (.builtin "LookupError.__init__")))
    (biR : PySem.W.findCls K (.type "RuntimeError") (.type "type") "__init__" = some (.val (.builtin "RuntimeError.__init__")))
    (biO : PySem.W.findCls K (.type "OverflowError") (.type "type") "__init__" = some (.val (.builtin "OverflowError.__init__")))
    (cg : PySem.W.specialIn K (.builtin "object.__class__") "__get__" = some (some (.builtin "getset_descriptor.__get__")))
    (ct : PySem.W.takesIn K (.builtin "object.__class__") = some true)
    (noisinstance : PySem.W.nsIn K mainGlobals "isinstance" = some none)
    (norepr : PySem.W.nsIn K mainGlobals "repr" = some none)
    (noValueError : PySem.W.nsIn K mainGlobals "ValueError" = some none)
    (noLookupError : PySem.W.nsIn K mainGlobals "LookupError" = some none)
    (noRuntimeError : PySem.W.nsIn K mainGlobals "RuntimeError" = some none)
    (noOverflowError : PySem.W.nsIn K mainGlobals "OverflowError" = some none)
    (noKeyError : PySem.W.nsIn K mainGlobals "KeyError" = some none)
    (noIndexError : PySem.W.nsIn K mainGlobals "IndexError" = some none)
    (noNotImplementedError : PySem.W.nsIn K mainGlobals "NotImplementedError" = some none)
    (nolist : PySem.W.nsIn K mainGlobals "list" = some none)
    (noenumerate : PySem.W.nsIn K mainGlobals "enumerate" = some none)
    (noint : PySem.W.nsIn K mainGlobals "int" = some none)
    (norange : PySem.W.nsIn K mainGlobals "range" = some none)
    (nostr : PySem.W.nsIn K mainGlobals "str" = some none)
    (noall : PySem.W.nsIn K mainGlobals "all" = some none)
    (noabs : PySem.W.nsIn K mainGlobals "abs" = some none)
    (liLIMIT : PySem.W.nsIn K mainGlobals "LIMIT" = some (some (.int 1000000000000 t1)))
    (liDEPTH : PySem.W.nsIn K mainGlobals "DEPTH" = some (some (.int 20 t2)))
    (liQUANTUM : PySem.W.nsIn K mainGlobals "QUANTUM" = some (some (.int 6 t3)))
    (liPAGE : PySem.W.nsIn K mainGlobals "PAGE" = some (some (.int 8 t4)))
    (liFAN : PySem.W.nsIn K mainGlobals "FAN" = some (some (.int 4 t5)))
    (liWIDTH : PySem.W.nsIn K mainGlobals "WIDTH" = some (some (.int 24 t6)))
    (liLOG_BLOCKS : PySem.W.nsIn K mainGlobals "LOG_BLOCKS" = some (some (.int 16 t7)))
    (aCells : PySem.W.nsIn K mainGlobals "_law_cells" = some (some (.ref gCells)))
    (lCells : K.lookup gCells = some ⟨ocCells, odCells, .func (PySem.W.fnOf "_law_cells" "_law_cells" (defArgs sCells) (defBody sCells) (defScope sCells) .none kVCells dcCells pmCells anCells cdCells ctCells), slCells⟩)
    (cCells : PySem.W.codeIn K cdCells "_law_cells" = true)
    (kCells : PySem.W.keepIn K (.ref gCells) = true)
    (aSame : PySem.W.nsIn K mainGlobals "_law_same" = some (some (.ref gSame)))
    (lSame : K.lookup gSame = some ⟨ocSame, odSame, .func (PySem.W.fnOf "_law_same" "_law_same" (defArgs sSame) (defBody sSame) (defScope sSame) .none kVSame dcSame pmSame anSame cdSame ctSame), slSame⟩)
    (cSame : PySem.W.codeIn K cdSame "_law_same" = true)
    (kSame : PySem.W.keepIn K (.ref gSame) = true)
    (aKinds : PySem.W.nsIn K mainGlobals "_law_kinds" = some (some (.ref gKinds)))
    (lKinds : K.lookup gKinds = some ⟨ocKinds, odKinds, .func (PySem.W.fnOf "_law_kinds" "_law_kinds" (defArgs sKinds) (defBody sKinds) (defScope sKinds) .none kVKinds dcKinds pmKinds anKinds cdKinds ctKinds), slKinds⟩)
    (cKinds : PySem.W.codeIn K cdKinds "_law_kinds" = true)
    (kKinds : PySem.W.keepIn K (.ref gKinds) = true)
    (aBases : PySem.W.nsIn K mainGlobals "_law_bases" = some (some (.ref gBases)))
    (lBases : K.lookup gBases = some ⟨ocBases, odBases, .func (PySem.W.fnOf "_law_bases" "_law_bases" (defArgs sBases) (defBody sBases) (defScope sBases) .none kVBases dcBases pmBases anBases cdBases ctBases), slBases⟩)
    (cBases : PySem.W.codeIn K cdBases "_law_bases" = true)
    (kBases : PySem.W.keepIn K (.ref gBases) = true)
    (aRight : PySem.W.nsIn K mainGlobals "_law_right" = some (some (.ref gRight)))
    (lRight : K.lookup gRight = some ⟨ocRight, odRight, .func (PySem.W.fnOf "_law_right" "_law_right" (defArgs sRight) (defBody sRight) (defScope sRight) .none kVRight dcRight pmRight anRight cdRight ctRight), slRight⟩)
    (cRight : PySem.W.codeIn K cdRight "_law_right" = true)
    (kRight : PySem.W.keepIn K (.ref gRight) = true)
    (aLaw : PySem.W.nsIn K mainGlobals "law" = some (some (.ref gLaw)))
    (lLaw : K.lookup gLaw = some ⟨ocLaw, odLaw, .func (PySem.W.fnOf "law" "law" (defArgs sLaw) (defBody sLaw) (defScope sLaw) .none kVLaw dcLaw pmLaw anLaw cdLaw ctLaw), slLaw⟩)
    (cLaw : PySem.W.codeIn K cdLaw "law" = true)
    (kLaw : PySem.W.keepIn K (.ref gLaw) = true)
    (nd : ([C0, C1, C2, C3, C4, C5, C6, C7, C8, C9, C10, C11, C12, C13, C14, C15, C16, C17] : List Addr).Nodup) :
    ∃ fd : FuncData, (∀ (s : Shared) (u : Value), BindsTo s fd ⟨[u], []⟩ [("_law_script", u)]) ∧ ∀ base : Heap, K.In base → base.Ns mainGlobals mg → FnG P w K mg base CX0 4 fa fd ["_law_script"] (spLaw K) := by
  have e := hfa.symm.trans (PySem.W.mg_of X G aLaw)
  cases e
  have E0 : ExK K C0 "ValueError.__new__" mV := Cf.ex ⟨sa0, ga0, gg0, ca0, ty0, kp0⟩ x0
  have E1 : ExK K C1 "ValueError.__new__" mV := Cf.ex ⟨sa1, ga1, gg1, ca1, ty1, kp1⟩ x1
  have E2 : ExK K C2 "ValueError.__new__" mV := Cf.ex ⟨sa2, ga2, gg2, ca2, ty2, kp2⟩ x2
  have E3 : ExK K C3 "ValueError.__new__" mV := Cf.ex ⟨sa3, ga3, gg3, ca3, ty3, kp3⟩ x3
  have E4 : ExK K C4 "ValueError.__new__" mV := Cf.ex ⟨sa4, ga4, gg4, ca4, ty4, kp4⟩ x4
  have E5 : ExK K C5 "ValueError.__new__" mV := Cf.ex ⟨sa5, ga5, gg5, ca5, ty5, kp5⟩ x5
  have E6 : ExK K C6 "ValueError.__new__" mV := Cf.ex ⟨sa6, ga6, gg6, ca6, ty6, kp6⟩ x6
  have E7 : ExK K C7 "LookupError.__new__" mL := Cf.ex ⟨sa7, ga7, gg7, ca7, ty7, kp7⟩ x7
  have E8 : ExK K C8 "LookupError.__new__" mL := Cf.ex ⟨sa8, ga8, gg8, ca8, ty8, kp8⟩ x8
  have E9 : ExK K C9 "LookupError.__new__" mL := Cf.ex ⟨sa9, ga9, gg9, ca9, ty9, kp9⟩ x9
  have E10 : ExK K C10 "LookupError.__new__" mL := Cf.ex ⟨sa10, ga10, gg10, ca10, ty10, kp10⟩ x10
  have E11 : ExK K C11 "LookupError.__new__" mL := Cf.ex ⟨sa11, ga11, gg11, ca11, ty11, kp11⟩ x11
  have E12 : ExK K C12 "RuntimeError.__new__" mR := Cf.ex ⟨sa12, ga12, gg12, ca12, ty12, kp12⟩ x12
  have E13 : ExK K C13 "RuntimeError.__new__" mR := Cf.ex ⟨sa13, ga13, gg13, ca13, ty13, kp13⟩ x13
  have E14 : ExK K C14 "RuntimeError.__new__" mR := Cf.ex ⟨sa14, ga14, gg14, ca14, ty14, kp14⟩ x14
  have E15 : ExK K C15 "RuntimeError.__new__" mR := Cf.ex ⟨sa15, ga15, gg15, ca15, ty15, kp15⟩ x15
  have E16 : ExK K C16 "RuntimeError.__new__" mR := Cf.ex ⟨sa16, ga16, gg16, ca16, ty16, kp16⟩ x16
  have E17 : ExK K C17 "OverflowError.__new__" mO := Cf.ex ⟨sa17, ga17, gg17, ca17, ty17, kp17⟩ x17
  have BV : BaseK K mg "ValueError" "ValueError" "ValueError.__init__" := ⟨PySem.W.mg_none_of X G noValueError, biV⟩
  have BL : BaseK K mg "LookupError" "LookupError" "LookupError.__init__" := ⟨PySem.W.mg_none_of X G noLookupError, biL⟩
  have BR : BaseK K mg "RuntimeError" "RuntimeError" "RuntimeError.__init__" := ⟨PySem.W.mg_none_of X G noRuntimeError, biR⟩
  have BO : BaseK K mg "OverflowError" "OverflowError" "OverflowError.__init__" := ⟨PySem.W.mg_none_of X G noOverflowError, biO⟩
  let c : Nat → Addr := fun j => ([C0, C1, C2, C3, C4, C5, C6, C7, C8, C9, C10, C11, C12, C13, C14, C15, C16, C17] : List Addr).getD j 0
  have noR : ∀ (b : List Value) (a : Addr), (b = mV ∨ b = mL ∨ b = mR ∨ b = mO) → b.contains (.ref a) = false := by
    rintro b a (rfl | rfl | rfl | rfl) <;> rfl
  have EX : ∀ j, j < 18 → ∃ newId bm, ExK K (c j) newId bm ∧ (bm = mV ∨ bm = mL ∨ bm = mR ∨ bm = mO) := fun j hj => match j, hj with
    | 0, _ => ⟨_, _, E0, .inl rfl⟩
    | 1, _ => ⟨_, _, E1, .inl rfl⟩
    | 2, _ => ⟨_, _, E2, .inl rfl⟩
    | 3, _ => ⟨_, _, E3, .inl rfl⟩
    | 4, _ => ⟨_, _, E4, .inl rfl⟩
    | 5, _ => ⟨_, _, E5, .inl rfl⟩
    | 6, _ => ⟨_, _, E6, .inl rfl⟩
    | 7, _ => ⟨_, _, E7, .inr (.inl rfl)⟩
    | 8, _ => ⟨_, _, E8, .inr (.inl rfl)⟩
    | 9, _ => ⟨_, _, E9, .inr (.inl rfl)⟩
    | 10, _ => ⟨_, _, E10, .inr (.inl rfl)⟩
    | 11, _ => ⟨_, _, E11, .inr (.inl rfl)⟩
    | 12, _ => ⟨_, _, E12, .inr (.inr (.inl rfl))⟩
    | 13, _ => ⟨_, _, E13, .inr (.inr (.inl rfl))⟩
    | 14, _ => ⟨_, _, E14, .inr (.inr (.inl rfl))⟩
    | 15, _ => ⟨_, _, E15, .inr (.inr (.inl rfl))⟩
    | 16, _ => ⟨_, _, E16, .inr (.inr (.inl rfl))⟩
    | 17, _ => ⟨_, _, E17, .inr (.inr (.inr rfl))⟩
    | j + 18, hj => absurd hj (by omega)
  have tV_ : ∀ j, j < 18 → PySem.W.kitOne K (.ref (c j)) (.type "ValueError") = some (decide (j < 7)) := fun j hj => match j, hj with
    | 0, _ => E0.isTy (by decide +kernel) (by decide +kernel)
    | 1, _ => E1.isTy (by decide +kernel) (by decide +kernel)
    | 2, _ => E2.isTy (by decide +kernel) (by decide +kernel)
    | 3, _ => E3.isTy (by decide +kernel) (by decide +kernel)
    | 4, _ => E4.isTy (by decide +kernel) (by decide +kernel)
    | 5, _ => E5.isTy (by decide +kernel) (by decide +kernel)
    | 6, _ => E6.isTy (by decide +kernel) (by decide +kernel)
    | 7, _ => E7.isTy (by decide +kernel) (by decide +kernel)
    | 8, _ => E8.isTy (by decide +kernel) (by decide +kernel)
    | 9, _ => E9.isTy (by decide +kernel) (by decide +kernel)
    | 10, _ => E10.isTy (by decide +kernel) (by decide +kernel)
    | 11, _ => E11.isTy (by decide +kernel) (by decide +kernel)
    | 12, _ => E12.isTy (by decide +kernel) (by decide +kernel)
    | 13, _ => E13.isTy (by decide +kernel) (by decide +kernel)
    | 14, _ => E14.isTy (by decide +kernel) (by decide +kernel)
    | 15, _ => E15.isTy (by decide +kernel) (by decide +kernel)
    | 16, _ => E16.isTy (by decide +kernel) (by decide +kernel)
    | 17, _ => E17.isTy (by decide +kernel) (by decide +kernel)
    | j + 18, hj => absurd hj (by omega)
  have tL_ : ∀ j, j < 18 → PySem.W.kitOne K (.ref (c j)) (.type "LookupError") = some (decide (6 < j ∧ j < 12)) := fun j hj => match j, hj with
    | 0, _ => E0.isTy (by decide +kernel) (by decide +kernel)
    | 1, _ => E1.isTy (by decide +kernel) (by decide +kernel)
    | 2, _ => E2.isTy (by decide +kernel) (by decide +kernel)
    | 3, _ => E3.isTy (by decide +kernel) (by decide +kernel)
    | 4, _ => E4.isTy (by decide +kernel) (by decide +kernel)
    | 5, _ => E5.isTy (by decide +kernel) (by decide +kernel)
    | 6, _ => E6.isTy (by decide +kernel) (by decide +kernel)
    | 7, _ => E7.isTy (by decide +kernel) (by decide +kernel)
    | 8, _ => E8.isTy (by decide +kernel) (by decide +kernel)
    | 9, _ => E9.isTy (by decide +kernel) (by decide +kernel)
    | 10, _ => E10.isTy (by decide +kernel) (by decide +kernel)
    | 11, _ => E11.isTy (by decide +kernel) (by decide +kernel)
    | 12, _ => E12.isTy (by decide +kernel) (by decide +kernel)
    | 13, _ => E13.isTy (by decide +kernel) (by decide +kernel)
    | 14, _ => E14.isTy (by decide +kernel) (by decide +kernel)
    | 15, _ => E15.isTy (by decide +kernel) (by decide +kernel)
    | 16, _ => E16.isTy (by decide +kernel) (by decide +kernel)
    | 17, _ => E17.isTy (by decide +kernel) (by decide +kernel)
    | j + 18, hj => absurd hj (by omega)
  have tR_ : ∀ j, j < 18 → PySem.W.kitOne K (.ref (c j)) (.type "RuntimeError") = some (decide (11 < j ∧ j < 17)) := fun j hj => match j, hj with
    | 0, _ => E0.isTy (by decide +kernel) (by decide +kernel)
    | 1, _ => E1.isTy (by decide +kernel) (by decide +kernel)
    | 2, _ => E2.isTy (by decide +kernel) (by decide +kernel)
    | 3, _ => E3.isTy (by decide +kernel) (by decide +kernel)
    | 4, _ => E4.isTy (by decide +kernel) (by decide +kernel)
    | 5, _ => E5.isTy (by decide +kernel) (by decide +kernel)
    | 6, _ => E6.isTy (by decide +kernel) (by decide +kernel)
    | 7, _ => E7.isTy (by decide +kernel) (by decide +kernel)
    | 8, _ => E8.isTy (by decide +kernel) (by decide +kernel)
    | 9, _ => E9.isTy (by decide +kernel) (by decide +kernel)
    | 10, _ => E10.isTy (by decide +kernel) (by decide +kernel)
    | 11, _ => E11.isTy (by decide +kernel) (by decide +kernel)
    | 12, _ => E12.isTy (by decide +kernel) (by decide +kernel)
    | 13, _ => E13.isTy (by decide +kernel) (by decide +kernel)
    | 14, _ => E14.isTy (by decide +kernel) (by decide +kernel)
    | 15, _ => E15.isTy (by decide +kernel) (by decide +kernel)
    | 16, _ => E16.isTy (by decide +kernel) (by decide +kernel)
    | 17, _ => E17.isTy (by decide +kernel) (by decide +kernel)
    | j + 18, hj => absurd hj (by omega)
  have tO_ : ∀ j, j < 18 → PySem.W.kitOne K (.ref (c j)) (.type "OverflowError") = some (decide (16 < j)) := fun j hj => match j, hj with
    | 0, _ => E0.isTy (by decide +kernel) (by decide +kernel)
    | 1, _ => E1.isTy (by decide +kernel) (by decide +kernel)
    | 2, _ => E2.isTy (by decide +kernel) (by decide +kernel)
    | 3, _ => E3.isTy (by decide +kernel) (by decide +kernel)
    | 4, _ => E4.isTy (by decide +kernel) (by decide +kernel)
    | 5, _ => E5.isTy (by decide +kernel) (by decide +kernel)
    | 6, _ => E6.isTy (by decide +kernel) (by decide +kernel)
    | 7, _ => E7.isTy (by decide +kernel) (by decide +kernel)
    | 8, _ => E8.isTy (by decide +kernel) (by decide +kernel)
    | 9, _ => E9.isTy (by decide +kernel) (by decide +kernel)
    | 10, _ => E10.isTy (by decide +kernel) (by decide +kernel)
    | 11, _ => E11.isTy (by decide +kernel) (by decide +kernel)
    | 12, _ => E12.isTy (by decide +kernel) (by decide +kernel)
    | 13, _ => E13.isTy (by decide +kernel) (by decide +kernel)
    | 14, _ => E14.isTy (by decide +kernel) (by decide +kernel)
    | 15, _ => E15.isTy (by decide +kernel) (by decide +kernel)
    | 16, _ => E16.isTy (by decide +kernel) (by decide +kernel)
    | 17, _ => E17.isTy (by decide +kernel) (by decide +kernel)
    | j + 18, hj => absurd hj (by omega)
  have tM_ : ∀ j, j < 18 → PySem.W.kitAny K (.ref (c j)) [.type "KeyError", .type "IndexError", .type "NotImplementedError"] = some false := fun j hj => match j, hj with
    | 0, _ => kitAny_cons (E0.isTy (r := false) (by decide +kernel) (by decide +kernel)) (fun _ => kitAny_cons (E0.isTy (r := false) (by decide +kernel) (by decide +kernel)) (fun _ => kitAny_cons (E0.isTy (r := false) (by decide +kernel) (by decide +kernel)) (fun _ => kitAny_nil) (fun z => nomatch z)) (fun z => nomatch z)) (fun z => nomatch z)
    | 1, _ => kitAny_cons (E1.isTy (r := false) (by decide +kernel) (by decide +kernel)) (fun _ => kitAny_cons (E1.isTy (r := false) (by decide +kernel) (by decide +kernel)) (fun _ => kitAny_cons (E1.isTy (r := false) (by decide +kernel) (by decide +kernel)) (fun _ => kitAny_nil) (fun z => nomatch z)) (fun z => nomatch z)) (fun z => nomatch z)
    | 2, _ => kitAny_cons (E2.isTy (r := false) (by decide +kernel) (by decide +kernel)) (fun _ => kitAny_cons (E2.isTy (r := false) (by decide +kernel) (by decide +kernel)) (fun _ => kitAny_cons (E2.isTy (r := false) (by decide +kernel) (by decide +kernel)) (fun _ => kitAny_nil) (fun z => nomatch z)) (fun z => nomatch z)) (fun z => nomatch z)
    | 3, _ => kitAny_cons (E3.isTy (r := false) (by decide +kernel) (by decide +kernel)) (fun _ => kitAny_cons (E3.isTy (r := false) (by decide +kernel) (by decide +kernel)) (fun _ => kitAny_cons (E3.isTy (r := false) (by decide +kernel) (by decide +kernel)) (fun _ => kitAny_nil) (fun z => nomatch z)) (fun z => nomatch z)) (fun z => nomatch z)
    | 4, _ => kitAny_cons (E4.isTy (r := false) (by decide +kernel) (by decide +kernel)) (fun _ => kitAny_cons (E4.isTy (r := false) (by decide +kernel) (by decide +kernel)) (fun _ => kitAny_cons (E4.isTy (r := false) (by decide +kernel) (by decide +kernel)) (fun _ => kitAny_nil) (fun z => nomatch z)) (fun z => nomatch z)) (fun z => nomatch z)
    | 5, _ => kitAny_cons (E5.isTy (r := false) (by decide +kernel) (by decide +kernel)) (fun _ => kitAny_cons (E5.isTy (r := false) (by decide +kernel) (by decide +kernel)) (fun _ => kitAny_cons (E5.isTy (r := false) (by decide +kernel) (by decide +kernel)) (fun _ => kitAny_nil) (fun z => nomatch z)) (fun z => nomatch z)) (fun z => nomatch z)
    | 6, _ => kitAny_cons (E6.isTy (r := false) (by decide +kernel) (by decide +kernel)) (fun _ => kitAny_cons (E6.isTy (r := false) (by decide +kernel) (by decide +kernel)) (fun _ => kitAny_cons (E6.isTy (r := false) (by decide +kernel) (by decide +kernel)) (fun _ => kitAny_nil) (fun z => nomatch z)) (fun z => nomatch z)) (fun z => nomatch z)
    | 7, _ => kitAny_cons (E7.isTy (r := false) (by decide +kernel) (by decide +kernel)) (fun _ => kitAny_cons (E7.isTy (r := false) (by decide +kernel) (by decide +kernel)) (fun _ => kitAny_cons (E7.isTy (r := false) (by decide +kernel) (by decide +kernel)) (fun _ => kitAny_nil) (fun z => nomatch z)) (fun z => nomatch z)) (fun z => nomatch z)
    | 8, _ => kitAny_cons (E8.isTy (r := false) (by decide +kernel) (by decide +kernel)) (fun _ => kitAny_cons (E8.isTy (r := false) (by decide +kernel) (by decide +kernel)) (fun _ => kitAny_cons (E8.isTy (r := false) (by decide +kernel) (by decide +kernel)) (fun _ => kitAny_nil) (fun z => nomatch z)) (fun z => nomatch z)) (fun z => nomatch z)
    | 9, _ => kitAny_cons (E9.isTy (r := false) (by decide +kernel) (by decide +kernel)) (fun _ => kitAny_cons (E9.isTy (r := false) (by decide +kernel) (by decide +kernel)) (fun _ => kitAny_cons (E9.isTy (r := false) (by decide +kernel) (by decide +kernel)) (fun _ => kitAny_nil) (fun z => nomatch z)) (fun z => nomatch z)) (fun z => nomatch z)
    | 10, _ => kitAny_cons (E10.isTy (r := false) (by decide +kernel) (by decide +kernel)) (fun _ => kitAny_cons (E10.isTy (r := false) (by decide +kernel) (by decide +kernel)) (fun _ => kitAny_cons (E10.isTy (r := false) (by decide +kernel) (by decide +kernel)) (fun _ => kitAny_nil) (fun z => nomatch z)) (fun z => nomatch z)) (fun z => nomatch z)
    | 11, _ => kitAny_cons (E11.isTy (r := false) (by decide +kernel) (by decide +kernel)) (fun _ => kitAny_cons (E11.isTy (r := false) (by decide +kernel) (by decide +kernel)) (fun _ => kitAny_cons (E11.isTy (r := false) (by decide +kernel) (by decide +kernel)) (fun _ => kitAny_nil) (fun z => nomatch z)) (fun z => nomatch z)) (fun z => nomatch z)
    | 12, _ => kitAny_cons (E12.isTy (r := false) (by decide +kernel) (by decide +kernel)) (fun _ => kitAny_cons (E12.isTy (r := false) (by decide +kernel) (by decide +kernel)) (fun _ => kitAny_cons (E12.isTy (r := false) (by decide +kernel) (by decide +kernel)) (fun _ => kitAny_nil) (fun z => nomatch z)) (fun z => nomatch z)) (fun z => nomatch z)
    | 13, _ => kitAny_cons (E13.isTy (r := false) (by decide +kernel) (by decide +kernel)) (fun _ => kitAny_cons (E13.isTy (r := false) (by decide +kernel) (by decide +kernel)) (fun _ => kitAny_cons (E13.isTy (r := false) (by decide +kernel) (by decide +kernel)) (fun _ => kitAny_nil) (fun z => nomatch z)) (fun z => nomatch z)) (fun z => nomatch z)
    | 14, _ => kitAny_cons (E14.isTy (r := false) (by decide +kernel) (by decide +kernel)) (fun _ => kitAny_cons (E14.isTy (r := false) (by decide +kernel) (by decide +kernel)) (fun _ => kitAny_cons (E14.isTy (r := false) (by decide +kernel) (by decide +kernel)) (fun _ => kitAny_nil) (fun z => nomatch z)) (fun z => nomatch z)) (fun z => nomatch z)
    | 15, _ => kitAny_cons (E15.isTy (r := false) (by decide +kernel) (by decide +kernel)) (fun _ => kitAny_cons (E15.isTy (r := false) (by decide +kernel) (by decide +kernel)) (fun _ => kitAny_cons (E15.isTy (r := false) (by decide +kernel) (by decide +kernel)) (fun _ => kitAny_nil) (fun z => nomatch z)) (fun z => nomatch z)) (fun z => nomatch z)
    | 16, _ => kitAny_cons (E16.isTy (r := false) (by decide +kernel) (by decide +kernel)) (fun _ => kitAny_cons (E16.isTy (r := false) (by decide +kernel) (by decide +kernel)) (fun _ => kitAny_cons (E16.isTy (r := false) (by decide +kernel) (by decide +kernel)) (fun _ => kitAny_nil) (fun z => nomatch z)) (fun z => nomatch z)) (fun z => nomatch z)
    | 17, _ => kitAny_cons (E17.isTy (r := false) (by decide +kernel) (by decide +kernel)) (fun _ => kitAny_cons (E17.isTy (r := false) (by decide +kernel) (by decide +kernel)) (fun _ => kitAny_cons (E17.isTy (r := false) (by decide +kernel) (by decide +kernel)) (fun _ => kitAny_nil) (fun z => nomatch z)) (fun z => nomatch z)) (fun z => nomatch z)
    | j + 18, hj => absurd hj (by omega)
  have inj : ∀ i j, i < 18 → j < 18 → c i = c j → i = j := fun i j hi hj e => nd_ix nd (i := i) (j := j) (x := c i) (by
      show _ = some (List.getD _ i 0)
      rw [List.getD_eq_getElem?_getD, List.getElem?_eq_getElem hi]; rfl) (by
      rw [e]
      show _ = some (List.getD _ j 0)
      rw [List.getD_eq_getElem?_getD, List.getElem?_eq_getElem hj]; rfl)
  have own_ : ∀ i j, i < 18 → j < 18 → PySem.W.kitOne K (.ref (c j)) (.ref (c i)) = some (decide (i = j)) := fun i j hi hj => by
    by_cases h : i = j
    · subst h
      rw [decide_eq_true rfl]
      obtain ⟨n1, b1, e1, _⟩ := EX i hi
      exact e1.isMe
    · rw [decide_eq_false h]
      obtain ⟨n1, b1, e1, w1⟩ := EX i hi
      obtain ⟨n2, b2, e2, w2⟩ := EX j hj
      exact e2.isNo e1 (fun z => h (inj i j hi hj z)) (fun a => noR _ a w2)
  have ex_ : ∀ j, j < 18 → IsEx K (c j) := fun j hj => match j, hj with
    | 0, _ => ⟨_, _, _, _, base_V, E0⟩
    | 1, _ => ⟨_, _, _, _, base_V, E1⟩
    | 2, _ => ⟨_, _, _, _, base_V, E2⟩
    | 3, _ => ⟨_, _, _, _, base_V, E3⟩
    | 4, _ => ⟨_, _, _, _, base_V, E4⟩
    | 5, _ => ⟨_, _, _, _, base_V, E5⟩
    | 6, _ => ⟨_, _, _, _, base_V, E6⟩
    | 7, _ => ⟨_, _, _, _, base_L, E7⟩
    | 8, _ => ⟨_, _, _, _, base_L, E8⟩
    | 9, _ => ⟨_, _, _, _, base_L, E9⟩
    | 10, _ => ⟨_, _, _, _, base_L, E10⟩
    | 11, _ => ⟨_, _, _, _, base_L, E11⟩
    | 12, _ => ⟨_, _, _, _, base_R, E12⟩
    | 13, _ => ⟨_, _, _, _, base_R, E13⟩
    | 14, _ => ⟨_, _, _, _, base_R, E14⟩
    | 15, _ => ⟨_, _, _, _, base_R, E15⟩
    | 16, _ => ⟨_, _, _, _, base_R, E16⟩
    | 17, _ => ⟨_, _, _, _, base_O, E17⟩
    | j + 18, hj => absurd hj (by omega)
  have T : AllC K mg c := { ex := ex_, own := own_, tV := tV_, tL := tL_, tR := tR_, tO := tO_, tM := tM_, g := ⟨cg, ct⟩, g0 := PySem.W.mg_of X G aC0, g1 := PySem.W.mg_of X G aC1, g2 := PySem.W.mg_of X G aC2, g3 := PySem.W.mg_of X G aC3, g4 := PySem.W.mg_of X G aC4, g5 := PySem.W.mg_of X G aC5, g6 := PySem.W.mg_of X G aC6, g7 := PySem.W.mg_of X G aC7, g8 := PySem.W.mg_of X G aC8, g9 := PySem.W.mg_of X G aC9, g10 := PySem.W.mg_of X G aC10, g11 := PySem.W.mg_of X G aC11, g12 := PySem.W.mg_of X G aC12, g13 := PySem.W.mg_of X G aC13, g14 := PySem.W.mg_of X G aC14, g15 := PySem.W.mg_of X G aC15, g16 := PySem.W.mg_of X G aC16, g17 := PySem.W.mg_of X G aC17, misinstance := PySem.W.mg_none_of X G noisinstance, mrepr := PySem.W.mg_none_of X G norepr, mValueError := PySem.W.mg_none_of X G noValueError, mLookupError := PySem.W.mg_none_of X G noLookupError, mRuntimeError := PySem.W.mg_none_of X G noRuntimeError, mOverflowError := PySem.W.mg_none_of X G noOverflowError, mKeyError := PySem.W.mg_none_of X G noKeyError, mIndexError := PySem.W.mg_none_of X G noIndexError, mNotImplementedError := PySem.W.mg_none_of X G noNotImplementedError }
  have N : NoA K c := { a0at := na0at, a1faults := na1faults, a2number := na2number, a3number := na3number, a4number := na4number, a5block := na5block, a6index := na6index, a7ref := na7ref, a8place := na8place, a9place := na9place, a10number := na10number, a11number := na11number, a12task := na12task, a12depth := na12depth, a12word := na12word, a17count := na17count }
  have FCells := fun_mk (st := sCells) lCells cCells kCells
  have FSame := fun_mk (st := sSame) lSame cSame kSame
  have FKinds := fun_mk (st := sKinds) lKinds cKinds kKinds
  have FBases := fun_mk (st := sBases) lBases cBases kBases
  have FRight := fun_mk (st := sRight) lRight cRight kRight
  have FLaw := fun_mk (st := sLaw) lLaw cLaw kLaw
  have bSame := FSame.binds (ps := ["_law_found", "_law_due"]) fun _ _ _ _ _ _ us hl => match us, hl with | [_, _], _ => rfl
  have bKinds := FKinds.binds (ps := ["_law_error"]) fun _ _ _ _ _ _ us hl => match us, hl with | [_], _ => rfl
  have bBases := FBases.binds (ps := ["_law_error"]) fun _ _ _ _ _ _ us hl => match us, hl with | [_], _ => rfl
  have bCells := FCells.binds (ps := ["_law_script", "_law_most"]) fun _ _ _ _ _ _ us hl => match us, hl with | [_, _], _ => rfl
  have bRight := FRight.binds (ps := ["_law_cell"]) fun _ _ _ _ _ _ us hl => match us, hl with | [_], _ => rfl
  refine ⟨PySem.W.fnOf "law" "law" (defArgs sLaw) (defBody sLaw) (defScope sLaw) .none kVLaw dcLaw pmLaw anLaw cdLaw ctLaw, fun s v => .of_eq rfl, fun base _ _ => ?_⟩
  have M : Mkr P w K mg base c := { k0 := mkc0 E0 (PySem.W.mg_of X G aC0) in0 tf0 lf0 cf0 kf0 na0at BV base, k1 := mkc1 E1 (PySem.W.mg_of X G aC1) in1 tf1 lf1 cf1 kf1 na1faults BV (PySem.W.mg_none_of X G noisinstance) (PySem.W.mg_none_of X G nolist) base, k2 := mkc2 E2 (PySem.W.mg_of X G aC2) in2 tf2 lf2 cf2 kf2 na2number BV base, k3 := mkc3 E3 (PySem.W.mg_of X G aC3) in3 tf3 lf3 cf3 kf3 na3number BV base, k4 := mkc4 E4 (PySem.W.mg_of X G aC4) in4 tf4 lf4 cf4 kf4 na4number BV base, k5 := mkc5 E5 (PySem.W.mg_of X G aC5) in5 tf5 lf5 cf5 kf5 na5block BV base, k6 := mkc6 E6 (PySem.W.mg_of X G aC6) in6 tf6 lf6 cf6 kf6 na6index BV base, k7 := mkc7 E7 (PySem.W.mg_of X G aC7) in7 tf7 lf7 cf7 kf7 na7ref BL base, k8 := mkc8 E8 (PySem.W.mg_of X G aC8) in8 tf8 lf8 cf8 kf8 na8place BL base, k9 := mkc9 E9 (PySem.W.mg_of X G aC9) in9 tf9 lf9 cf9 kf9 na9place BL base, k10 := mkc10 E10 (PySem.W.mg_of X G aC10) in10 tf10 lf10 cf10 kf10 na10number BL base, k11 := mkc11 E11 (PySem.W.mg_of X G aC11) in11 tf11 lf11 cf11 kf11 na11number BL base, k12 := mkc12 E12 (PySem.W.mg_of X G aC12) in12 tf12 lf12 cf12 kf12 na12task na12depth na12word BR base, k13 := mkc13 E13 (PySem.W.mg_of X G aC13) in13 tf13 lf13 cf13 kf13  BR base, k14 := mkc14 E14 (PySem.W.mg_of X G aC14) in14 tf14 lf14 cf14 kf14  BR base, k15 := mkc15 E15 (PySem.W.mg_of X G aC15) in15 tf15 lf15 cf15 kf15  BR base, k16 := mkc16 E16 (PySem.W.mg_of X G aC16) in16 tf16 lf16 cf16 kf16  BR base, k17 := mkc17 E17 (PySem.W.mg_of X G aC17) in17 tf17 lf17 cf17 kf17 na17count BO base }
  have hS := okSame (P := P) (w := w) (base := base) FSame (PySem.W.mg_none_of X G norepr)
  have U : Helps P w K mg base c := { same := ⟨_, _, PySem.W.mg_of X G aSame, kSame, hS, bSame⟩, kinds := ⟨_, _, PySem.W.mg_of X G aKinds, kKinds, okKinds FKinds T, bKinds⟩, bases := ⟨_, _, PySem.W.mg_of X G aBases, kBases, okBases FBases T, bBases⟩, mEnum := PySem.W.mg_none_of X G noenumerate, mInt := PySem.W.mg_none_of X G noint, mRange := PySem.W.mg_none_of X G norange, mStr := PySem.W.mg_none_of X G nostr }
  exact okLaw FLaw { same := ⟨_, _, PySem.W.mg_of X G aSame, kSame, hS, bSame⟩, cells := ⟨_, _, PySem.W.mg_of X G aCells, kCells, okCells FCells (PySem.W.mg_none_of X G nolist) (PySem.W.mg_none_of X G noenumerate), bCells⟩, right := ⟨_, _, PySem.W.mg_of X G aRight, kRight, okRight FRight M U N T, bRight⟩, mAll := PySem.W.mg_none_of X G noall, mAbs := PySem.W.mg_none_of X G noabs, lims := ⟨_, _, _, _, _, _, _, PySem.W.mg_of X G liLIMIT, PySem.W.mg_of X G liDEPTH, PySem.W.mg_of X G liQUANTUM, PySem.W.mg_of X G liPAGE, PySem.W.mg_of X G liFAN, PySem.W.mg_of X G liWIDTH, PySem.W.mg_of X G liLOG_BLOCKS⟩ }
end K09

set_option Elab.async false
set_option maxRecDepth 100000
open PySem PySem.W PyProof.Rows
set_option maxRecDepth 100000 in
set_option maxHeartbeats 0 in
theorem PySem.Challenge.cw_lastingrun_k09_errors_and_limits_holds : PySem.Challenge.rw_lastingrun_k09_errors_and_limits.Holds := by
  w_on; o_law; k_head; (case hw => w_witness2)
  k_fill
  refine JB.walk_G (l := PySem.Challenge.rw_lastingrun_k09_errors_and_limits) (n := 63) (k := 4) (x := "_law_script") (sp := K09.spLaw) rfl (by decide) rfl ⟨rfl, by decide, by decide⟩ (fun w h Y => PySem.W.kIn_of Y) ?F (fun K H a ns hl _ hS => ⟨a, ns, rfl, hS, hl, fun _ => rfl⟩)
  case F =>
    intro w mg fa h KX G hmg
    refine' K09.all_mk KX G hmg ?aC0 ?x0 ?sa0 ?ga0 ?gg0 ?ca0 ?ty0 ?kp0 ?in0 ?tf0 ?lf0 ?cf0 ?kf0 ?na0at ?aC1 ?x1 ?sa1 ?ga1 ?gg1 ?ca1 ?ty1 ?kp1 ?in1 ?tf1 ?lf1 ?cf1 ?kf1 ?na1faults ?aC2 ?x2 ?sa2 ?ga2 ?gg2 ?ca2 ?ty2 ?kp2 ?in2 ?tf2 ?lf2 ?cf2 ?kf2 ?na2number ?aC3 ?x3 ?sa3 ?ga3 ?gg3 ?ca3 ?ty3 ?kp3 ?in3 ?tf3 ?lf3 ?cf3 ?kf3 ?na3number ?aC4 ?x4 ?sa4 ?ga4 ?gg4 ?ca4 ?ty4 ?kp4 ?in4 ?tf4 ?lf4 ?cf4 ?kf4 ?na4number ?aC5 ?x5 ?sa5 ?ga5 ?gg5 ?ca5 ?ty5 ?kp5 ?in5 ?tf5 ?lf5 ?cf5 ?kf5 ?na5block ?aC6 ?x6 ?sa6 ?ga6 ?gg6 ?ca6 ?ty6 ?kp6 ?in6 ?tf6 ?lf6 ?cf6 ?kf6 ?na6index ?aC7 ?x7 ?sa7 ?ga7 ?gg7 ?ca7 ?ty7 ?kp7 ?in7 ?tf7 ?lf7 ?cf7 ?kf7 ?na7ref ?aC8 ?x8 ?sa8 ?ga8 ?gg8 ?ca8 ?ty8 ?kp8 ?in8 ?tf8 ?lf8 ?cf8 ?kf8 ?na8place ?aC9 ?x9 ?sa9 ?ga9 ?gg9 ?ca9 ?ty9 ?kp9 ?in9 ?tf9 ?lf9 ?cf9 ?kf9 ?na9place ?aC10 ?x10 ?sa10 ?ga10 ?gg10 ?ca10 ?ty10 ?kp10 ?in10 ?tf10 ?lf10 ?cf10 ?kf10 ?na10number ?aC11 ?x11 ?sa11 ?ga11 ?gg11 ?ca11 ?ty11 ?kp11 ?in11 ?tf11 ?lf11 ?cf11 ?kf11 ?na11number ?aC12 ?x12 ?sa12 ?ga12 ?gg12 ?ca12 ?ty12 ?kp12 ?in12 ?tf12 ?lf12 ?cf12 ?kf12 ?na12task ?na12depth ?na12word ?aC13 ?x13 ?sa13 ?ga13 ?gg13 ?ca13 ?ty13 ?kp13 ?in13 ?tf13 ?lf13 ?cf13 ?kf13 ?aC14 ?x14 ?sa14 ?ga14 ?gg14 ?ca14 ?ty14 ?kp14 ?in14 ?tf14 ?lf14 ?cf14 ?kf14 ?aC15 ?x15 ?sa15 ?ga15 ?gg15 ?ca15 ?ty15 ?kp15 ?in15 ?tf15 ?lf15 ?cf15 ?kf15 ?aC16 ?x16 ?sa16 ?ga16 ?gg16 ?ca16 ?ty16 ?kp16 ?in16 ?tf16 ?lf16 ?cf16 ?kf16 ?aC17 ?x17 ?sa17 ?ga17 ?gg17 ?ca17 ?ty17 ?kp17 ?in17 ?tf17 ?lf17 ?cf17 ?kf17 ?na17count ?biV ?biL ?biR ?biO ?cg ?ct ?noisinstance ?norepr ?noValueError ?noLookupError ?noRuntimeError ?noOverflowError ?noKeyError ?noIndexError ?noNotImplementedError ?nolist ?noenumerate ?noint ?norange ?nostr ?noall ?noabs ?liLIMIT ?liDEPTH ?liQUANTUM ?liPAGE ?liFAN ?liWIDTH ?liLOG_BLOCKS ?aCells ?lCells ?cCells ?kCells ?aSame ?lSame ?cSame ?kSame ?aKinds ?lKinds ?cKinds ?kKinds ?aBases ?lBases ?cBases ?kBases ?aRight ?lRight ?cRight ?kRight ?aLaw ?lLaw ?cLaw ?kLaw ?nd
    (case aC0 => k_is)
    (case x0 => k_is)
    (case sa0 => k_is)
    (case ga0 => k_is)
    (case gg0 => k_is)
    (case ca0 => k_is)
    (case ty0 => k_is)
    (case kp0 => k_is)
    (case in0 => k_is)
    (case tf0 => k_is)
    (case lf0 => k_is)
    (case cf0 => k_is)
    (case kf0 => k_is)
    (case na0at => k_is)
    (case aC1 => k_is)
    (case x1 => k_is)
    (case sa1 => k_is)
    (case ga1 => k_is)
    (case gg1 => k_is)
    (case ca1 => k_is)
    (case ty1 => k_is)
    (case kp1 => k_is)
    (case in1 => k_is)
    (case tf1 => k_is)
    (case lf1 => k_is)
    (case cf1 => k_is)
    (case kf1 => k_is)
    (case na1faults => k_is)
    (case aC2 => k_is)
    (case x2 => k_is)
    (case sa2 => k_is)
    (case ga2 => k_is)
    (case gg2 => k_is)
    (case ca2 => k_is)
    (case ty2 => k_is)
    (case kp2 => k_is)
    (case in2 => k_is)
    (case tf2 => k_is)
    (case lf2 => k_is)
    (case cf2 => k_is)
    (case kf2 => k_is)
    (case na2number => k_is)
    (case aC3 => k_is)
    (case x3 => k_is)
    (case sa3 => k_is)
    (case ga3 => k_is)
    (case gg3 => k_is)
    (case ca3 => k_is)
    (case ty3 => k_is)
    (case kp3 => k_is)
    (case in3 => k_is)
    (case tf3 => k_is)
    (case lf3 => k_is)
    (case cf3 => k_is)
    (case kf3 => k_is)
    (case na3number => k_is)
    (case aC4 => k_is)
    (case x4 => k_is)
    (case sa4 => k_is)
    (case ga4 => k_is)
    (case gg4 => k_is)
    (case ca4 => k_is)
    (case ty4 => k_is)
    (case kp4 => k_is)
    (case in4 => k_is)
    (case tf4 => k_is)
    (case lf4 => k_is)
    (case cf4 => k_is)
    (case kf4 => k_is)
    (case na4number => k_is)
    (case aC5 => k_is)
    (case x5 => k_is)
    (case sa5 => k_is)
    (case ga5 => k_is)
    (case gg5 => k_is)
    (case ca5 => k_is)
    (case ty5 => k_is)
    (case kp5 => k_is)
    (case in5 => k_is)
    (case tf5 => k_is)
    (case lf5 => k_is)
    (case cf5 => k_is)
    (case kf5 => k_is)
    (case na5block => k_is)
    (case aC6 => k_is)
    (case x6 => k_is)
    (case sa6 => k_is)
    (case ga6 => k_is)
    (case gg6 => k_is)
    (case ca6 => k_is)
    (case ty6 => k_is)
    (case kp6 => k_is)
    (case in6 => k_is)
    (case tf6 => k_is)
    (case lf6 => k_is)
    (case cf6 => k_is)
    (case kf6 => k_is)
    (case na6index => k_is)
    (case aC7 => k_is)
    (case x7 => k_is)
    (case sa7 => k_is)
    (case ga7 => k_is)
    (case gg7 => k_is)
    (case ca7 => k_is)
    (case ty7 => k_is)
    (case kp7 => k_is)
    (case in7 => k_is)
    (case tf7 => k_is)
    (case lf7 => k_is)
    (case cf7 => k_is)
    (case kf7 => k_is)
    (case na7ref => k_is)
    (case aC8 => k_is)
    (case x8 => k_is)
    (case sa8 => k_is)
    (case ga8 => k_is)
    (case gg8 => k_is)
    (case ca8 => k_is)
    (case ty8 => k_is)
    (case kp8 => k_is)
    (case in8 => k_is)
    (case tf8 => k_is)
    (case lf8 => k_is)
    (case cf8 => k_is)
    (case kf8 => k_is)
    (case na8place => k_is)
    (case aC9 => k_is)
    (case x9 => k_is)
    (case sa9 => k_is)
    (case ga9 => k_is)
    (case gg9 => k_is)
    (case ca9 => k_is)
    (case ty9 => k_is)
    (case kp9 => k_is)
    (case in9 => k_is)
    (case tf9 => k_is)
    (case lf9 => k_is)
    (case cf9 => k_is)
    (case kf9 => k_is)
    (case na9place => k_is)
    (case aC10 => k_is)
    (case x10 => k_is)
    (case sa10 => k_is)
    (case ga10 => k_is)
    (case gg10 => k_is)
    (case ca10 => k_is)
    (case ty10 => k_is)
    (case kp10 => k_is)
    (case in10 => k_is)
    (case tf10 => k_is)
    (case lf10 => k_is)
    (case cf10 => k_is)
    (case kf10 => k_is)
    (case na10number => k_is)
    (case aC11 => k_is)
    (case x11 => k_is)
    (case sa11 => k_is)
    (case ga11 => k_is)
    (case gg11 => k_is)
    (case ca11 => k_is)
    (case ty11 => k_is)
    (case kp11 => k_is)
    (case in11 => k_is)
    (case tf11 => k_is)
    (case lf11 => k_is)
    (case cf11 => k_is)
    (case kf11 => k_is)
    (case na11number => k_is)
    (case aC12 => k_is)
    (case x12 => k_is)
    (case sa12 => k_is)
    (case ga12 => k_is)
    (case gg12 => k_is)
    (case ca12 => k_is)
    (case ty12 => k_is)
    (case kp12 => k_is)
    (case in12 => k_is)
    (case tf12 => k_is)
    (case lf12 => k_is)
    (case cf12 => k_is)
    (case kf12 => k_is)
    (case na12task => k_is)
    (case na12depth => k_is)
    (case na12word => k_is)
    (case aC13 => k_is)
    (case x13 => k_is)
    (case sa13 => k_is)
    (case ga13 => k_is)
    (case gg13 => k_is)
    (case ca13 => k_is)
    (case ty13 => k_is)
    (case kp13 => k_is)
    (case in13 => k_is)
    (case tf13 => k_is)
    (case lf13 => k_is)
    (case cf13 => k_is)
    (case kf13 => k_is)
    (case aC14 => k_is)
    (case x14 => k_is)
    (case sa14 => k_is)
    (case ga14 => k_is)
    (case gg14 => k_is)
    (case ca14 => k_is)
    (case ty14 => k_is)
    (case kp14 => k_is)
    (case in14 => k_is)
    (case tf14 => k_is)
    (case lf14 => k_is)
    (case cf14 => k_is)
    (case kf14 => k_is)
    (case aC15 => k_is)
    (case x15 => k_is)
    (case sa15 => k_is)
    (case ga15 => k_is)
    (case gg15 => k_is)
    (case ca15 => k_is)
    (case ty15 => k_is)
    (case kp15 => k_is)
    (case in15 => k_is)
    (case tf15 => k_is)
    (case lf15 => k_is)
    (case cf15 => k_is)
    (case kf15 => k_is)
    (case aC16 => k_is)
    (case x16 => k_is)
    (case sa16 => k_is)
    (case ga16 => k_is)
    (case gg16 => k_is)
    (case ca16 => k_is)
    (case ty16 => k_is)
    (case kp16 => k_is)
    (case in16 => k_is)
    (case tf16 => k_is)
    (case lf16 => k_is)
    (case cf16 => k_is)
    (case kf16 => k_is)
    (case aC17 => k_is)
    (case x17 => k_is)
    (case sa17 => k_is)
    (case ga17 => k_is)
    (case gg17 => k_is)
    (case ca17 => k_is)
    (case ty17 => k_is)
    (case kp17 => k_is)
    (case in17 => k_is)
    (case tf17 => k_is)
    (case lf17 => k_is)
    (case cf17 => k_is)
    (case kf17 => k_is)
    (case na17count => k_is)
    (case biV => k_is)
    (case biL => k_is)
    (case biR => k_is)
    (case biO => k_is)
    (case cg => k_is)
    (case ct => k_is)
    (case noisinstance => k_is)
    (case norepr => k_is)
    (case noValueError => k_is)
    (case noLookupError => k_is)
    (case noRuntimeError => k_is)
    (case noOverflowError => k_is)
    (case noKeyError => k_is)
    (case noIndexError => k_is)
    (case noNotImplementedError => k_is)
    (case nolist => k_is)
    (case noenumerate => k_is)
    (case noint => k_is)
    (case norange => k_is)
    (case nostr => k_is)
    (case noall => k_is)
    (case noabs => k_is)
    (case liLIMIT => k_is)
    (case liDEPTH => k_is)
    (case liQUANTUM => k_is)
    (case liPAGE => k_is)
    (case liFAN => k_is)
    (case liWIDTH => k_is)
    (case liLOG_BLOCKS => k_is)
    (case aCells => k_is)
    (case lCells => k_is)
    (case cCells => k_is)
    (case kCells => k_is)
    (case aSame => k_is)
    (case lSame => k_is)
    (case cSame => k_is)
    (case kSame => k_is)
    (case aKinds => k_is)
    (case lKinds => k_is)
    (case cKinds => k_is)
    (case kKinds => k_is)
    (case aBases => k_is)
    (case lBases => k_is)
    (case cBases => k_is)
    (case kBases => k_is)
    (case aRight => k_is)
    (case lRight => k_is)
    (case cRight => k_is)
    (case kRight => k_is)
    (case aLaw => k_is)
    (case lLaw => k_is)
    (case cLaw => k_is)
    (case kLaw => k_is)
    (case nd => decide)

