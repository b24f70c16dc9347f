import PyProof.Rows.All
import Wide.All
import OpenK.AllK
import Wide.FinOn
import HandS.ForMost
import HandS.IsInst
import HandS.FStr
import HandS.ExcInit
import HandS.ExcIs
import HandS.MakeKw
import KE.KUnpack
import HandS.Rev
import HandS.NoneIn
import HandS.Small
import HandS.Flow
import HandS.TupAny
import PyProof.AutoSeq1
import PyProof.ReprBulk
import HandS.Star
import HandS.SetKeys
import HandS.TupMul
import HandS.SortInts
import HandS.More
import KE.KSortedM
import PyProof.Draws
import PyProof.EnumMake
import PyProof.TupleIter
import HandS.SortKw
import PyProof.MinMaxWalk
import PyProof.DictWalks
import HandS.HeadEnd
import HandS.HeadHook1
import HandS.HeadHook2
import HandS.Head2
import HandS.Defaults
import Lean
import HandS.Conv
import HandS.RaiseMore
import PyProof.CallFns
import PyProof.FitsInt
import PySem.Challenge.RW_lastingrun_k31_changed_pages
set_option Elab.async false
set_option linter.all false
set_option maxRecDepth 100000
set_option maxHeartbeats 4000000
namespace JB
open PySem PySem.Spec PyProof.Rows L2
/-- nothing is being shown around -/
abbrev Still (A : Around) : Prop := A.guards = some []
structure FnG (P : Program) (w : World) (K : PySem.W.Frag) (mg : Str → Option Value)
    (base : Heap) (CX : CXT) (k : Nat) (f : Addr) (fd : FuncData) (ps : List Str) (sp : Sp) : Prop where
  many : ∀ a h q e, sp a h q e → a.length = ps.length
  goes : ∀ (A : Around) (outer : List Env) (s : Shared) (H : Hp) (args : Args)
    (us : List Value) (vs : List V) (Q : VK) (E : XK), Still A → Room k A →
    Env0 P w K mg base A outer s H → BindsTo s fd args (ps.zip us) → Vals vs us →
    sp vs H Q E → codeAny (model P w) A (.call (.ref f) args) (CR CX outer P w H s Q E) s
section
variable {P : Program} {w : World} {K : PySem.W.Frag} {mg : Str → Option Value} {base : Heap}
variable {CX : CXT} {j k : Nat} {f : Addr} {fd : FuncData} {ps : List Str} {sp : Sp}
theorem FnG.of (F : FnOk P w K mg base CX k f fd ps sp) : FnG P w K mg base CX k f fd ps sp :=
  ⟨F.len, fun A o s H a us vs Q E _ r e b v h => F.run A o s H a us vs Q E r e b v h⟩
theorem FnG.up (F : FnG P w K mg base CX j f fd ps sp) (h : j ≤ k) : FnG P w K mg base CX k f fd ps sp :=
  ⟨F.many, fun A o s H a us vs Q E g r => F.goes A o s H a us vs Q E g (r.mono h)⟩
theorem FnG.less {sp' : Sp} (F : FnG P w K mg base CX k f fd ps sp)
    (h : ∀ a b c d, sp' a b c d → sp a b c d) : FnG P w K mg base CX k f fd ps sp' :=
  ⟨fun a b c d q => F.many a b c d (h _ _ _ _ q), fun A o s H a us vs Q E g r e b v z =>
    F.goes A o s H a us vs Q E g r e b v (h _ _ _ _ z)⟩
end
theorem still_make {A : Around} {C : Addr} {us : List Value} {kw : List (Str × Value)} (h : Still A) :
    Still (A.under (.builtin "type.__call__" ⟨.ref C :: us, kw⟩)) := by
  first
    | exact h
    | (simpa [Still, Around.under, Code.guards, Code.isGuard, pushGuards, guardIds] using h)
section
variable {X : Cx} {CX : CXT} {k : Nat} {f C : Addr} {fd : FuncData} {ps : List Str} {sp : Sp}
variable {dvs : List V} {ds : List Value} {E : XK} {x m : Str} {p pos apos : Pos} {e o : Expr} {es : List Expr} {ta : TE} {t : TA}
theorem run_g {pins : List (Addr × Obj)} {σ : L2.St} {H : Hp} {s : Shared} {Q : VK} {us : List Value}
    {vs : List V} (hs : Still X.A) (F : FnG X.prog X.w X.K X.mg X.base CX k f fd ps sp)
    (hr : Room k X.A) (hb : Binds X.K fd ps ds) (hd : Vals dvs ds) (hx : Passes CX X E)
    (I : Inv X pins σ H s) (r : Vals vs us) (h : sp (vs ++ dvs) H Q E) :
    wpAny (model X.prog X.w) X.A (call (.ref f) us) (EP X pins σ Q) X.xe s := by
  have rr := r.append hd
  have hl : (us ++ ds).length = ps.length := by
    rw [← rr.length]; exact F.many _ _ _ _ h
  refine wpAny_call (codeAny_mono (F.goes X.A X.stack s H ⟨us, []⟩ (us ++ ds) (vs ++ dvs) Q E hs hr
    I.env0 (hb s us I.kIn hl) rr h) fun z s' hq => ?_)
  cases z with
  | error er => exact hx pins σ H s er s' I hq
  | ok fl => cases fl <;> first | exact I.after hq | exact False.elim hq
/-- f(e, ..) -/
theorem pe_callG (hs : Still X.A) (F : FnG X.prog X.w X.K X.mg X.base CX k f fd ps sp)
    (hr : Room k X.A) (hg : Gl X x) (hm : X.mg x = some (.ref f))
    (hk : PySem.W.keepIn X.K (.ref f) = true) (hb : Binds X.K fd ps ds) (hd : Vals dvs ds)
    (hx : Passes CX X E) (ha : PA X (e :: es) t)
    (hdb : (x == ("__debug__" : Str)) = false := by decide)
    (he : starEach (e :: es) X.env = (false, eval e X.env) :: starEach es X.env := by rfl)
    (hpl : (backTo pos (starEach es X.env)).any (·.1) = false := by rfl) :
    PE X (.Call (.Name x p) (e :: es) [] pos) (tCall sp dvs E t) :=
  ⟨fun pins s σ H Q I h => wpAny_Call_Name_kw (ld_glob I hg hm (PySem.W.callWith_K (h₀ := X.base)
    I.ok.mod.kin hk (thn (ha.run pos pins s σ H _ I h) fun us s1 ⟨vs, H1, I1, r, q⟩ =>
      ⟨I1.kIn, run_g hs F hr hb hd hx I1 r q⟩) he hpl) hdb)⟩
end
/-- a def by its body, around which nothing is shown -/
theorem fn_g {CX : CXT} {P : Program} {w : World} {K : PySem.W.Frag} {mg : Str → Option Value}
    {base : Heap} {k : Nat} {f : Addr} {name qual : Str} {params : Arguments} {body : List Stmt}
    {scope : Scope} {dV kV doc pm cdv ct oc : Value} {an od : Option Addr}
    {osl : Array (Option Value)} {N ps : List Str} {sp : Sp}
    (lk : K.lookup f = some ⟨oc, od, .func (PySem.W.fnOf name qual params body scope dV kV doc pm an cdv ct), osl⟩)
    (hcd : PySem.W.codeIn K cdv qual = true) (S : FnScope N ps scope)
    (many : ∀ a h q e, sp a h q e → a.length = ps.length)
    (hbody : ∀ (A : Around) (outer : List Env) (s : Shared) (H : Hp) (vs : List V) (Q : VK) (E : XK),
      Still (A.deeper (envOfC qual scope s.heap.objs.size f cdv)) →
      Room k (A.deeper (envOfC qual scope s.heap.objs.size f cdv)) → sp vs H Q E →
      ∃ t, PSs (cxOf CX P w K mg base N qual scope f cdv A outer s H E) body t ∧
        t { nx := fun _ H' => Q .non H', rt := Q } (start N vs) H) :
    FnG P w K mg base CX (k + 1) f (PySem.W.fnOf name qual params body scope dV kV doc pm an cdv ct) ps sp := by
  refine ⟨many, fun A outer s H args us vs Q E hst hr e0 hb r hsp => ?_⟩
  have hl := many _ _ _ _ hsp
  have KX : K.In s.heap := e0.mod.kin.keeps fun b o e => (e0.bs b o e).1
  have lim : s.heap.NoLimit := e0.mod.nolimit.keeps fun b o e => (e0.bs b o e).1
  have hkind : ∀ y ∈ ps.zip us, scope.names.lookup y.1 = some .local ∨ (scope.names.lookup y.1 = some .cell ∧
      ((cellsFrom (s.heap.objs.size + 1) scope.names []).lookup y.1).isSome = true) := by
    rintro ⟨n, v⟩ hy
    rcases S.par n (List.of_mem_zip hy).1 with q | q
    · exact .inl q
    · exact .inr ⟨q, PySem.W.cellsFrom_some _ _ _ (.inl q)⟩
  refine codeAny_call_function hr.depth (KX _ _ lk) rfl S.co S.gen rfl
    (PySem.W.codeRec_of KX hcd) (hb _ _ _ _ ?_)
  refine wpAny_newFunctionEnv_cells S.kind hkind fun env he s1 x => ?_
  subst he
  refine ⟨lim.keeps x.toInCall.keep, codeAny_func ?_⟩
  obtain ⟨t, ht, hq⟩ := hbody A outer s H vs Q E hst (hr.deeper _) hsp
  have I : Inv (cxOf CX P w K mg base N qual scope f cdv A outer s H E) [] (start N vs) H s1 :=
    inv_start S hr.hd e0 hl r x
  refine wpAny_mono (ht.run [] s1 (start N vs) H _ I hq) (fun fl s' hs => ?_) fun e s' hs => hs
  have fin : ∀ {σ' : L2.St} {H' : Hp} {v : V} {u : Value},
      Inv (cxOf CX P w K mg base N qual scope f cdv A outer s H E) [] σ' H' s' → RelV v u →
      Q v H' → CE outer P w H s Q u s' :=
    fun {σ' H' v u} J rv q => ⟨v, H', J.os, J.bare, J.base, J.hok, rv, q⟩
  cases fl with
  | ret u => obtain ⟨v, σ', H', J, rv, q⟩ := hs; exact fin J rv q
  | next => obtain ⟨σ', H', J, q⟩ := hs; exact fin (v := V.non) (u := Value.none) J rfl q
  | brk => obtain ⟨_, _, _, q⟩ := hs; exact False.elim q
  | cont => obtain ⟨_, _, _, q⟩ := hs; exact False.elim q
theorem Fun_okG {P : Program} {w : World} {K : PySem.W.Frag} {mg : Str → Option Value} {base : Heap}
    {x qual : Str} {st : Stmt} {f : Addr} {fd : FuncData} {N ps : List Str} {k : Nat} {sp : Sp}
    (F : Fun K x qual st f fd) (S : FnScope N ps (defScope st))
    (many : ∀ a h q e, sp a h q e → a.length = ps.length)
    (hbody : ∀ (cdv : Value) (A : Around) (outer : List Env) (s : Shared) (H : Hp) (vs : List V) (Q : VK) (E : XK),
      Still (A.deeper (envOfC qual (defScope st) s.heap.objs.size f cdv)) →
      Room k (A.deeper (envOfC qual (defScope st) s.heap.objs.size f cdv)) → sp vs H Q E →
      ∃ t, PSs (cxOf CX0 P w K mg base N qual (defScope st) f cdv A outer s H E).nox (defBody st) t ∧
        t { nx := fun _ H' => Q .non H', rt := Q } (start N vs) H) :
    FnG P w K mg base CX0 (k + 1) f fd ps sp := by
  obtain ⟨oc, od, kV, doc, pm, an, cdv, ct, osl, rfl, lk, hcd⟩ := F.ex
  refine fn_g lk hcd S many fun A outer s H vs Q E hst hr hsp => ?_
  obtain ⟨t, h, q⟩ := hbody cdv A outer s H vs Q E hst hr hsp
  exact ⟨t, h.nox, q⟩
end JB
set_option Elab.async false
set_option linter.all false
set_option maxRecDepth 100000
set_option maxHeartbeats 4000000
namespace JB
open PySem PySem.Spec PyProof.Rows L2
theorem law_callG {P : Program} {w : World} {K : PySem.W.Frag} {mg mb : Str → Option Value} {CX : CXT}
    {k : Nat} {fa a : Addr} {fd : FuncData} {x : Str} {sp : Sp} {s₁ : Shared} {vs : List Value} {ns : List Int}
    (KX : K.In s₁.heap) (hns : s₁.heap.Ns mainGlobals mg) (hb : s₁.heap.Ns builtinsNs mb)
    (hbb : ∀ x : Str, x ≠ "__name__" → mb x = bootBuiltins x) (hlim : s₁.heap.NoLimit)
    (hg : s₁.gens = #[]) (ha : s₁.heap.get? a = some { cls := .type "list", data := .seq vs.toArray })
    (hi : IntsAre vs ns) (hl : ns.length ≤ sizeLine) (hr : Room k callerA)
    (F : ∀ base : Heap, K.In base → base.Ns mainGlobals mg → FnG P w K mg base CX k fa fd [x] sp)
    (hbind : ∀ (s : Shared) (u : Value), BindsTo s fd ⟨[u], []⟩ [(x, u)])
    (hsp : ∀ H : Hp, Only H → SqL K H a (ns.map V.int) →
      sp [.ref a] H (fun v _ => v = .bl true) fun _ _ _ => False)
    (hCX : ∀ H e s', CX [] H s₁ (fun _ _ _ => False) e s' → False) :
    codeAny (model P w) callerA (.call (.ref fa) ⟨[.ref a], []⟩)
      (fun r s' => r = .ok (.ret (.bool true)) ∧ OldK s₁.heap s'.heap ∧ s'.os = s₁.os ∧ AllBare s'.gens) s₁ := by
  have rv := vals_ints hi
  have lenV := hi.length
  have core : ∀ H : Hp, Only H → SqL K H a (ns.map V.int) → HOk P w H s₁.heap →
      (∀ b, H b ≠ none → b = a) → (H a ≠ none → K.lookup a = none) →
      codeAny (model P w) callerA (.call (.ref fa) ⟨[.ref a], []⟩)
        (fun r s' => r = .ok (.ret (.bool true)) ∧ OldK s₁.heap s'.heap ∧ s'.os = s₁.os ∧ AllBare s'.gens) s₁ := by
    intro H hO hS hok hA hK
    have base_of : ∀ {b : Addr} {o : Obj}, s₁.heap.get? b = some o → H b = none →
        (hidT s₁.heap H).get? b = some o := fun e n => hidT_get e n
    have noA : ∀ {b : Addr} {o : Obj} {es : Array DictEntry} {ep : Nat},
        s₁.heap.get? b = some o → o.data = .dict es ep → H b = none := by
      intro b o es ep e d
      cases q : H b with
      | none => rfl
      | some u =>
        obtain rfl : b = a := hA b (by rw [q]; simp)
        rw [ha] at e
        cases e
        exact absurd (show Data.seq vs.toArray _ = Data.dict es ep from d) (fun z => by cases z)
    have nsK : ∀ {b : Addr} {m : Str → Option Value}, s₁.heap.Ns b m → (hidT s₁.heap H).Ns b m := by
      rintro b m ⟨o, es, ep, e, d, r⟩
      exact ⟨o, es, ep, base_of e (noA e d), d, r⟩
    have hKb : K.In (hidT s₁.heap H) := by
      intro b o e
      refine base_of (KX b o e) ?_
      cases q : H b with
      | none => rfl
      | some u =>
        obtain rfl : b = a := hA b (by rw [q]; simp)
        rw [hK (by rw [q]; simp)] at e
        cases e
    have hM : Mod K mg (hidT s₁.heap H) := by
      obtain ⟨mc, h1, h2⟩ := hlim
      exact ⟨hKb, nsK hns, ⟨mb, nsK hb, hbb⟩, ⟨mc, nsK h1, h2⟩⟩
    have nil : ∀ {α : Type} (b : α), ¬ b ∈ ([] : List α) := fun b z => nomatch z
    have e0 : Env0 P w K mg (hidT s₁.heap H) callerA [] s₁ H :=
      ⟨rfl, hM, fun b o e => of_hidT e, Nat.le_of_eq (hidT_size _ _), trivial,
        fun b hb => (nil b hb).elim, hok, .of_eq hg⟩
    refine codeAny_mono ((F _ hKb (nsK hns)).goes callerA [] s₁ H ⟨[.ref a], []⟩ [.ref a] [.ref a] _ _
      rfl hr e0 (hbind s₁ (.ref a)) (.cons rfl .nil) (hsp H hO hS)) fun r s' h => ?_
    cases r with
    | error e => exact (hCX H e s' h).elim
    | ok fl =>
      cases fl with
      | next => exact False.elim h
      | brk => exact False.elim h
      | cont => exact False.elim h
      | ret u =>
        obtain ⟨v, H', os, bare, un, hok', r', q⟩ := h
        obtain rfl : v = .bl true := q
        obtain rfl : u = Value.bool true := r'
        refine ⟨rfl, OldK.of_keep fun b o e => ?_, os, bare⟩
        rcases hO b with z | ⟨ob, xs, z⟩
        · exact un.keep b o e z (nil b) (nil b)
        · obtain ⟨e1, _⟩ := hok b _ z
          obtain ⟨e2, _⟩ := hok' b _ (un.frzs b ob _ z)
          rw [e] at e1
          cases e1
          exact e2
  cases hk : K.lookup a with
  | some o =>
    have e := KX a o hk
    rw [ha] at e
    cases e
    refine core (fun _ => none) (fun _ => .inl rfl) (.inr ⟨_, vs.toArray, _, hk, rfl, rfl, rfl, ?_, ?_⟩)
      (fun b u z => ?_) (fun b z => absurd rfl z) fun z => absurd rfl z
    · rw [List.size_toArray, lenV]; exact hl
    · simpa using rv
    · exact absurd (show (none : Option HO) = some u from z) (fun z => by cases z)
  | none =>
    refine core (fun b => if b = a then some (.frz { cls := .type "list", data := .seq vs.toArray }
      (.lst (ns.map V.int))) else none) (fun b => ?_) (.inl (.inr ⟨_, if_pos rfl⟩)) (fun b u z => ?_)
      (fun b z => ?_) fun _ => hk
    all_goals by_cases hb : b = a
    · exact .inr ⟨_, _, if_pos hb⟩
    · exact .inl (if_neg hb)
    · have z' := (if_pos hb).symm.trans z
      cases z'
      subst hb
      exact ⟨ha, by rw [List.length_map]; exact hl, vs, _, rv, ha⟩
    · have z' := (if_neg hb).symm.trans z
      cases z'
    · exact hb
    · exact absurd (if_neg hb) z
/-- the goal that the head leaves, from the law's promise -/
theorem walk_G {l : PySem.W.OpenLaw} {n k : Nat} {q : Program} {loose : List Str}
    {XP : (Str → Option Value) → Heap → Prop} {YP : World → Heap → Prop} {d : DefRec}
    {K : Params → PySem.W.Frag} {sp : PySem.W.Frag → Sp} {x : Str}
    (hn : l.most = some n) (hn2 : n ≤ sizeLine) (hdf : d.params.defaults = []) (hr : Room k callerA)
    (hY : ∀ (w : World) (h : Heap), YP w h → (K w.params).In h)
    (F : ∀ (w : World) (mg : Str → Option Value) (fa : Addr) (h : Heap), (K w.params).In h →
      h.Ns mainGlobals mg → mg d.name = some (.ref fa) →
      ∃ fd : FuncData, (∀ (s : Shared) (u : Value), BindsTo s fd ⟨[u], []⟩ [(x, u)]) ∧
        ∀ base : Heap, (K w.params).In base → base.Ns mainGlobals mg →
          FnG l.prog w (K w.params) mg base CX0 k fa fd [x] (sp (K w.params)))
    (hsp : ∀ (K : PySem.W.Frag) (H : Hp) (a : Addr) (ns : List Int), ns.length ≤ n → Only H →
      SqL K H a (ns.map V.int) → sp K [.ref a] H (fun v _ => v = .bl true) fun _ _ _ => False) :
    PySem.W.WalkO q loose XP YP l.row.toRowW d [] (fun f vs => PySem.call f vs) := by
  refine Att.attach_call hn hdf fun w s₀ s₁ mg mb fa o pm cd doc a vs ns G Y ho hd hcd hmg hobj hints hlen hg => ?_
  obtain ⟨fd, hb, hF⟩ := F w mg fa _ (hY w _ Y) G.T.g hmg
  exact law_callG (hY w _ Y) G.T.g G.T.b G.T.builtins G.T.nolimit hg hobj hints
    (Nat.le_trans hlen hn2) hr hF hb (fun H hO hS => hsp _ H a ns hlen hO hS) fun _ _ _ z => z
section
variable {X : Cx}
/-- repr(x), x data without dicts -/
def rShow (K : PySem.W.Frag) : List V → Hp → VK → Prop := fun xs H Q => ∃ (a : Addr) (d : PyData),
  xs = [.ref a] ∧ Dp K H (.ref a) d ∧ d.showable = true ∧ d.hasDict = false ∧ d.depth ≤ 60 ∧
  d.shown.length ≤ sizeLine ∧ Q (.str d.shown) H
theorem call_show (hs : Still X.A) (hu : X.A.units + 64 < cLine) : CallR X (.builtin "repr") (rShow X.K) := by
  intro pins s σ H xs us Q I r h
  obtain ⟨a, d, rfl, hd, h1, h2, h3, h4, q⟩ := h
  obtain ⟨u, rfl, rfl⟩ : ∃ u, us = [u] ∧ u = Value.ref a := by
    cases r with | cons r1 r2 => cases r2; exact ⟨_, rfl, r1⟩
  obtain ⟨as, rd⟩ := Dp.reads I d (.ref a) (.ref a) hd rfl
  exact repr_of_reads' rd h1 (PyData.noDict_hsm h2) hs (by omega) (fun _ _ e => e)
    (fun h' u tk hk => ⟨.str d.shown, H, I.kept hk, ⟨u, rfl⟩, q⟩) h4
/-- {x} in an f-string, x data without dicts -/
def tFmtD (te : TE) (K : PySem.W.Frag) : TE := fun σ H Q => te σ H fun x H1 => ∃ (a : Addr) (d : PyData),
  x = .ref a ∧ Dp K H1 (.ref a) d ∧ d.showable = true ∧ d.hasDict = false ∧ d.depth ≤ 60 ∧
  d.shown.length ≤ sizeLine ∧ Q (.str d.shown) H1
theorem pe_fmtD {e : Expr} {te : TE} {pos : Pos} (hs : Still X.A) (hu : X.A.units + 64 < cLine)
    (he : PE X e te) : PE X (.FormattedValue e (-1) none pos) (tFmtD te X.K) := by
  refine ⟨fun pins s σ H Q I h => ?_⟩
  refine wpAny_FormattedValue_plain (thn (he.run pins s σ H _ I h) fun v s1 hv => ?_)
  obtain ⟨x, H1, I1, r1, a, d, rfl, hd, h1, h2, h3, h4, q⟩ := hv
  obtain rfl : v = Value.ref a := r1
  obtain ⟨as, rd⟩ := Dp.reads I1 d (.ref a) (.ref a) hd rfl
  exact formatField_of_reads rd h1 (PyData.noDict_hsm h2) hs (by omega) (fun _ _ e => e)
    (fun h' u tk hk => ⟨.str d.shown, H1, I1.kept hk, ⟨u, rfl⟩, q⟩) h4
end
end JB
set_option Elab.async false
set_option linter.all false
set_option maxRecDepth 100000
set_option maxHeartbeats 4000000
namespace JB
open PySem PySem.Spec PyProof.Rows L2
/-- a part of such a case: a text | a name by its slot | anything -/
inductive Pt where
  | txt (w : Str) | nam (i : Nat) | any
/-- the part of the program's text -/
inductive PtJ (X : Cx) : Pattern → Pt → Prop
  | txt {w : Str} {j : Nat} {p q : Pos} : PtJ X (.MatchValue (.Constant (.str w) j p) q) (.txt w)
  | nam {x : Str} {i : Nat} {p : Pos} (hi : X.N[i]? = some x) (hx : Loc X.env.scope x)
      (hf : X.fn x = true ∨ X.env.scope.names.lookup x = some .local) : PtJ X (.MatchAs none (some x) p) (.nam i)
  | any {p : Pos} : PtJ X (.MatchAs none none p) .any
inductive PtsJ (X : Cx) : List Pattern → List Pt → Prop
  | nil : PtsJ X [] []
  | cons {p : Pattern} {q : Pt} {ps : List Pattern} {qs : List Pt} : PtJ X p q → PtsJ X ps qs → PtsJ X (p :: ps) (q :: qs)
/-- how the values fit: nothing is said | they don't | they do, and the names get these -/
def fit : List Pt → List V → Option (Option (List (Nat × V)))
  | [], [] => some (some [])
  | .txt w :: qs, .str y :: vs => if y = w then fit qs vs else some none
  | .nam i :: qs, v :: vs => (fit qs vs).map fun o => o.map fun l => (i, v) :: l
  | .any :: qs, _ :: vs => fit qs vs
  | _, _ => none
/-- a case against a sequence of the values -/
def fits (qs : List Pt) (vs : List V) : Option (Option (List (Nat × V))) := if qs.length = vs.length then fit qs vs else some none
def setAll (σ : L2.St) : List (Nat × V) → L2.St
  | [] => σ
  | (i, v) :: r => setAll (σ.set i (some v)) r
/-- the cases in turn -/
def tCases : List (List Pt × TS) → List V → TS
  | [], _ => fun D σ H => D.nx σ H
  | (qs, t) :: r, vs => fun D σ H => ∃ o, fits qs vs = some o ∧ match o with
    | some l => t D (setAll σ l) H
    | none => tCases r vs D σ H
/-- match e: case .. -/
def tMatch (K : PySem.W.Frag) (te : TE) (cs : List (List Pt × TS)) : TS := fun D σ H => te σ H fun x H1 =>
  ∃ a vs, x = .ref a ∧ (SqL K H1 a vs ∨ SqT K H1 a vs) ∧ tCases cs vs D σ H1
inductive CasesJ (X : Cx) : List MatchCase → List (List Pt × TS) → Prop
  | nil : CasesJ X [] []
  | cons {ps : List Pattern} {pos : Pos} {body : List Stmt} {rest : List MatchCase} {qs : List Pt} {t : TS} {r : List (List Pt × TS)}
      (hp : PtsJ X ps qs) (hw : (ps.all fun p => p.isWildcard || (p.isStar && p.names.isEmpty)) = false)
      (hb : PSs X body t) (hr : CasesJ X rest r) : CasesJ X (⟨.MatchSequence ps pos, none, body⟩ :: rest) ((qs, t) :: r)
section
variable {X : Cx} {pins : List (Addr × Obj)}
theorem PtsJ.len {ps : List Pattern} {qs : List Pt} (h : PtsJ X ps qs) : ps.length = qs.length := by
  induction h with
  | nil => rfl
  | cons _ _ ih => simp [ih]
theorem PtJ.noStar {p : Pattern} {q : Pt} (h : PtJ X p q) : p.isStar = false := by cases h <;> rfl
theorem PtsJ.noStar {ps : List Pattern} {qs : List Pt} (h : PtsJ X ps qs) : ps.findIdx? (·.isStar) = none := by
  induction h with
  | nil => rfl
  | cons a _ ih => rw [List.findIdx?_cons, a.noStar, ih]; rfl
/-- what the names get, in the machine's words -/
def Got (X : Cx) : List (Nat × V) → List (Str × Value) → Prop
  | [], [] => True
  | (i, v) :: l, (x, u) :: bs => X.N[i]? = some x ∧ Loc X.env.scope x ∧ (X.fn x = true ∨ X.env.scope.names.lookup x = some .local) ∧ RelV v u ∧ Got X l bs
  | _, _ => False
/-- what is wanted behind a pattern -/
def After (X : Cx) (Q : Option (List (Str × Value)) → Shared → Prop) (s : Shared) : Option (List (Nat × V)) → Prop
  | none => Q none s
  | some l => ∀ bs, Got X l bs → Q (some bs) s
theorem Got.app1 {i : Nat} {v : V} {l : List (Nat × V)} {bs : List (Str × Value)} {x : Str} {u : Value} (h1 : X.N[i]? = some x) (h2 : Loc X.env.scope x)
    (h3 : X.fn x = true ∨ X.env.scope.names.lookup x = some .local) (r : RelV v u) (g : Got X l bs) : Got X ((i, v) :: l) ((x, u) :: bs) := ⟨h1, h2, h3, r, g⟩
theorem each_ok {ps : List Pattern} {qs : List Pt} (h : PtsJ X ps qs) : ∀ {vs : List V} {us : List Value} {o : Option (List (Nat × V))} {s : Shared} {σ : L2.St} {H : Hp}
    {Q : Option (List (Str × Value)) → Shared → Prop}, Inv X pins σ H s → Vals vs us → fit qs vs = some o →
    (∀ s', Inv X pins σ H s' → After X Q s' o) →
    wpAny (model X.prog X.w) X.A (matchEach ps X.env us) Q X.xe s := by
  induction h with
  | nil =>
    intro vs us o s σ H Q I r e k
    cases r with
    | nil =>
      cases e
      exact wpAny_matchEach_nil (k s I [] trivial)
    | cons _ _ => cases e
  | @cons p q ps qs hp hps ih =>
    intro vs us o s σ H Q I r e k
    cases r with
    | nil => cases q <;> cases e
    | @cons v u vs us r1 r2 =>
      refine wpAny_matchEach_cons ?_ hp.noStar
      cases hp with
      | @txt w j p1 p2 =>
        obtain ⟨y, rfl⟩ : ∃ y, v = .str y := by
          cases v with
          | str y => exact ⟨y, rfl⟩
          | _ => cases e
        refine wpAny_matchPattern_Value (thn ((pe_str (X := X) (x := w) (j := j) (pos := p1)).run pins s σ H (fun x H1 => x = .str w ∧ H1 = H) I ⟨rfl, rfl⟩) fun x s1 hx => ?_)
        obtain ⟨v', H', I1, r', rfl, rfl⟩ := hx
        refine thn (thn (op_eq (X := X) pins s1 σ H' (.str y) (.str w) u x (fun z H2 => z = .bl (decide (V.str y = V.str w)) ∧ H2 = H') I1 r1 r' ⟨rfl, rfl, rfl⟩) (fun c s2 hc => ?_)) fun c s2 hc => hc
        obtain ⟨z, H2, I2, rz, rfl, rfl⟩ := hc
        obtain rfl : c = Value.bool _ := rz
        refine wpAny_truthy_bool ?_
        have e' : (if y = w then fit qs vs else some none) = some o := e
        by_cases hy : y = w
        · rw [if_pos hy] at e'
          rw [decide_eq_true (by rw [hy] : V.str y = V.str w), if_pos rfl]
          refine ih I2 r2 e' fun s' I' => ?_
          have kk := k s' I'
          cases o with
          | none => exact kk
          | some l => exact fun bs g => kk bs g
        · rw [if_neg hy] at e'
          cases e'
          rw [decide_eq_false (fun z => hy (V.str.inj z)), if_neg Bool.false_ne_true]
          exact k s2 I2
      | @nam x i p1 hi hx hf =>
        refine wpAny_matchPattern_Capture ?_
        have e' : (fit qs vs).map (fun o => o.map fun l => (i, v) :: l) = some o := e
        obtain ⟨o', e1, rfl⟩ := Option.map_eq_some_iff.mp e'
        refine ih I r2 e1 fun s' I' => ?_
        have kk := k s' I'
        cases o' with
        | none => exact kk
        | some l => exact fun bs g => kk _ (Got.app1 hi hx hf r1 g)
      | any =>
        refine wpAny_matchPattern_Capture ?_
        refine ih I r2 e fun s' I' => ?_
        have kk := k s' I'
        cases o with
        | none => exact kk
        | some l => exact fun bs g => kk bs g
theorem bind_all (hN : X.N.Nodup) : ∀ {l : List (Nat × V)} {bs : List (Str × Value)} {s : Shared} {σ : L2.St} {H : Hp} {Q : Unit → Shared → Prop}, Got X l bs → Inv X pins σ H s →
    (∀ s', Inv X pins (setAll σ l) H s' → Q () s') →
    wpAny (model X.prog X.w) X.A (assignInOrder (bs.map fun (n, _) => bindName X.env n) (bs.map (·.2))) Q X.xe s
  | [], [], s, σ, H, Q, _, I, k => wpAny_assignInOrder_none (k s I)
  | (i, v) :: l, (x, u) :: bs, s, σ, H, Q, g, I, k => by
    obtain ⟨g1, g2, g3, g4, g5⟩ := g
    refine wpAny_assignInOrder_more ?_
    show wpAny _ _ (bindName X.env x u) _ _ _
    unfold bindName
    refine wpAny_bind (wpAny_holding (wpAny_point (wpAny_bind (store_ok I hN g1 g2 g4 (fun s' I' => wpAny_point ?_) g3))))
    exact bind_all hN g5 I' k
  | [], _ :: _, _, _, _, _, g, _, _ => g.elim
  | _ :: _, [], _, _, _, _, g, _, _ => g.elim
theorem seq_pat {ps : List Pattern} {qs : List Pt} {pos : Pos} {vs : List V} {a : Addr} {o : Option (List (Nat × V))} {s : Shared} {σ : L2.St} {H : Hp}
    {Q : Option (List (Str × Value)) → Shared → Prop} (hc : X.calm = true) (h : PtsJ X ps qs) (hw : (ps.all fun p => p.isWildcard || (p.isStar && p.names.isEmpty)) = false) (I : Inv X pins σ H s)
    (hs : SqL X.K H a vs ∨ SqT X.K H a vs) (e : fits qs vs = some o)
    (k : ∀ s', Inv X pins σ H s' → After X Q s' o) :
    wpAny (model X.prog X.w) X.A (matchPattern (.MatchSequence ps pos) X.env (.ref a)) Q X.xe s := by
  have hd := I.ok.hd hc
  rcases hs with hs | hs
  · obtain ⟨its, rv, ⟨oo, n, ho, hcl, hdi, hda⟩, hz⟩ := I.list hs
    have hl : s.heap.IsList a its.toArray := ⟨oo, ho, hcl, n, hda⟩
    have hsz : its.toArray.size = vs.length := by simp [← rv.length]
    have hfit : ((its.toArray.size : Nat) : Int) < 2 ^ 63 := by rw [hsz]; rw [sizeLine_eq] at hz; omega
    refine wpAny_matchPattern_Sequence (wpAny_collectionFlag hl.typeIs flag_seq_list ?_) h.noStar hw
    rw [if_pos rfl]
    refine pyLen_list hl hfit ?_
    unfold fits at e
    by_cases hn : qs.length = vs.length
    · rw [if_pos hn] at e
      rw [if_neg (by simp [hsz, h.len, hn])]
      have hlen : its.toArray.size = ps.length := by rw [hsz, h.len, hn]
      rw [← hlen]
      refine PySem.W.kun_itemsOf hd (s := { s with toks := s.toks + 1 + 1 }) hl fun h' hx => ?_
      have I1 : Inv X pins σ H { s with heap := h', toks := s.toks + 1 + 1 } := I.kept fun b ob z => hx b ob (Nat.ne_of_lt (Heap.lt_size z)) z
      exact each_ok h I1 rv e k
    · rw [if_neg hn] at e
      cases e
      rw [if_pos (by simp [hsz, h.len]; omega)]
      exact k _ (I.tok _)
  · obtain ⟨its, rv, ht, hz⟩ := I.tuple hs
    have hsz : its.toArray.size = vs.length := by simp [← rv.length]
    have hfit : ((its.toArray.size : Nat) : Int) < 2 ^ 63 := by rw [hsz]; rw [sizeLine_eq] at hz; omega
    refine wpAny_matchPattern_Sequence (wpAny_collectionFlag ht.typeIs flag_seq_tuple ?_) h.noStar hw
    rw [if_pos rfl]
    refine pyLen_tuple ht hfit ?_
    unfold fits at e
    by_cases hn : qs.length = vs.length
    · rw [if_pos hn] at e
      rw [if_neg (by simp [hsz, h.len, hn])]
      have hlen : its.toArray.size = ps.length := by rw [hsz, h.len, hn]
      rw [← hlen]
      refine unpackItems_tuple hd (s := { s with toks := s.toks + 1 + 1 }) ht fun h' hx => ?_
      have I1 : Inv X pins σ H { s with heap := h', toks := s.toks + 1 + 1 } := I.kept fun b ob z => hx b ob (Nat.ne_of_lt (Heap.lt_size z)) z
      exact each_ok h I1 rv e k
    · rw [if_neg hn] at e
      cases e
      rw [if_pos (by simp [hsz, h.len]; omega)]
      exact k _ (I.tok _)
theorem cases_ok (hc : X.calm = true) (hN : X.N.Nodup) {cs : List MatchCase} {ts : List (List Pt × TS)} (h : CasesJ X cs ts) : ∀ {first : Bool} {vs : List V} {a : Addr} {s : Shared} {σ : L2.St} {H : Hp} {D : Ends},
    Inv X pins σ H s → (SqL X.K H a vs ∨ SqT X.K H a vs) → tCases ts vs D σ H →
    wpAny (model X.prog X.w) X.A (matchCases cs X.env (.ref a) first) (SP X pins D) X.xe s := by
  induction h with
  | nil => exact fun I _ q => wpAny_matchCases_nil ⟨_, _, I, q⟩
  | cons hp hw hb _ ih =>
    intro first vs a s σ H D I hs q
    obtain ⟨o, e, q⟩ := q
    refine wpAny_matchCases_cons (seq_pat hc hp hw I hs e fun s' I' => ?_)
    cases o with
    | none => exact ih I' hs q
    | some l => exact fun bs g => bind_all hN g I' fun s2 I2 => hb.run pins s2 _ H D I2 q
/-- the rule -/
theorem ps_match {e : Expr} {te : TE} {cs : List MatchCase} {ts : List (List Pt × TS)} {pos : Pos} (hc : X.calm = true) (hN : X.N.Nodup) (he : PE X e te) (h : CasesJ X cs ts) :
    PS X (.Match e cs pos) (tMatch X.K te ts) := by
  refine ⟨fun pins s σ H D I q => ?_⟩
  refine wpAny_Match (thn (he.run pins s σ H _ I q) fun u s1 ⟨x, H1, I1, r, a, vs, ex, hs, q1⟩ => ?_)
  subst ex
  obtain rfl : u = Value.ref a := r
  exact cases_ok hc hN h I1 hs q1
end
end JB
set_option Elab.async false
set_option linter.all false
set_option maxRecDepth 100000
set_option maxHeartbeats 4000000
namespace MI
open PySem PySem.Spec PyProof.Rows L2
/-- what is written: the frozen part, and where its classes and defs stand, by numbers -/
structure Zt where
  K : PySem.W.Frag
  adr : Nat → Addr
inductive MV where
  | non | bl (b : Bool) | int (n : Int) | str (s : List Nat) | tup (xs : List MV) | ktp (xs : List MV) | fls (xs : List MV) | ref (i : Nat) | adr (a : Nat) | ty (s : String)
  deriving Inhabited
/-- a dict's key -/
abbrev MK := Sum Int (List Nat)
def kOf : MK → Key
  | .inl i => .inl i
  | .inr s => .inr ⟨s.toArray⟩
theorem kOf_inj : ∀ {a b : MK}, kOf a = kOf b → a = b
  | .inl i, .inl j, h => by cases h; rfl
  | .inr s, .inr t, h => by
    have e : (⟨s.toArray⟩ : Str) = ⟨t.toArray⟩ := Sum.inr.inj h
    have e2 : s.toArray = t.toArray := Str.mk.inj e
    have e3 : s = t := by simpa using e2
    rw [e3]
  | .inl _, .inr _, h => nomatch h
  | .inr _, .inl _, h => nomatch h
/-- a name by a number: its signs are the number's digits -/
def digs : Nat → Nat → List Nat
  | 0, _ => []
  | n + 1, k => if k = 0 then [] else (k % 2097152) :: digs n (k / 2097152)
def digv : List Nat → Nat
  | [] => 0
  | d :: l => d + 2097152 * digv l
theorem digv_digs : ∀ n k : Nat, k ≤ n → digv (digs n k) = k
  | 0, k, h => by
    have : k = 0 := by omega
    subst this; rfl
  | n + 1, k, h => by
    unfold digs
    by_cases e : k = 0
    · rw [if_pos e, e]; rfl
    · rw [if_neg e]
      show k % 2097152 + 2097152 * digv (digs n (k / 2097152)) = k
      rw [digv_digs n (k / 2097152) (by omega)]
      omega
def nm (k : Nat) : Str := ⟨(digs k k).toArray⟩
theorem nm_inj {i j : Nat} (h : nm i = nm j) : i = j := by
  have e2 : (digs i i).toArray = (digs j j).toArray := Str.mk.inj h
  have e3 : digs i i = digs j j := by simpa using e2
  rw [← digv_digs i i (Nat.le_refl _), ← digv_digs j j (Nat.le_refl _), e3]
inductive MO where
  | lst (xs : List MV) | dic (kvs : List (MK × MV)) | dit (kvs : List (List MK × MV)) | ins (C : Nat) (fs : List (Nat × MV)) | fdi (kvs : List (MK × MV))
  deriving Inhabited
/-- not a dict that is walked -/
def MO.opn : MO → Bool
  | .fdi _ => false
  | _ => true
inductive Tr where
  | nil | leaf (l : List (Nat × MO)) | node (l r : Tr)
namespace Tr
def get : Nat → Tr → Nat → Option MO
  | 0, .leaf l, i => l.lookup i
  | _, .leaf _, _ => none
  | d + 1, .node l r, i => if i % 2 = 0 then get d l (i / 2) else get d r (i / 2)
  | 0, .node _ _, _ => none
  | _, .nil, _ => none
def set : Nat → Tr → Nat → MO → Tr
  | 0, .leaf l, i, o => .leaf ((i, o) :: l.filter fun p => p.1 != i)
  | 0, _, i, o => .leaf [(i, o)]
  | d + 1, .node l r, i, o => if i % 2 = 0 then .node (set d l (i / 2) o) r else .node l (set d r (i / 2) o)
  | d + 1, _, i, o => if i % 2 = 0 then .node (set d .nil (i / 2) o) .nil else .node .nil (set d .nil (i / 2) o)
theorem look_filter {l : List (Nat × MO)} {i j : Nat} (h : j ≠ i) : (l.filter fun p => p.1 != i).lookup j = l.lookup j := by
  induction l with
  | nil => rfl
  | cons p l ih =>
    obtain ⟨a, o⟩ := p
    rw [List.filter_cons]
    by_cases e : a = i
    · subst e
      rw [if_neg (by simp), ih, List.lookup_cons]
      rw [beq_false_of_ne h]
    · rw [if_pos (by simpa using e), List.lookup_cons, List.lookup_cons, ih]
theorem get_set (d : Nat) : ∀ (t : Tr) (i j : Nat) (o : MO), get d (set d t i o) j = if j = i then some o else get d t j := by
  induction d with
  | zero =>
    intro t i j o
    cases t with
    | leaf l =>
      show List.lookup j ((i, o) :: _) = _
      rw [List.lookup_cons]
      by_cases e : j = i
      · subst e; simp
      · rw [if_neg e, beq_false_of_ne e]
        exact look_filter e
    | nil =>
      show List.lookup j [(i, o)] = _
      rw [List.lookup_cons]
      by_cases e : j = i
      · subst e; simp
      · rw [if_neg e, beq_false_of_ne e]; rfl
    | node _ _ =>
      show List.lookup j [(i, o)] = _
      rw [List.lookup_cons]
      by_cases e : j = i
      · subst e; simp
      · rw [if_neg e, beq_false_of_ne e]; rfl
  | succ d ih =>
    intro t i j o
    have key : ∀ l r : Tr, get (d + 1) (if i % 2 = 0 then Tr.node (set d l (i / 2) o) r else .node l (set d r (i / 2) o)) j = if j = i then some o else get (d + 1) (.node l r) j := by
      intro l r
      by_cases hi : i % 2 = 0
      · rw [if_pos hi]
        show (if j % 2 = 0 then get d (set d l (i / 2) o) (j / 2) else get d r (j / 2)) = _
        by_cases hj : j % 2 = 0
        · rw [if_pos hj, ih]
          by_cases e : j = i
          · subst e; simp
          · rw [if_neg (by omega), if_neg e]
            show _ = if j % 2 = 0 then get d l (j / 2) else get d r (j / 2)
            rw [if_pos hj]
        · rw [if_neg hj, if_neg (by intro e; subst e; exact hj hi)]
          show _ = if j % 2 = 0 then get d l (j / 2) else get d r (j / 2)
          rw [if_neg hj]
      · rw [if_neg hi]
        show (if j % 2 = 0 then get d l (j / 2) else get d (set d r (i / 2) o) (j / 2)) = _
        by_cases hj : j % 2 = 0
        · rw [if_pos hj, if_neg (by intro e; subst e; exact hi hj)]
          show _ = if j % 2 = 0 then get d l (j / 2) else get d r (j / 2)
          rw [if_pos hj]
        · rw [if_neg hj, ih]
          by_cases e : j = i
          · subst e; simp
          · rw [if_neg (by omega), if_neg e]
            show _ = if j % 2 = 0 then get d l (j / 2) else get d r (j / 2)
            rw [if_neg hj]
    have nn : ∀ n k, get n .nil k = none := fun n k => by cases n <;> rfl
    have nil2 : get (d + 1) (.node .nil .nil) j = none := by
      show (if j % 2 = 0 then get d .nil (j / 2) else get d .nil (j / 2)) = none
      rw [nn]; split <;> rfl
    cases t with
    | node l r => exact key l r
    | nil =>
      have := key .nil .nil
      rw [nil2] at this
      exact this
    | leaf l =>
      have := key .nil .nil
      rw [nil2] at this
      exact this
end Tr
/-- a heap: how many things there are, and what they are -/
structure MH where
  n : Nat
  t : Tr
namespace MH
def get (h : MH) (i : Nat) : Option MO := if i < h.n then h.t.get 6 i else none
def set (h : MH) (i : Nat) (o : MO) : MH := ⟨h.n, h.t.set 6 i o⟩
def push (h : MH) (o : MO) : MH := ⟨h.n + 1, h.t.set 6 h.n o⟩
def empty : MH := ⟨0, .nil⟩
theorem get_set {h : MH} {i j : Nat} {o : MO} (hi : i < h.n) : (h.set i o).get j = if j = i then some o else h.get j := by
  unfold get set
  show (if j < h.n then _ else _) = _
  rw [Tr.get_set]
  by_cases e : j = i
  · subst e; rw [if_pos hi, if_pos rfl, if_pos rfl]
  · rw [if_neg e, if_neg e]
theorem get_push {h : MH} {j : Nat} {o : MO} : (h.push o).get j = if j = h.n then some o else h.get j := by
  unfold get push
  show (if j < h.n + 1 then _ else _) = _
  rw [Tr.get_set]
  by_cases e : j = h.n
  · subst e; rw [if_pos (Nat.lt_succ_self _), if_pos rfl, if_pos rfl]
  · rw [if_neg e, if_neg e]
    by_cases e2 : j < h.n
    · rw [if_pos e2, if_pos (by omega)]
    · rw [if_neg e2, if_neg (by omega)]
theorem get_lt {h : MH} {i : Nat} {o : MO} (e : h.get i = some o) : i < h.n := by
  unfold get at e
  split at e
  · assumption
  · cases e
theorem get_none {h : MH} {i : Nat} (e : h.n ≤ i) : h.get i = none := by unfold get; rw [if_neg (by omega)]
end MH
/-- a list that nobody writes to -/
def FzL (K : PySem.W.Frag) (H : Hp) (a : Addr) (vs : List V) : Prop := (∃ o, H a = some (.frz o (.lst vs))) ∨ SqL K (fun _ => none) a vs
theorem ktp_sq {K : PySem.W.Frag} {H : Hp} {a : Addr} {vs : List V} (h : SqT K (fun _ => none) a vs) : SqT K H a vs := by
  rcases h with (h | ⟨o, h⟩) | h
  · cases h
  · cases h
  · exact .inr h
theorem FzL.sq {K : PySem.W.Frag} {H : Hp} {a : Addr} {vs : List V} (h : FzL K H a vs) : SqL K H a vs := by
  rcases h with h | h
  · exact .inl (.inr h)
  · rcases h with (h | ⟨o, h⟩) | h
    · cases h
    · cases h
    · exact .inr h
mutual
inductive RV (Z : Zt) (ρ : List Addr) (H : Hp) : MV → V → Prop
  | non : RV Z ρ H .non .non
  | bl (b : Bool) : RV Z ρ H (.bl b) (.bl b)
  | int (n : Int) : RV Z ρ H (.int n) (.int n)
  | str (s : List Nat) : RV Z ρ H (.str s) (.str ⟨s.toArray⟩)
  | ty (s : String) : RV Z ρ H (.ty s) (.ty s)
  | adr (a : Addr) : RV Z ρ H (.adr a) (.ref a)
  | ref {i : Nat} {a : Addr} : ρ[i]? = some a → RV Z ρ H (.ref i) (.ref a)
  | tup {a : Addr} {xs : List MV} {vs : List V} : H a = some (.tup vs) → RVs Z ρ H xs vs → RV Z ρ H (.tup xs) (.ref a)
  | ktp {a : Addr} {xs : List MV} {vs : List V} : SqT Z.K (fun _ => none) a vs → RVs Z ρ H xs vs → RV Z ρ H (.ktp xs) (.ref a)
  | fls {a : Addr} {xs : List MV} {vs : List V} : FzL Z.K H a vs → RVs Z ρ H xs vs → RV Z ρ H (.fls xs) (.ref a)
inductive RVs (Z : Zt) (ρ : List Addr) (H : Hp) : List MV → List V → Prop
  | nil : RVs Z ρ H [] []
  | cons {x : MV} {v : V} {xs : List MV} {vs : List V} : RV Z ρ H x v → RVs Z ρ H xs vs → RVs Z ρ H (x :: xs) (v :: vs)
end
/-- what never changes once it is there -/
def Still : HO → Prop
  | .tup _ => True
  | .own _ => True
  | .frz _ _ => True
  | .xd _ => True
  | _ => False
structure Ext (ρ : List Addr) (H : Hp) (ρ' : List Addr) (H' : Hp) : Prop where
  pre : ∃ τ, ρ' = ρ ++ τ ∧ ∀ a ∈ τ, H a = none
  hold : ∀ a o, H a = some o → (Still o ∨ ¬ a ∈ ρ) → H' a = some o
  mono : ∀ a, H' a = none → H a = none
theorem Ext.still {ρ ρ' : List Addr} {H H' : Hp} (e : Ext ρ H ρ' H') : ∀ a o, H a = some o → Still o → H' a = some o := fun a o h s => e.hold a o h (.inl s)
theorem Ext.refl {ρ : List Addr} {H : Hp} : Ext ρ H ρ H := ⟨⟨[], by simp⟩, fun _ _ h _ => h, fun _ h => h⟩
theorem Ext.trans {ρ ρ1 ρ2 : List Addr} {H H1 H2 : Hp} (a : Ext ρ H ρ1 H1) (b : Ext ρ1 H1 ρ2 H2) : Ext ρ H ρ2 H2 := by
  obtain ⟨⟨t1, rfl, f1⟩, s1, m1⟩ := a
  obtain ⟨⟨t2, rfl, f2⟩, s2, m2⟩ := b
  refine ⟨⟨t1 ++ t2, by simp, fun x hx => ?_⟩, fun x o h s => s2 x o (s1 x o h s) ?_, fun x h => m1 x (m2 x h)⟩
  · rcases List.mem_append.mp hx with hx | hx
    · exact f1 x hx
    · exact m1 x (f2 x hx)
  · rcases s with s | s
    · exact .inl s
    · refine .inr fun hx => ?_
      rcases List.mem_append.mp hx with hx | hx
      · exact s hx
      · rw [f1 x hx] at h; cases h
theorem Ext.at {ρ ρ' : List Addr} {H H' : Hp} (e : Ext ρ H ρ' H') {i : Nat} {a : Addr} (h : ρ[i]? = some a) : ρ'[i]? = some a := by
  obtain ⟨⟨t, rfl, _⟩, _⟩ := e
  rw [List.getElem?_append_left]
  · exact h
  · exact (List.getElem?_eq_some_iff.mp h).1
theorem Ext.sqT {Z : Zt} {ρ ρ' : List Addr} {H H' : Hp} (e : Ext ρ H ρ' H') {a : Addr} {vs : List V} (h : SqT Z.K H a vs) : SqT Z.K H' a vs := by
  rcases h with (h | ⟨o, h⟩) | h
  · exact .inl (.inl (e.still _ _ h trivial))
  · exact .inl (.inr ⟨o, e.still _ _ h trivial⟩)
  · exact .inr h
theorem Ext.fzL {K : PySem.W.Frag} {ρ ρ' : List Addr} {H H' : Hp} (e : Ext ρ H ρ' H') {a : Addr} {vs : List V} (h : FzL K H a vs) : FzL K H' a vs := by
  rcases h with ⟨o, h⟩ | h
  · exact .inl ⟨o, e.still _ _ h trivial⟩
  · exact .inr h
mutual
theorem RV.ext {Z : Zt} {ρ ρ' : List Addr} {H H' : Hp} (e : Ext ρ H ρ' H') {x : MV} {v : V} : RV Z ρ H x v → RV Z ρ' H' x v
  | .non => .non
  | .bl b => .bl b
  | .int n => .int n
  | .str s => .str s
  | .fls h r => .fls (e.fzL h) (RVs.ext e r)
  | .ty s => .ty s
  | .adr a => .adr a
  | .ref h => .ref (e.at h)
  | .tup h r => .tup (e.still _ _ h trivial) (RVs.ext e r)
  | .ktp h r => .ktp h (RVs.ext e r)
theorem RVs.ext {Z : Zt} {ρ ρ' : List Addr} {H H' : Hp} (e : Ext ρ H ρ' H') {x : List MV} {v : List V} : RVs Z ρ H x v → RVs Z ρ' H' x v
  | .nil => .nil
  | .cons h r => .cons (RV.ext e h) (RVs.ext e r)
end
/-- keyed values -/
inductive RKs {κ κ' : Type} (f : κ → κ') (Z : Zt) (ρ : List Addr) (H : Hp) : List (κ × MV) → List (κ' × V) → Prop
  | nil : RKs f Z ρ H [] []
  | cons {k : κ} {x : MV} {v : V} {xs : List (κ × MV)} {vs : List (κ' × V)} : RV Z ρ H x v → RKs f Z ρ H xs vs → RKs f Z ρ H ((k, x) :: xs) ((f k, v) :: vs)
theorem RKs.ext {κ κ' : Type} {f : κ → κ'} {Z : Zt} {ρ ρ' : List Addr} {H H' : Hp} (e : Ext ρ H ρ' H') {x : List (κ × MV)} {v : List (κ' × V)} (h : RKs f Z ρ H x v) : RKs f Z ρ' H' x v := by
  induction h with
  | nil => exact .nil
  | cons a _ ih => exact .cons (a.ext e) ih
/-- a thing of the plain heap stands at a -/
def OR (Z : Zt) (ρ : List Addr) (H : Hp) (a : Addr) : MO → Prop
  | .lst xs => ∃ vs, H a = some (.lst vs) ∧ RVs Z ρ H xs vs
  | .dic xs => ∃ vs, H a = some (.dK vs) ∧ RKs kOf Z ρ H xs vs
  | .dit xs => ∃ vs, H a = some (.dT vs) ∧ RKs (List.map kOf) Z ρ H xs vs
  | .ins C fs => ∃ dx vs, H a = some (.ins (Z.adr C) dx vs) ∧ RKs nm Z ρ H fs vs
  | .fdi xs => ∃ o vs, H a = some (.frz o (.dK vs)) ∧ RKs kOf Z ρ H xs vs
structure HR (Z : Zt) (ρ : List Addr) (h : MH) (H : Hp) : Prop where
  nodup : ρ.Nodup
  len : ρ.length = h.n
  all : ∀ i o, h.get i = some o → ∃ a, ρ[i]? = some a ∧ OR Z ρ H a o
  has : ∀ i, i < h.n → (h.get i).isSome = true
theorem OR.ext {Z : Zt} {ρ ρ' : List Addr} {H H' : Hp} (e : Ext ρ H ρ' H') {a : Addr} {o : MO} (h : OR Z ρ H a o) (k : H' a = H a) : OR Z ρ' H' a o := by
  cases o with
  | lst xs => obtain ⟨vs, h1, h2⟩ := h; exact ⟨vs, k.trans h1, h2.ext e⟩
  | dic xs => obtain ⟨vs, h1, h2⟩ := h; exact ⟨vs, k.trans h1, h2.ext e⟩
  | dit xs => obtain ⟨vs, h1, h2⟩ := h; exact ⟨vs, k.trans h1, h2.ext e⟩
  | ins C fs => obtain ⟨dx, vs, h1, h2⟩ := h; exact ⟨dx, vs, k.trans h1, h2.ext e⟩
  | fdi xs => obtain ⟨dx, vs, h1, h2⟩ := h; exact ⟨dx, vs, k.trans h1, h2.ext e⟩
theorem OR.notStill {Z : Zt} {ρ : List Addr} {H : Hp} {a : Addr} {o : MO} (h : OR Z ρ H a o) {u : HO} (e : H a = some u) (hop : o.opn = true) : ¬ Still u := by
  cases o with
  | lst xs => obtain ⟨vs, h1, _⟩ := h; rw [h1] at e; cases e; exact fun z => z
  | dic xs => obtain ⟨vs, h1, _⟩ := h; rw [h1] at e; cases e; exact fun z => z
  | dit xs => obtain ⟨vs, h1, _⟩ := h; rw [h1] at e; cases e; exact fun z => z
  | ins C fs => obtain ⟨dx, vs, h1, _⟩ := h; rw [h1] at e; cases e; exact fun z => z
  | fdi xs => cases hop
theorem OR.some {Z : Zt} {ρ : List Addr} {H : Hp} {a : Addr} {o : MO} (h : OR Z ρ H a o) : ∃ u, H a = some u := by
  cases o with
  | lst xs => obtain ⟨vs, h1, _⟩ := h; exact ⟨_, h1⟩
  | dic xs => obtain ⟨vs, h1, _⟩ := h; exact ⟨_, h1⟩
  | dit xs => obtain ⟨vs, h1, _⟩ := h; exact ⟨_, h1⟩
  | ins C fs => obtain ⟨dx, vs, h1, _⟩ := h; exact ⟨_, h1⟩
  | fdi xs => obtain ⟨dx, vs, h1, _⟩ := h; exact ⟨_, h1⟩
section
variable {Z : Zt} {ρ : List Addr} {h : MH} {H : Hp}
theorem upd_none {p a : Addr} {u : HO} (e : upd H p u a = none) : H a = none := by
  by_cases q : a = p
  · subst q; rw [upd_same] at e; cases e
  · rw [upd_ne q] at e; exact e
/-- a thing that never changes is added at a new place -/
theorem Ext.still1 {p : Addr} {u : HO} (hp : H p = none) : Ext ρ H ρ (upd H p u) :=
  ⟨⟨[], by simp⟩, fun a o e _ => by rw [upd_ne (ne_of_none e hp)]; exact e, fun a e => upd_none e⟩
theorem HR.still1 (R : HR Z ρ h H) {p : Addr} {u : HO} (hp : H p = none) : HR Z ρ h (upd H p u) := by
  refine ⟨R.nodup, R.len, fun i o e => ?_, R.has⟩
  obtain ⟨a, h1, h2⟩ := R.all i o e
  obtain ⟨u', h3⟩ := h2.some
  exact ⟨a, h1, h2.ext (Ext.still1 hp) (upd_ne (ne_of_none h3 hp))⟩
/-- a new thing -/
theorem Ext.push {p : Addr} {u : HO} (hp : H p = none) : Ext ρ H (ρ ++ [p]) (upd H p u) :=
  ⟨⟨[p], rfl, fun a ha => by rw [List.mem_singleton.mp ha]; exact hp⟩, fun a o e _ => by rw [upd_ne (ne_of_none e hp)]; exact e, fun a e => upd_none e⟩
theorem HR.push (R : HR Z ρ h H) {p : Addr} {u : HO} {o : MO} (hp : H p = none) (ho : OR Z (ρ ++ [p]) (upd H p u) p o) : HR Z (ρ ++ [p]) (h.push o) (upd H p u) := by
  refine ⟨?_, ?_, fun i o' e => ?_, fun i hi => ?_⟩
  · refine List.nodup_append.mpr ⟨R.nodup, by simp, fun a ha b hb => ?_⟩
    obtain ⟨i, hi, rfl⟩ := List.getElem_of_mem ha
    obtain rfl : b = p := by simpa using hb
    obtain ⟨o', e⟩ := Option.isSome_iff_exists.mp (R.has i (by rw [← R.len]; exact hi))
    obtain ⟨a', h1, h2⟩ := R.all i o' e
    obtain ⟨u', h3⟩ := h2.some
    rw [List.getElem?_eq_getElem hi] at h1
    cases h1
    exact ne_of_none h3 hp
  · show (ρ ++ [p]).length = h.n + 1
    rw [List.length_append, R.len]; rfl
  · rw [MH.get_push] at e
    by_cases hi : i = h.n
    · rw [if_pos hi] at e
      cases e
      subst hi
      exact ⟨p, by rw [← R.len]; simp, ho⟩
    · rw [if_neg hi] at e
      obtain ⟨a, h1, h2⟩ := R.all i o' e
      obtain ⟨u', h3⟩ := h2.some
      exact ⟨a, (Ext.push (u := u) hp).at h1, h2.ext (Ext.push hp) (upd_ne (ne_of_none h3 hp))⟩
  · rw [MH.get_push]
    by_cases e : i = h.n
    · rw [if_pos e]; rfl
    · rw [if_neg e]; exact R.has i (by have : i < h.n + 1 := hi; omega)
/-- a thing is changed -/
theorem Ext.set {a : Addr} {u : HO} (ha : a ∈ ρ) (hn : ∀ o, H a = some o → ¬ Still o) : Ext ρ H ρ (upd H a u) :=
  ⟨⟨[], by simp⟩, fun b o e s => by
    by_cases hb : b = a
    · subst hb
      rcases s with s | s
      · exact absurd s (hn o e)
      · exact absurd ha s
    · rw [upd_ne hb]; exact e, fun a e => upd_none e⟩
theorem HR.set (R : HR Z ρ h H) {i : Nat} {a : Addr} {u : HO} {o o' : MO} (ho : h.get i = some o) (ha : ρ[i]? = some a) (hu : OR Z ρ (upd H a u) a o') (hop : o.opn = true := by rfl) : HR Z ρ (h.set i o') (upd H a u) := by
  have hi := MH.get_lt ho
  have hn : ∀ o, H a = some o → ¬ Still o := fun u' e => by
    obtain ⟨a', h1, h2⟩ := R.all i o ho
    rw [ha] at h1; cases h1
    exact h2.notStill e hop
  refine ⟨R.nodup, R.len, fun j q e => ?_, fun j hj => ?_⟩
  · rw [MH.get_set hi] at e
    by_cases hj : j = i
    · rw [if_pos hj] at e
      cases e
      subst hj
      exact ⟨a, ha, hu⟩
    · rw [if_neg hj] at e
      obtain ⟨b, h1, h2⟩ := R.all j q e
      refine ⟨b, h1, h2.ext (Ext.set (List.mem_of_getElem? ha) hn) (upd_ne fun z => hj ?_)⟩
      subst z
      have l1 := (List.getElem?_eq_some_iff.mp h1)
      have l2 := (List.getElem?_eq_some_iff.mp ha)
      obtain ⟨q1, q2⟩ := l1
      obtain ⟨q3, q4⟩ := l2
      exact (List.getElem?_inj q1 R.nodup).mp (h1.trans ha.symm)
  · rw [MH.get_set hi]
    by_cases e : j = i
    · rw [if_pos e]; rfl
    · rw [if_neg e]; exact R.has j hj
end
end MI
set_option Elab.async false
set_option linter.all false
set_option maxRecDepth 100000
set_option maxHeartbeats 4000000
namespace MI
open PySem PySem.Spec PyProof.Rows L2 JB
/-- an error under way: of a class of the program's own, with its fields; of a built-in class -/
inductive MX where
  | own (C : Nat) (fs : List (Nat × MV)) | typ (s : String)
inductive Out (α : Type) where
  | bad | ok (a : α) (h : MH) | er (x : MX) (h : MH)
namespace Out
def bind {α β : Type} (o : Out α) (k : α → MH → Out β) : Out β := match o with
  | bad => bad
  | ok a h => k a h
  | er x h => er x h
end Out
abbrev ML := List (Option MV)
abbrev ME := ML → MH → Out MV
abbrev MA := ML → MH → Out (List MV)
abbrev MT := ML → MH → Out Bool
/-- how an error is held -/
def XR (Z : Zt) (ρ : List Addr) (H : Hp) (E : XK) : MX → Prop
  | .own C fs => ∀ d vs, H d = some (.xd vs) → RKs nm Z ρ H fs vs → E (.ref (Z.adr C)) (some d) H
  | .typ s => E (.type s) none H
abbrev Rl (α β : Type) := List Addr → Hp → α → β → Prop
/-- what is wanted behind a piece -/
def Post {α β : Type} (Z : Zt) (R : Rl α β) (ρ : List Addr) (H : Hp) (Q : β → Hp → Prop) (E : XK) : Out α → Prop
  | .bad => False
  | .ok a h' => ∀ ρ' H' b, Ext ρ H ρ' H' → HR Z ρ' h' H' → R ρ' H' a b → Q b H'
  | .er x h' => ∀ ρ' H', Ext ρ H ρ' H' → HR Z ρ' h' H' → XR Z ρ' H' E x
abbrev rV (Z : Zt) : Rl MV V := fun ρ H x v => RV Z ρ H x v
abbrev rVs (Z : Zt) : Rl (List MV) (List V) := fun ρ H x v => RVs Z ρ H x v
abbrev rB : Rl Bool Bool := fun _ _ x v => x = v
abbrev rU : Rl Unit Unit := fun _ _ _ _ => True
section
variable {α β γ δ : Type} {Z : Zt} {ρ : List Addr} {h : MH} {H : Hp} {E : XK}
theorem Post.mono {R : Rl α β} {Q Q' : β → Hp → Prop} {o : Out α} (p : Post Z R ρ H Q E o) (k : ∀ b H', Q b H' → Q' b H') : Post Z R ρ H Q' E o := by
  cases o with
  | bad => exact p
  | ok a h' => exact fun ρ' H' b e r q => k _ _ (p ρ' H' b e r q)
  | er x h' => exact p
theorem Post.ext {R : Rl α β} {Q : β → Hp → Prop} {ρ1 : List Addr} {H1 : Hp} {o : Out α} (p : Post Z R ρ H Q E o) (e1 : Ext ρ H ρ1 H1) : Post Z R ρ1 H1 Q E o := by
  cases o with
  | bad => exact p
  | ok a h' => exact fun ρ' H' b e r q => p ρ' H' b (e1.trans e) r q
  | er x h' => exact fun ρ' H' e r => p ρ' H' (e1.trans e) r
theorem Post.bind {R : Rl α β} {R' : Rl γ δ} {Q : δ → Hp → Prop} {o : Out α} {k : α → MH → Out γ} (p : Post Z R' ρ H Q E (o.bind k)) :
    Post Z R ρ H (fun b H1 => ∃ ρ1 h1 a, Ext ρ H ρ1 H1 ∧ HR Z ρ1 h1 H1 ∧ R ρ1 H1 a b ∧ Post Z R' ρ1 H1 Q E (k a h1)) E o := by
  cases o with
  | bad => exact p
  | ok a h' => exact fun ρ1 H1 b e r q => ⟨ρ1, h', a, e, r, q, Post.ext (o := k a h') p e⟩
  | er x h' => exact p
theorem Post.ok {R : Rl α β} {Q : β → Hp → Prop} {a : α} {b : β} (p : Post Z R ρ H Q E (.ok a h)) (r : HR Z ρ h H) (q : R ρ H a b) : Q b H := p ρ H b .refl r q
end
/-- the slots and the heap -/
structure SR (Z : Zt) (ρ : List Addr) (m : ML) (h : MH) (σ : L2.St) (H : Hp) : Prop where
  hr : HR Z ρ h H
  len : m.length = σ.length
  slot : ∀ (i : Nat) (x : MV), m[i]? = some (some x) → ∃ v, σ[i]? = some (some v) ∧ RV Z ρ H x v
theorem SR.to {Z : Zt} {ρ ρ' : List Addr} {m : ML} {h h' : MH} {σ : L2.St} {H H' : Hp} (s : SR Z ρ m h σ H) (e : Ext ρ H ρ' H') (r : HR Z ρ' h' H') : SR Z ρ' m h' σ H' :=
  ⟨r, s.len, fun i x k => by obtain ⟨v, h1, h2⟩ := s.slot i x k; exact ⟨v, h1, h2.ext e⟩⟩
theorem SR.set {Z : Zt} {ρ : List Addr} {m : ML} {h : MH} {σ : L2.St} {H : Hp} {x : MV} {v : V} (s : SR Z ρ m h σ H) (i : Nat) (r : RV Z ρ H x v) : SR Z ρ (m.set i (some x)) h (σ.set i (some v)) H := by
  refine ⟨s.hr, by simp [s.len], fun j y k => ?_⟩
  by_cases e : j = i
  · subst e
    rw [List.getElem?_set] at k
    rw [if_pos rfl] at k
    split at k
    · rename_i hl
      cases k
      exact ⟨v, by rw [List.getElem?_set, if_pos rfl, if_pos (by rw [← s.len]; exact hl)], r⟩
    · cases k
  · rw [List.getElem?_set_ne (Ne.symm e)] at k ⊢
    exact s.slot j y k
/-- readings -/
def tE (Z : Zt) (E : XK) (g : ME) : TE := fun σ H Q => ∃ ρ m h, SR Z ρ m h σ H ∧ Post Z (rV Z) ρ H Q E (g m h)
def tA (Z : Zt) (E : XK) (g : MA) : TA := fun σ H Q => ∃ ρ m h, SR Z ρ m h σ H ∧ Post Z (rVs Z) ρ H Q E (g m h)
def tT (Z : Zt) (E : XK) (g : MT) : TT := fun σ H Q => ∃ ρ m h, SR Z ρ m h σ H ∧ Post Z rB ρ H Q E (g m h)
abbrev JE (X : Cx) (T : Nat → Addr) (E : XK) (e : Expr) (g : ME) : Prop := PE X e (tE ⟨X.K, T⟩ E g)
abbrev JA (X : Cx) (T : Nat → Addr) (E : XK) (e : List Expr) (g : MA) : Prop := PA X e (tA ⟨X.K, T⟩ E g)
abbrev JT (X : Cx) (T : Nat → Addr) (E : XK) (e : Expr) (g : MT) : Prop := PT X e (tT ⟨X.K, T⟩ E g)
abbrev JW (X : Cx) (T : Nat → Addr) (E : XK) (e : Expr) (g : MT) : Prop := PW X e (tT ⟨X.K, T⟩ E g)
section
variable {X : Cx} {E : XK} {e a b c : Expr} {es : List Expr} {pos : Pos}
theorem PE.le {t t' : TE} (p : PE X e t) (k : ∀ σ H Q, t' σ H Q → t σ H Q) : PE X e t' := ⟨fun pins s σ H Q I h => p.run pins s σ H Q I (k σ H Q h)⟩
theorem PA.le {t t' : TA} (p : PA X es t) (k : ∀ σ H Q, t' σ H Q → t σ H Q) : PA X es t' := ⟨fun po pins s σ H Q I h => p.run po pins s σ H Q I (k σ H Q h)⟩
theorem PT.le {t t' : TT} (p : PT X e t) (k : ∀ σ H Q, t' σ H Q → t σ H Q) : PT X e t' := ⟨fun pins s σ H Q I h => p.run pins s σ H Q I (k σ H Q h)⟩
theorem PW.le {t t' : TT} (p : PW X e t) (k : ∀ σ H Q, t' σ H Q → t σ H Q) : PW X e t' := ⟨fun w pins s σ H Q I h => p.run w pins s σ H Q I (k σ H Q h)⟩
end
section
variable {γ δ : Type} {Z : Zt} {E : XK} {ρ : List Addr} {m : ML} {h : MH} {σ : L2.St} {H : Hp}
theorem stepE {R' : Rl γ δ} {Q : δ → Hp → Prop} {Q' : V → Hp → Prop} {g : ME} {k : MV → MH → Out γ} (s : SR Z ρ m h σ H) (p : Post Z R' ρ H Q E ((g m h).bind k))
    (n : ∀ ρ1 h1 H1 a v, SR Z ρ1 m h1 σ H1 → Ext ρ H ρ1 H1 → RV Z ρ1 H1 a v → Post Z R' ρ1 H1 Q E (k a h1) → Q' v H1) : tE Z E g σ H Q' :=
  ⟨ρ, m, h, s, p.bind.mono fun b H' ⟨ρ1, h1, a, e, r, q, z⟩ => n ρ1 h1 H' a b (s.to e r) e q z⟩
theorem stepA {R' : Rl γ δ} {Q : δ → Hp → Prop} {Q' : List V → Hp → Prop} {g : MA} {k : List MV → MH → Out γ} (s : SR Z ρ m h σ H) (p : Post Z R' ρ H Q E ((g m h).bind k))
    (n : ∀ ρ1 h1 H1 a v, SR Z ρ1 m h1 σ H1 → Ext ρ H ρ1 H1 → RVs Z ρ1 H1 a v → Post Z R' ρ1 H1 Q E (k a h1) → Q' v H1) : tA Z E g σ H Q' :=
  ⟨ρ, m, h, s, p.bind.mono fun b H' ⟨ρ1, h1, a, e, r, q, z⟩ => n ρ1 h1 H' a b (s.to e r) e q z⟩
theorem stepT {R' : Rl γ δ} {Q : δ → Hp → Prop} {Q' : Bool → Hp → Prop} {g : MT} {k : Bool → MH → Out γ} (s : SR Z ρ m h σ H) (p : Post Z R' ρ H Q E ((g m h).bind k))
    (n : ∀ ρ1 h1 H1 a, SR Z ρ1 m h1 σ H1 → Ext ρ H ρ1 H1 → Post Z R' ρ1 H1 Q E (k a h1) → Q' a H1) : tT Z E g σ H Q' :=
  ⟨ρ, m, h, s, p.bind.mono fun b H' ⟨ρ1, h1, a, e, r, q, z⟩ => by have q' : a = b := q; rw [← q']; exact n ρ1 h1 H' a (s.to e r) e z⟩
/-- at the end of a chain -/
theorem endE {Q : VK} {g : ME} (s : SR Z ρ m h σ H) (p : Post Z (rV Z) ρ H Q E (g m h)) : tE Z E g σ H Q := ⟨ρ, m, h, s, p⟩
end
def gVar (i : Nat) : ME := fun m h => match m[i]? with
  | some (some v) => .ok v h
  | _ => .bad
def gC (v : MV) : ME := fun _ h => .ok v h
def gBin (f : MV → MV → MH → Out MV) (a b : ME) : ME := fun m h => (a m h).bind fun x h1 => (b m h1).bind fun y h2 => f x y h2
def gUn (f : MV → MH → Out MV) (a : ME) : ME := fun m h => (a m h).bind fun x h1 => f x h1
def gNil : MA := fun _ h => .ok [] h
def gCons (a : ME) (r : MA) : MA := fun m h => (a m h).bind fun x h1 => (r m h1).bind fun xs h2 => .ok (x :: xs) h2
def gTup (r : MA) : ME := fun m h => (r m h).bind fun xs h1 => if xs.length ≤ 1000000 then .ok (.tup xs) h1 else .bad
def gLst (r : MA) : ME := fun m h => (r m h).bind fun xs h1 => if xs.length ≤ 1000000 then .ok (.ref h1.n) (h1.push (.lst xs)) else .bad
def gIf (c : MT) (a b : ME) : ME := fun m h => (c m h).bind fun d h1 => if d = true then a m h1 else b m h1
/-- a value as a test: bools alone -/
def gB (a : ME) : MT := fun m h => (a m h).bind fun x h1 => match x with
  | .bl b => .ok b h1
  | _ => .bad
def gAnd (a b : MT) : MT := fun m h => (a m h).bind fun c h1 => if c = true then b m h1 else .ok false h1
def gOr (a b : MT) : MT := fun m h => (a m h).bind fun c h1 => if c = true then .ok true h1 else b m h1
def gNot (a : MT) : MT := fun m h => (a m h).bind fun c h1 => .ok (!c) h1
def gAndV (a b : ME) : ME := fun m h => (a m h).bind fun x h1 => match x with
  | .bl true => b m h1
  | .bl false => .ok (.bl false) h1
  | _ => .bad
def gOrV (a b : ME) : ME := fun m h => (a m h).bind fun x h1 => match x with
  | .bl true => .ok (.bl true) h1
  | .bl false => b m h1
  | _ => .bad
def gNotV (a : ME) : ME := fun m h => (a m h).bind fun x h1 => match x with
  | .bl b => .ok (.bl (!b)) h1
  | _ => .bad
section
variable {X : Cx} {T : Nat → Addr} {E : XK} {e a b c : Expr} {es rest : List Expr} {pos : Pos} {ga gb : ME} {gr : MA} {gt gu : MT}
theorem je_var {i : Nat} {x : Str} (p : PE X (.Name x pos) (tVar i)) : JE X T E (.Name x pos) (gVar i) := by
  refine PE.le p fun σ H Q ⟨ρ, m, h, s, q⟩ => ?_
  unfold gVar at q
  cases k : m[i]? with
  | none => rw [k] at q; exact q.elim
  | some o =>
    cases o with
    | none => rw [k] at q; exact q.elim
    | some v =>
      rw [k] at q
      obtain ⟨w, h1, h2⟩ := s.slot i v k
      exact ⟨w, h1, q.ok s.hr h2⟩
theorem je_c {v : MV} {w : V} (p : PE X e (tC w)) (r : ∀ ρ H, RV ⟨X.K, T⟩ ρ H v w) : JE X T E e (gC v) :=
  PE.le p fun σ H Q ⟨ρ, m, h, s, q⟩ => q.ok s.hr (r ρ H)
theorem je_int {i j} : JE X T E (.Constant (.int i) j pos) (gC (.int i)) := je_c pe_int fun _ _ => .int _
theorem je_bl {i j} : JE X T E (.Constant (.bool i) j pos) (gC (.bl i)) := je_c pe_bl fun _ _ => .bl _
theorem je_str {i j} {l : List Nat} (h : i = ⟨l.toArray⟩ := by rfl) : JE X T E (.Constant (.str i) j pos) (gC (.str l)) := je_c pe_str fun _ _ => by rw [h]; exact .str _
theorem je_non {j} : JE X T E (.Constant .none j pos) (gC .non) := je_c pe_non fun _ _ => .non
theorem ja_nil : JA X T E [] gNil := PA.le pa_nil fun σ H Q ⟨ρ, m, h, s, q⟩ => q.ok s.hr .nil
theorem ja_cons (ha : JE X T E e ga) (hr : JA X T E es gr) (hs : starEach (e :: es) X.env = (false, eval e X.env) :: starEach es X.env := by rfl) : JA X T E (e :: es) (gCons ga gr) :=
  PA.le (pa_cons ha hr hs) fun σ H Q ⟨ρ, m, h, s, q⟩ => stepE s q fun ρ1 h1 H1 x v s1 e1 r1 q1 => stepA s1 q1 fun ρ2 h2 H2 xs vs s2 e2 r2 q2 => q2.ok s2.hr (.cons (r1.ext e2) r2)
/-- two operands, by values -/
def OpM (Z : Zt) (E : XK) (f : MV → MV → MH → Out MV) (r : R2) : Prop :=
  ∀ ρ h H x y v w Q, HR Z ρ h H → RV Z ρ H x v → RV Z ρ H y w → Post Z (rV Z) ρ H Q E (f x y h) → r v w H Q
theorem le_op {f : MV → MV → MH → Out MV} {r : R2} (o : OpM ⟨X.K, T⟩ E f r) : ∀ σ H Q, tE ⟨X.K, T⟩ E (gBin f ga gb) σ H Q → tOp r (tE ⟨X.K, T⟩ E ga) (tE ⟨X.K, T⟩ E gb) σ H Q :=
  fun σ H Q ⟨ρ, m, h, s, q⟩ => stepE s q fun ρ1 h1 H1 x v s1 e1 r1 q1 => stepE s1 q1 fun ρ2 h2 H2 y w s2 e2 r2 q2 => o ρ2 h2 H2 x y v w Q s2.hr (r1.ext e2) r2 q2
theorem je_op {op : Operator} {f : MV → MV → MH → Out MV} {r : R2} (ho : OpR X (binaryOp op) r) (o : OpM ⟨X.K, T⟩ E f r) (ha : JE X T E a ga) (hb : JE X T E b gb) : JE X T E (.BinOp a op b pos) (gBin f ga gb) :=
  PE.le (pe_op ho ha hb) (le_op o)
theorem je_cmp {op : CmpOp} {f : MV → MV → MH → Out MV} {r : R2} (ho : OpR X (compareOp op) r) (o : OpM ⟨X.K, T⟩ E f r) (ha : JE X T E a ga) (hb : JE X T E b gb) (hm : behindInMarks op b = false) : JE X T E (.Compare a [op] [b] pos) (gBin f ga gb) :=
  PE.le (pe_cmpR ho ha hb hm) (le_op o)
theorem jt_cmp {op : CmpOp} {f : MV → MV → MH → Out MV} {r : R2} (ho : OpR X (compareOp op) r) (o : OpM ⟨X.K, T⟩ E f r) (ha : JE X T E a ga) (hb : JE X T E b gb) (hm : behindInMarks op b = false) : JT X T E (.Compare a [op] [b] pos) (gB (gBin f ga gb)) := by
  refine PT.le (pt_cmpR ho ha hb hm) fun σ H Q ⟨ρ, m, h, s, q⟩ => ?_
  have : tE ⟨X.K, T⟩ E (gBin f ga gb) σ H fun x H1 => ∃ c, x = .bl c ∧ Q c H1 := stepE s q fun ρ1 h1 H1 x v s1 e1 r1 q1 => by
    cases r1 with
    | bl b => exact ⟨b, rfl, q1.ok s1.hr rfl⟩
    | _ => exact q1.elim
  exact le_op o σ H _ this
theorem jt_val (ha : JE X T E e ga) (he : ∀ whole, isTrue e X.env whole = (do let v ← whole; standAt e.pos; holding [v] (truthy v)) := by intro _; rfl) : JT X T E e (gB ga) :=
  PT.le (pt_val ha he) fun σ H Q ⟨ρ, m, h, s, q⟩ => stepE s q fun ρ1 h1 H1 x v s1 e1 r1 q1 => by
    cases r1 with
    | bl b => exact ⟨b, rfl, q1.ok s1.hr rfl⟩
    | _ => exact q1.elim
theorem RVs.length {Z : Zt} {ρ : List Addr} {H : Hp} {xs : List MV} {vs : List V} : RVs Z ρ H xs vs → xs.length = vs.length
  | .nil => rfl
  | .cons _ r => by simp [RVs.length r]
theorem je_tup {x1} (h : JA X T E es gr) : JE X T E (.Tuple es x1 pos) (gTup gr) :=
  PE.le (pe_tup h) fun σ H Q ⟨ρ, m, h, s, q⟩ => stepA s q fun ρ1 h1 H1 xs vs s1 e1 r1 q1 => by
    by_cases z : xs.length ≤ 1000000
    · rw [if_pos z] at q1
      refine ⟨by rw [← r1.length, sizeLine_eq]; omega, fun p hp => ?_⟩
      exact q1 ρ1 _ _ (Ext.still1 hp) (s1.hr.still1 hp) (.tup upd_same (r1.ext (Ext.still1 hp)))
    · rw [if_neg z] at q1
      exact q1.elim
theorem je_lst (h : JA X T E es gr) : JE X T E (.List es pos) (gLst gr) :=
  PE.le (pe_lst h) fun σ H Q ⟨ρ, m, h, s, q⟩ => stepA s q fun ρ1 h1 H1 xs vs s1 e1 r1 q1 => by
    by_cases z : xs.length ≤ 1000000
    · rw [if_pos z] at q1
      refine ⟨by rw [← r1.length, sizeLine_eq]; omega, fun p hp => ?_⟩
      refine q1 (ρ1 ++ [p]) _ _ (Ext.push hp) (s1.hr.push hp ⟨vs, upd_same, r1.ext (Ext.push hp)⟩) (.ref ?_)
      rw [← s1.hr.len]; simp
    · rw [if_neg z] at q1
      exact q1.elim
theorem je_if {c : Expr} (hc : JT X T E c gt) (ha : JE X T E a ga) (hb : JE X T E b gb) : JE X T E (.IfExp c a b pos) (gIf gt ga gb) :=
  PE.le (pe_ifExp hc ha hb) fun σ H Q ⟨ρ, m, h, s, q⟩ => stepT s q fun ρ1 h1 H1 d s1 e1 q1 => by
    cases d with
    | true => exact endE s1 q1
    | false => exact endE s1 q1
theorem jw_and1 (ha : JT X T E a gt) : JW X T E (.BoolOp .And [a] pos) gt := pw_and1 ha
theorem jw_or1 (ha : JT X T E a gt) : JW X T E (.BoolOp .Or [a] pos) gt := pw_or1 ha
theorem endT {Z : Zt} {ρ : List Addr} {m : ML} {h : MH} {σ : L2.St} {H : Hp} {Q : Bool → Hp → Prop} {g : MT} (s : SR Z ρ m h σ H) (p : Post Z rB ρ H Q E (g m h)) : tT Z E g σ H Q := ⟨ρ, m, h, s, p⟩
theorem jw_and (ha : JT X T E a gt) (hb : JW X T E (.BoolOp .And (b :: rest) pos) gu) : JW X T E (.BoolOp .And (a :: b :: rest) pos) (gAnd gt gu) :=
  PW.le (pw_and ha hb) fun σ H Q ⟨ρ, m, h, s, q⟩ => stepT s q fun ρ1 h1 H1 d s1 e1 q1 => by
    cases d with
    | true => exact endT s1 q1
    | false => exact q1.ok s1.hr rfl
theorem jw_or (ha : JT X T E a gt) (hb : JW X T E (.BoolOp .Or (b :: rest) pos) gu) : JW X T E (.BoolOp .Or (a :: b :: rest) pos) (gOr gt gu) :=
  PW.le (pw_or ha hb) fun σ H Q ⟨ρ, m, h, s, q⟩ => stepT s q fun ρ1 h1 H1 d s1 e1 q1 => by
    cases d with
    | true => exact q1.ok s1.hr rfl
    | false => exact endT s1 q1
theorem jt_not (ha : JT X T E a gt) : JT X T E (.UnaryOp .Not a pos) (gNot gt) :=
  PT.le (pt_not ha) fun σ H Q ⟨ρ, m, h, s, q⟩ => stepT s q fun ρ1 h1 H1 d s1 e1 q1 => q1.ok s1.hr rfl
theorem je_one {op} (ha : JE X T E a ga) : JE X T E (.BoolOp op [a] pos) ga := pe_one ha
theorem je_and (ha : JE X T E a ga) (hb : JE X T E (.BoolOp .And (b :: rest) pos) gb) : JE X T E (.BoolOp .And (a :: b :: rest) pos) (gAndV ga gb) :=
  PE.le (pe_and ha hb) fun σ H Q ⟨ρ, m, h, s, q⟩ => stepE s q fun ρ1 h1 H1 x v s1 e1 r1 q1 => by
    cases r1 with
    | bl d =>
      refine ⟨d, rfl, ?_⟩
      cases d with
      | true => exact endE s1 q1
      | false => exact q1.ok s1.hr (.bl _)
    | _ => exact q1.elim
theorem je_or (ha : JE X T E a ga) (hb : JE X T E (.BoolOp .Or (b :: rest) pos) gb) : JE X T E (.BoolOp .Or (a :: b :: rest) pos) (gOrV ga gb) :=
  PE.le (pe_or ha hb) fun σ H Q ⟨ρ, m, h, s, q⟩ => stepE s q fun ρ1 h1 H1 x v s1 e1 r1 q1 => by
    cases r1 with
    | bl d =>
      refine ⟨d, rfl, ?_⟩
      cases d with
      | true => exact q1.ok s1.hr (.bl _)
      | false => exact endE s1 q1
    | _ => exact q1.elim
theorem je_not (ha : JE X T E a ga) : JE X T E (.UnaryOp .Not a pos) (gNotV ga) :=
  PE.le (pe_not ha) fun σ H Q ⟨ρ, m, h, s, q⟩ => stepE s q fun ρ1 h1 H1 x v s1 e1 r1 q1 => by
    cases r1 with
    | bl d => exact ⟨d, rfl, q1.ok s1.hr (.bl _)⟩
    | _ => exact q1.elim
end
end MI
set_option Elab.async false
set_option linter.all false
set_option maxRecDepth 100000
set_option maxHeartbeats 4000000
namespace MI
open PySem PySem.Spec PyProof.Rows L2 JB
inductive SO where
  | bad | nx (m : ML) (h : MH) | rt (v : MV) (h : MH) | bk (m : ML) (h : MH) | ct (m : ML) (h : MH) | er (x : MX) (h : MH)
def Out.bindS {α : Type} (o : Out α) (k : α → MH → SO) : SO := match o with
  | .bad => .bad
  | .ok a h => k a h
  | .er x h => .er x h
def SO.next (o : SO) (k : ML → MH → SO) : SO := match o with
  | .nx m h => k m h
  | o => o
abbrev MS := ML → MH → SO
/-- it goes on, or an error is under way -/
def SO.only : SO → SO
  | .nx m h => .nx m h
  | .er x h => .er x h
  | _ => .bad
abbrev MG := MV → ML → MH → SO
def PostS (Z : Zt) (ρ : List Addr) (H : Hp) (D : Ends) (E : XK) : SO → Prop
  | .bad => False
  | .nx m' h' => ∀ ρ' H' σ', Ext ρ H ρ' H' → SR Z ρ' m' h' σ' H' → D.nx σ' H'
  | .rt x h' => ∀ ρ' H' v, Ext ρ H ρ' H' → HR Z ρ' h' H' → RV Z ρ' H' x v → D.rt v H'
  | .bk m' h' => ∀ ρ' H' σ', Ext ρ H ρ' H' → SR Z ρ' m' h' σ' H' → D.bk σ' H'
  | .ct m' h' => ∀ ρ' H' σ', Ext ρ H ρ' H' → SR Z ρ' m' h' σ' H' → D.ct σ' H'
  | .er x h' => ∀ ρ' H', Ext ρ H ρ' H' → HR Z ρ' h' H' → XR Z ρ' H' E x
def tS (Z : Zt) (E : XK) (g : MS) : TS := fun D σ H => ∃ ρ m h, SR Z ρ m h σ H ∧ PostS Z ρ H D E (g m h)
def tG (Z : Zt) (E : XK) (g : MG) : TG := fun v σ H Q => ∃ ρ m h x, SR Z ρ m h σ H ∧ RV Z ρ H x v ∧ PostS Z ρ H { nx := Q, rt := fun _ _ => False } E (g x m h)
abbrev JS (X : Cx) (T : Nat → Addr) (E : XK) (st : Stmt) (g : MS) : Prop := PS X st (tS ⟨X.K, T⟩ E g)
abbrev JSs (X : Cx) (T : Nat → Addr) (E : XK) (st : List Stmt) (g : MS) : Prop := PSs X st (tS ⟨X.K, T⟩ E g)
abbrev JG (X : Cx) (T : Nat → Addr) (E : XK) (e : Expr) (g : MG) : Prop := PG X e (tG ⟨X.K, T⟩ E g)
section
variable {Z : Zt} {E : XK} {ρ : List Addr} {m : ML} {h : MH} {σ : L2.St} {H : Hp} {D : Ends}
theorem PostS.ext {ρ1 : List Addr} {H1 : Hp} {o : SO} (p : PostS Z ρ H D E o) (e1 : Ext ρ H ρ1 H1) : PostS Z ρ1 H1 D E o := by
  cases o with
  | bad => exact p
  | nx m' h' => exact fun ρ' H' b e r => p ρ' H' b (e1.trans e) r
  | bk m' h' => exact fun ρ' H' b e r => p ρ' H' b (e1.trans e) r
  | ct m' h' => exact fun ρ' H' b e r => p ρ' H' b (e1.trans e) r
  | rt v h' => exact fun ρ' H' b e r q => p ρ' H' b (e1.trans e) r q
  | er x h' => exact fun ρ' H' e r => p ρ' H' (e1.trans e) r
theorem PostS.bind {α β : Type} {R : Rl α β} {o : Out α} {k : α → MH → SO} (p : PostS Z ρ H D E (o.bindS k)) :
    Post Z R ρ H (fun b H1 => ∃ ρ1 h1 a, Ext ρ H ρ1 H1 ∧ HR Z ρ1 h1 H1 ∧ R ρ1 H1 a b ∧ PostS Z ρ1 H1 D E (k a h1)) E o := by
  cases o with
  | bad => exact p
  | ok a h' => exact fun ρ1 H1 b e r q => ⟨ρ1, h', a, e, r, q, PostS.ext (o := k a h') p e⟩
  | er x h' => exact p
theorem sE {Q' : V → Hp → Prop} {g : ME} {k : MV → MH → SO} (s : SR Z ρ m h σ H) (p : PostS Z ρ H D E ((g m h).bindS k))
    (n : ∀ ρ1 h1 H1 a v, SR Z ρ1 m h1 σ H1 → Ext ρ H ρ1 H1 → RV Z ρ1 H1 a v → PostS Z ρ1 H1 D E (k a h1) → Q' v H1) : tE Z E g σ H Q' :=
  ⟨ρ, m, h, s, p.bind.mono fun b H' ⟨ρ1, h1, a, e, r, q, z⟩ => n ρ1 h1 H' a b (s.to e r) e q z⟩
theorem sT {Q' : Bool → Hp → Prop} {g : MT} {k : Bool → MH → SO} (s : SR Z ρ m h σ H) (p : PostS Z ρ H D E ((g m h).bindS k))
    (n : ∀ ρ1 h1 H1 a, SR Z ρ1 m h1 σ H1 → Ext ρ H ρ1 H1 → PostS Z ρ1 H1 D E (k a h1) → Q' a H1) : tT Z E g σ H Q' :=
  ⟨ρ, m, h, s, (PostS.bind (R := rB) p).mono fun b H' ⟨ρ1, h1, a, e, r, q, z⟩ => by have q' : a = b := q; rw [← q']; exact n ρ1 h1 H' a (s.to e r) e z⟩
theorem PostS.only {o : SO} (p : PostS Z ρ H D E o.only) : PostS Z ρ H { nx := D.nx, rt := fun _ _ => False } E o := by
  cases o with
  | nx m' h' => exact p
  | er x h' => exact p
  | bad => exact p.elim
  | rt v h' => exact p.elim
  | bk m' h' => exact p.elim
  | ct m' h' => exact p.elim
/-- two statements -/
theorem PostS.next {o : SO} {k : ML → MH → SO} (p : PostS Z ρ H D E (o.next k)) : PostS Z ρ H { D with nx := fun σ1 H1 => ∃ ρ1 m1 h1, SR Z ρ1 m1 h1 σ1 H1 ∧ PostS Z ρ1 H1 D E (k m1 h1) } E o := by
  cases o with
  | nx m' h' => exact fun ρ' H' σ' e s => ⟨ρ', m', h', s, PostS.ext (o := k m' h') p e⟩
  | bad => exact p
  | rt v h' => exact p
  | bk m' h' => exact p
  | ct m' h' => exact p
  | er x h' => exact p
end
def gNext : MS := fun m h => .nx m h
def gSeq (a b : MS) : MS := fun m h => (a m h).next b
def gExpr (a : ME) : MS := fun m h => (a m h).bindS fun _ h1 => .nx m h1
def gRet (a : ME) : MS := fun m h => (a m h).bindS fun x h1 => .rt x h1
def gRetN : MS := fun _ h => .rt .non h
def gBreak : MS := fun m h => .bk m h
def gCont : MS := fun m h => .ct m h
def gIfS (c : MT) (a b : MS) : MS := fun m h => (c m h).bindS fun d h1 => if d = true then a m h1 else b m h1
def gAsg (a : ME) (t : MG) : MS := fun m h => (a m h).bindS fun x h1 => (t x m h1).only
def tgName (i : Nat) : MG := fun x m h => .nx (m.set i (some x)) h
def gWhile (c : MT) (b : MS) : Nat → MS
  | 0, _, _ => .bad
  | n + 1, m, h => (c m h).bindS fun d h1 => if d = true then match b m h1 with
      | .nx m2 h2 => gWhile c b n m2 h2
      | .ct m2 h2 => gWhile c b n m2 h2
      | .bk m2 h2 => .nx m2 h2
      | o => o
    else .nx m h1
/-- what a for walks: what it gives at turn i (none: nothing is said; some none: it ends) -/
structure It1 where
  size : MH → Nat
  at_ : Nat → MH → Option (Option MV)
abbrev MI1 := ML → MH → Out It1
def gForN (it : It1) (t : MG) (b : MS) : Nat → Nat → MS
  | 0, _, _, _ => .bad
  | n + 1, i, m, h => match it.at_ i h with
    | none => .bad
    | some none => .nx m h
    | some (some x) => match t x m h with
      | .nx m1 h1 => match b m1 h1 with
        | .nx m2 h2 => gForN it t b n (i + 1) m2 h2
        | .ct m2 h2 => gForN it t b n (i + 1) m2 h2
        | .bk m2 h2 => .nx m2 h2
        | o => o
      | .er x h => .er x h
      | _ => .bad
def gFor (i : MI1) (t : MG) (b : MS) : MS := fun m h => (i m h).bindS fun it h1 => gForN it t b (it.size h1 + 1) 0 m h1
/-- the bond of what is walked -/
def rI (Z : Zt) : Rl It1 It := fun ρ H it J => ∀ i ρ' h' H', Ext ρ H ρ' H' → HR Z ρ' h' H' → match it.at_ i h' with
  | none => True
  | some none => J.stop i H'
  | some (some x) => J.go i H' ∧ ∀ v H'', J.yld i H' v H'' → ∃ ρ'', Ext ρ' H' ρ'' H'' ∧ HR Z ρ'' h' H'' ∧ RV Z ρ'' H'' x v
def tI (Z : Zt) (E : XK) (g : MI1) : TI := fun σ H R => ∃ ρ m h, SR Z ρ m h σ H ∧ Post Z (rI Z) ρ H R E (g m h)
abbrev JI (X : Cx) (T : Nat → Addr) (E : XK) (tg iter : Expr) (g : MI1) : Prop := PI X tg iter (tI ⟨X.K, T⟩ E g)
section
variable {X : Cx} {T : Nat → Addr} {E : XK} {e a b c : Expr} {st : Stmt} {rest body : List Stmt} {pos : Pos} {ga gb : ME} {gt : MT} {gs gu : MS} {gg : MG}
theorem PS.le {t t' : TS} (p : PS X st t) (k : ∀ D σ H, t' D σ H → t D σ H) : PS X st t' := ⟨fun pins s σ H D I h => p.run pins s σ H D I (k D σ H h)⟩
theorem PSs.le {t t' : TS} (p : PSs X rest t) (k : ∀ D σ H, t' D σ H → t D σ H) : PSs X rest t' := ⟨fun pins s σ H D I h => p.run pins s σ H D I (k D σ H h)⟩
theorem PG.le {t t' : TG} (p : PG X e t) (k : ∀ v σ H Q, t' v σ H Q → t v σ H Q) : PG X e t' := ⟨fun pins s σ H v u Q I r h => p.run pins s σ H v u Q I r (k v σ H Q h)⟩
theorem PI.le {t t' : TI} {tg : Expr} (p : PI X tg e t) (k : ∀ σ H Q, t' σ H Q → t σ H Q) : PI X tg e t' := ⟨fun pins s σ H R I h => p.run pins s σ H R I (k σ H R h)⟩
theorem js_nil : JSs X T E [] gNext := PSs.le pss_nil fun D σ H ⟨ρ, m, h, s, q⟩ => q ρ H σ .refl s
theorem js_cons (h1 : JS X T E st gs) (h2 : JSs X T E rest gu) : JSs X T E (st :: rest) (gSeq gs gu) :=
  PSs.le (pss_cons h1 h2) fun D σ H ⟨ρ, m, h, s, q⟩ => ⟨ρ, m, h, s, q.next⟩
theorem js_one (h1 : JS X T E st gs) : JSs X T E [st] gs := pss_one h1
theorem js_pass : JS X T E (.Pass pos) gNext := PS.le ps_pass fun D σ H ⟨ρ, m, h, s, q⟩ => q ρ H σ .refl s
theorem js_break : JS X T E (.Break pos) gBreak := PS.le ps_break fun D σ H ⟨ρ, m, h, s, q⟩ => q ρ H σ .refl s
theorem js_cont : JS X T E (.Continue pos) gCont := PS.le ps_continue fun D σ H ⟨ρ, m, h, s, q⟩ => q ρ H σ .refl s
theorem js_doc {x j pos'} : JS X T E (.Expr (.Constant (.str x) j pos) pos') gNext := PS.le ps_doc fun D σ H ⟨ρ, m, h, s, q⟩ => q ρ H σ .refl s
theorem js_expr (he : JE X T E e ga) (hs : swapsWith e none pos.line X.env = pure false := by rfl) : JS X T E (.Expr e pos) (gExpr ga) :=
  PS.le (ps_expr he hs) fun D σ H ⟨ρ, m, h, s, q⟩ => sE s q fun ρ1 h1 H1 x v s1 e1 r1 q1 => q1 ρ1 H1 σ .refl s1
theorem js_ret (he : JE X T E e ga) : JS X T E (.Return (some e) pos) (gRet ga) :=
  PS.le (ps_ret he) fun D σ H ⟨ρ, m, h, s, q⟩ => sE s q fun ρ1 h1 H1 x v s1 e1 r1 q1 => q1 ρ1 H1 v .refl s1.hr r1
theorem js_retN : JS X T E (.Return none pos) gRetN := PS.le ps_retN fun D σ H ⟨ρ, m, h, s, q⟩ => q ρ H .non .refl s.hr .non
theorem js_if {p q : List Stmt} (hc : JT X T E c gt) (ha : JSs X T E p gs) (hb : JSs X T E q gu) : JS X T E (.If c p q pos) (gIfS gt gs gu) :=
  PS.le (ps_if hc ha hb) fun D σ H ⟨ρ, m, h, s, q⟩ => sT s q fun ρ1 h1 H1 d s1 e1 q1 => by
    cases d with
    | true => exact ⟨ρ1, m, h1, s1, q1⟩
    | false => exact ⟨ρ1, m, h1, s1, q1⟩
/-- targets -/
theorem jg_name {i : Nat} {x : Str} (p : PG X (.Name x pos) (gName i)) : JG X T E (.Name x pos) (tgName i) :=
  PG.le p fun v σ H Q ⟨ρ, m, h, x, s, r, q⟩ => q ρ H _ .refl (s.set i r)
theorem js_asg {tg : Expr} (he : JE X T E e ga) (hg : JG X T E tg gg) (hs : swapsWithSole [tg] e pos.line X.env = pure false := by rfl) (hw : swappedStores [tg] e X.env = pure none := by rfl)
    (h1 : (assignEach [tg] X.env).map (·.2) = [assign tg X.env] := by rfl) : JS X T E (.Assign [tg] e pos) (gAsg ga gg) :=
  PS.le (ps_asg he hg hs hw h1) fun D σ H ⟨ρ, m, h, s, q⟩ => sE s q fun ρ1 h1 H1 x v s1 e1 r1 q1 => ⟨ρ1, m, h1, x, s1, r1, q1.only⟩
theorem js_set {i : Nat} {x : Str} {pos' : Pos} (hN : X.N.Nodup) (hi : X.N[i]? = some x) (hx : Loc X.env.scope x) (he : JE X T E e ga) (hs : swapsWith e (some (.Name x pos')) pos.line X.env = pure false := by rfl) (hf : X.fn x = true ∨ X.env.scope.names.lookup x = some .local := by first | exact .inl rfl | exact .inr rfl | assumption) :
    JS X T E (.Assign [.Name x pos'] e pos) (gAsg ga (tgName i)) :=
  PS.le (ps_set (i := i) hN hi hx he hs hf) fun D σ H ⟨ρ, m, h, s, q⟩ => sE s q fun ρ1 h1 H1 x v s1 e1 r1 q1 => q1 ρ1 H1 _ .refl (s1.set i r1)
/-- while -/
theorem js_while {p : List Stmt} (N : Nat) (hp : PassesOwn (model X.prog X.w) X.A X.env X.xe) (hc : JT X T E c gt) (hb : JSs X T E p gs) : JS X T E (.While c p [] pos) (gWhile gt gs N) := by
  refine PS.le (ps_while hp hc hb) fun D σ H ⟨ρ, m, h, s, q⟩ => ?_
  refine ⟨fun n σ1 H1 => ∃ ρ1 m1 h1, SR ⟨X.K, T⟩ ρ1 m1 h1 σ1 H1 ∧ PostS ⟨X.K, T⟩ ρ1 H1 D E (gWhile gt gs n m1 h1), ⟨N, ρ, m, h, s, q⟩, fun n σ1 H1 ⟨ρ1, m1, h1, s1, q1⟩ => ?_⟩
  cases n with
  | zero => exact q1.elim
  | succ n =>
    refine sT (k := fun d h1 => if d = true then match gs m1 h1 with
      | .nx m2 h2 => gWhile gt gs n m2 h2
      | .ct m2 h2 => gWhile gt gs n m2 h2
      | .bk m2 h2 => .nx m2 h2
      | o => o
      else .nx m1 h1) s1 q1 fun ρ2 h2 H2 d s2 e2 q2 => ?_
    cases d with
    | false => exact q2 ρ2 H2 σ1 .refl s2
    | true =>
      refine ⟨fun σ3 H3 => ∃ ρ3 m3 h3, SR ⟨X.K, T⟩ ρ3 m3 h3 σ3 H3 ∧ PostS ⟨X.K, T⟩ ρ3 H3 D E (gWhile gt gs n m3 h3), fun σ3 H3 z => ⟨n, Nat.lt_succ_self _, z⟩, ρ2, m1, h2, s2, ?_⟩
      have q3 : PostS ⟨X.K, T⟩ ρ2 H2 D E (match gs m1 h2 with
        | .nx m2 h2 => gWhile gt gs n m2 h2
        | .ct m2 h2 => gWhile gt gs n m2 h2
        | .bk m2 h2 => .nx m2 h2
        | o => o) := q2
      generalize gs m1 h2 = o at q3 ⊢
      cases o with
      | bad => exact q3
      | nx m3 h3 => exact fun ρ' H' σ' e s => ⟨ρ', m3, h3, s, PostS.ext (o := gWhile gt gs n m3 h3) q3 e⟩
      | ct m3 h3 => exact fun ρ' H' σ' e s => ⟨ρ', m3, h3, s, PostS.ext (o := gWhile gt gs n m3 h3) q3 e⟩
      | bk m3 h3 => exact q3
      | rt v h3 => exact q3
      | er x h3 => exact q3
/-- for -/
theorem js_for {tg iter : Expr} {p : List Stmt} {gi : MI1} (hp : PassesOwn (model X.prog X.w) X.A X.env X.xe) (hc : X.calm = true) (hi : JI X T E tg iter gi) (hg : JG X T E tg gg) (hb : JSs X T E p gs)
    (hs : ∀ x, foldedSetIterable iter X.env x = pure x := by intro _; rfl) : JS X T E (.For tg iter p [] pos) (gFor gi gg gs) := by
  refine PS.le (ps_for hp hc hi hg hb hs) fun D σ H ⟨ρ, m, h, s, q⟩ => ⟨ρ, m, h, s, ?_⟩
  refine (PostS.bind (R := rI ⟨X.K, T⟩) q).mono fun J H1 ⟨ρ1, h1, it, e1, r1, w1, q1⟩ => ?_
  have s1 := s.to e1 r1
  refine ⟨fun i n σ2 H2 => ∃ ρ2 m2 h2, Ext ρ1 H1 ρ2 H2 ∧ SR ⟨X.K, T⟩ ρ2 m2 h2 σ2 H2 ∧ PostS ⟨X.K, T⟩ ρ2 H2 D E (gForN it gg gs n i m2 h2), ⟨_, ρ1, m, h1, .refl, s1, q1⟩, fun i n σ2 H2 ⟨ρ2, m2, h2, e2, s2, q2⟩ => ?_⟩
  cases n with
  | zero => exact q2.elim
  | succ n =>
    have w2 := w1 i ρ2 h2 H2 e2 s2.hr
    unfold gForN at q2
    cases k : it.at_ i h2 with
    | none => rw [k] at q2; exact q2.elim
    | some o =>
      rw [k] at q2 w2
      cases o with
      | none => exact .inl ⟨w2, q2 ρ2 H2 σ2 .refl s2⟩
      | some x =>
        refine .inr ⟨w2.1, fun σ3 H3 => ∃ ρ3 m3 h3, Ext ρ1 H1 ρ3 H3 ∧ SR ⟨X.K, T⟩ ρ3 m3 h3 σ3 H3 ∧ PostS ⟨X.K, T⟩ ρ3 H3 D E (gForN it gg gs n (i + 1) m3 h3), fun σ3 H3 z => ⟨n, Nat.lt_succ_self _, z⟩, fun v H3 y => ?_⟩
        obtain ⟨ρ3, e3, r3, rv3⟩ := w2.2 v H3 y
        have q3 : PostS ⟨X.K, T⟩ ρ2 H2 D E (match gg x m2 h2 with
          | .nx m1 h1 => match gs m1 h1 with
            | .nx m2 h2 => gForN it gg gs n (i + 1) m2 h2
            | .ct m2 h2 => gForN it gg gs n (i + 1) m2 h2
            | .bk m2 h2 => .nx m2 h2
            | o => o
          | .er x h => .er x h
          | _ => .bad) := q2
        refine ⟨ρ3, m2, h2, x, s2.to e3 r3, rv3, ?_⟩
        generalize gg x m2 h2 = o at q3 ⊢
        cases o with
        | bad => exact q3
        | rt _ _ => exact q3.elim
        | bk _ _ => exact q3.elim
        | ct _ _ => exact q3.elim
        | er y h4 => exact q3.ext (o := SO.er y h4) e3
        | nx m4 h4 =>
          intro ρ5 H5 σ5 e5 s5
          refine ⟨ρ5, m4, h4, s5, ?_⟩
          have q4 : PostS ⟨X.K, T⟩ ρ2 H2 D E (match gs m4 h4 with
            | .nx m2 h2 => gForN it gg gs n (i + 1) m2 h2
            | .ct m2 h2 => gForN it gg gs n (i + 1) m2 h2
            | .bk m2 h2 => .nx m2 h2
            | o => o) := q3
          have e35 := e3.trans e5
          have q5 := PostS.ext q4 e35
          have e15 := (e2.trans e3).trans e5
          clear q4 q3
          generalize gs m4 h4 = o at q5 ⊢
          cases o with
          | bad => exact q5
          | nx m3 h3 => exact fun ρ' H' σ' e s => ⟨ρ', m3, h3, e15.trans e, s, PostS.ext (o := gForN it gg gs n (i + 1) m3 h3) q5 e⟩
          | ct m3 h3 => exact fun ρ' H' σ' e s => ⟨ρ', m3, h3, e15.trans e, s, PostS.ext (o := gForN it gg gs n (i + 1) m3 h3) q5 e⟩
          | bk m3 h3 => exact q5
          | rt v h3 => exact q5
          | er x h3 => exact q5
end
end MI
set_option Elab.async false
set_option linter.all false
set_option maxRecDepth 100000
set_option maxHeartbeats 4000000
namespace MI
open PySem PySem.Spec PyProof.Rows L2 JB
abbrev MF := List MV → MH → Out MV
/-- the promise of a def that does g -/
def spM (Z : Zt) (n : Nat) (g : MF) : Sp := fun vs H Q E => ∃ ρ h as, HR Z ρ h H ∧ RVs Z ρ H as vs ∧ vs.length = n ∧ Post Z (rV Z) ρ H Q E (g as h)
/-- a def by its body -/
def gBody (N : Nat) (b : MS) : MF := fun as h => match b (as.map some ++ List.replicate (N - as.length) none) h with
  | .nx _ h' => .ok .non h'
  | .rt v h' => .ok v h'
  | .er x h' => .er x h'
  | _ => .bad
section
variable {P : Program} {w : World} {K : PySem.W.Frag} {mg : Str → Option Value} {base : Heap} {T : Nat → Addr} {k : Nat} {f : Addr}
theorem RVs.get {Z : Zt} {ρ : List Addr} {H : Hp} : ∀ {xs : List MV} {vs : List V}, RVs Z ρ H xs vs → ∀ {i : Nat} {x : MV}, xs[i]? = some x → ∃ v, vs[i]? = some v ∧ RV Z ρ H x v
  | _, _, .nil, i, x, h => by simp at h
  | _, _, .cons (v := v) a r, 0, x, h => by
    simp at h; subst h
    exact ⟨v, rfl, a⟩
  | _, _, .cons a r, i + 1, x, h => by
    simp at h
    obtain ⟨v, h1, h2⟩ := RVs.get r h
    exact ⟨v, by simpa using h1, h2⟩
theorem start_M {Z : Zt} {ρ : List Addr} {h : MH} {H : Hp} {N : List Str} {as : List MV} {vs : List V} (r : HR Z ρ h H) (a : RVs Z ρ H as vs) :
    SR Z ρ (as.map some ++ List.replicate (N.length - as.length) none) h (L2.start N vs) H := by
  have hl := RVs.length a
  refine ⟨r, by unfold L2.start; simp [hl], fun i x e => ?_⟩
  unfold L2.start
  by_cases hi : i < as.length
  · rw [List.getElem?_append_left (by simpa using hi), List.getElem?_map] at e
    rw [List.getElem?_append_left (by simpa [← hl] using hi), List.getElem?_map]
    cases k : as[i]? with
    | none => rw [k] at e; cases e
    | some y =>
      rw [k] at e
      cases e
      obtain ⟨v, h1, h2⟩ := RVs.get a k
      exact ⟨v, by rw [h1]; rfl, h2⟩
  · rw [List.getElem?_append_right (by simpa using hi), List.getElem?_replicate] at e
    split at e <;> cases e
/-- what a body's end means for the def -/
theorem body_M {Z : Zt} {ρ : List Addr} {H : Hp} {N : Nat} {Q : VK} {E : XK} {as : List MV} {h : MH} {gs : MS} (p : Post Z (rV Z) ρ H Q E (gBody N gs as h)) :
    PostS Z ρ H { nx := fun _ H' => Q .non H', rt := Q } E (gs (as.map some ++ List.replicate (N - as.length) none) h) := by
  unfold gBody at p
  generalize gs (as.map some ++ List.replicate (N - as.length) none) h = o at p ⊢
  cases o with
  | bad => exact p
  | nx m' h' => exact fun ρ' H' σ' e s => p ρ' H' .non e s.hr .non
  | rt v h' => exact p
  | bk _ _ => exact p.elim
  | ct _ _ => exact p.elim
  | er x h' => exact p
/-- a def, from its body -/
theorem def_M {x qual : Str} {st : Stmt} {fd : FuncData} {N ps : List Str} (F : Fun K x qual st f fd) (S : FnScope N ps (defScope st)) (gs : MS)
    (hb : ∀ (cdv : Value) (A : Around) (outer : List Env) (s : Shared) (H : Hp) (E : XK),
      JB.Still (A.deeper (envOfC qual (defScope st) s.heap.objs.size f cdv)) → Room k (A.deeper (envOfC qual (defScope st) s.heap.objs.size f cdv)) →
      JSs (cxOf (L2.CX P w) P w K mg base N qual (defScope st) f cdv A outer s H E) T E (defBody st) gs) :
    FnG P w K mg base (L2.CX P w) (k + 1) f fd ps (spM ⟨K, T⟩ ps.length (gBody N.length gs)) := by
  obtain ⟨oc, od, kV, doc, pm, an, cdv, ct, osl, rfl, lk, hcd⟩ := F.ex
  refine fn_g lk hcd S (fun _ _ _ _ ⟨_, _, _, _, _, h, _⟩ => h) fun A outer s H vs Q E hst hr ⟨ρ, h, as, r, a, hl, p⟩ => ?_
  exact ⟨_, hb cdv A outer s H E hst hr, ρ, _, h, start_M r a, body_M p⟩
/-- what leaves a callee leaves this def -/
theorem pass_M {N : List Str} {qual : Str} {scope : Scope} {cdv : Value} {A : Around} {outer : List Env} {s : Shared} {H : Hp} {E : XK} :
    Passes (L2.CX P w) (cxOf (L2.CX P w) P w K mg base N qual scope f cdv A outer s H E) E :=
  passes_call (X := cxOf (L2.CX P w) P w K mg base N qual scope f cdv A outer s H E) (W := fun c d _ H' => E c d H') (takes_of rfl rfl rfl rfl) (fun _ _ _ _ z => z)
theorem own_M {N : List Str} {qual : Str} {scope : Scope} {cdv : Value} {A : Around} {outer : List Env} {s : Shared} {H : Hp} {E : XK} :
    PassesOwn (model (cxOf (L2.CX P w) P w K mg base N qual scope f cdv A outer s H E).prog (cxOf (L2.CX P w) P w K mg base N qual scope f cdv A outer s H E).w) (cxOf (L2.CX P w) P w K mg base N qual scope f cdv A outer s H E).A
      (cxOf (L2.CX P w) P w K mg base N qual scope f cdv A outer s H E).env (cxOf (L2.CX P w) P w K mg base N qual scope f cdv A outer s H E).xe :=
  passes_of rfl
/-- a def that may be called: its defaults are dm -/
structure FM (P : Program) (w : World) (K : PySem.W.Frag) (mg : Str → Option Value) (base : Heap) (T : Nat → Addr) (k : Nat) (f : Addr) (n : Nat) (dm : List MV) (g : MF) : Prop where
  ex : ∃ fd ps ds dvs, ps.length = n ∧ FnG P w K mg base (L2.CX P w) k f fd ps (spM ⟨K, T⟩ ps.length g) ∧ PySem.W.keepIn K (.ref f) = true ∧ Binds K fd ps ds ∧ Vals dvs ds ∧ (∀ ρ H, RVs ⟨K, T⟩ ρ H dm dvs)
theorem FM.up {j n : Nat} {dm : List MV} {g : MF} (F : FM P w K mg base T j f n dm g) (h : j ≤ k) : FM P w K mg base T k f n dm g := by
  obtain ⟨fd, ps, ds, dvs, h0, h1, h2⟩ := F.ex
  exact ⟨fd, ps, ds, dvs, h0, h1.up h, h2⟩
end
def gCall (g : MF) (dm : List MV) (n : Nat) (a : MA) : ME := fun m h => (a m h).bind fun as h1 => if as.length + dm.length = n then g (as ++ dm) h1 else .bad
def gMeth (c : Nat) (f : Nat) (g : MF) (dm : List MV) (n : Nat) (o : ME) (a : MA) : ME := fun m h => (o m h).bind fun x h1 => match x with
  | .ref i => match h1.get i with
    | some (.ins c' fs) => if c' = c ∧ (fs.lookup f).isNone = true then (a m h1).bind fun as h2 => if as.length + dm.length + 1 = n then g (x :: (as ++ dm)) h2 else .bad else .bad
    | _ => .bad
  | _ => .bad
def gMake (c : Nat) (g : MF) (dm : List MV) (n : Nat) (a : MA) : ME := fun m h => (a m h).bind fun as h1 => if as.length + dm.length + 1 = n then
  (g (.ref h1.n :: (as ++ dm)) (h1.push (.ins c []))).bind fun r h2 => match r with
    | .non => .ok (.ref h1.n) h2
    | _ => .bad
  else .bad
theorem RVs.app {Z : Zt} {ρ : List Addr} {H : Hp} {ys : List MV} {ws : List V} (b : RVs Z ρ H ys ws) : ∀ {xs : List MV} {vs : List V}, RVs Z ρ H xs vs → RVs Z ρ H (xs ++ ys) (vs ++ ws)
  | _, _, .nil => b
  | _, _, .cons a r => .cons a (RVs.app b r)
theorem RKs.lookup {Z : Zt} {ρ : List Addr} {H : Hp} {xs : List (Nat × MV)} {vs : List (Str × V)} (r : RKs nm Z ρ H xs vs) (f : Nat) :
    (xs.lookup f = none ∧ vs.lookup (nm f) = none) ∨ ∃ x v, xs.lookup f = some x ∧ vs.lookup (nm f) = some v ∧ RV Z ρ H x v := by
  induction r with
  | nil => exact .inl ⟨rfl, rfl⟩
  | @cons k x v xs vs a r ih =>
    rw [List.lookup_cons, List.lookup_cons]
    by_cases e : f = k
    · subst e
      simp only [beq_self_eq_true]
      exact .inr ⟨x, v, rfl, rfl, a⟩
    · rw [beq_false_of_ne e, beq_false_of_ne (fun z => e (nm_inj z))]
      exact ih
section
variable {X : Cx} {T : Nat → Addr} {E : XK} {k : Nat} {f : Addr} {dm : List MV} {g : MF} {n : Nat} {x me : Str} {mi : Nat} {p pos apos : Pos} {e o : Expr} {es : List Expr} {ga : MA} {go : ME}
theorem pe_call0G {CX : CXT} {fd : FuncData} {ps : List Str} {sp : Sp} {dvs : List V} {ds : List Value} (hs : JB.Still X.A)
    (F : FnG X.prog X.w X.K X.mg X.base CX k f fd ps sp) (hr : Room k X.A) (hg : Gl X x) (hm : X.mg x = some (.ref f)) (hk : PySem.W.keepIn X.K (.ref f) = true)
    (hb : Binds X.K fd ps ds) (hd : Vals dvs ds) (hx : Passes CX X E) (hdb : (x == ("__debug__" : Str)) = false := by decide) :
    PE X (.Call (.Name x p) [] [] pos) (tCall sp dvs E tNil) :=
  ⟨fun pins s σ H Q I h => wpAny_Call_Name_kw (ld_glob I hg hm
    (PySem.W.callWith_K0 I.kIn hk (run_g (us := []) hs F hr hb hd hx I .nil h)) hdb)⟩
theorem pe_methG {CX : CXT} {fd : FuncData} {ps : List Str} {sp : Sp} {dvs : List V} {ds : List Value} {C : Addr} {te : TE} {t : TA} {pl : Sem Bool} (hs : JB.Still X.A)
    (he : PE X o te) (c : Cls X.K C) (hm : Meth X.K C me f) (F : FnG X.prog X.w X.K X.mg X.base CX k f fd ps sp) (hr : Room k X.A)
    (hb : Binds X.K fd ps ds) (hd : Vals dvs ds) (hx : Passes CX X E) (ha : PA X (e :: es) t)
    (hst : starEach (e :: es) X.env = (false, eval e X.env) :: starEach es X.env := by rfl)
    (hpl : (backTo pos (starEach es X.env)).any (·.1) = false := by rfl)
    (ht : eval (.Call (.Attribute o me apos) (e :: es) [] pos) X.env = (do
      let ov ← eval o X.env
      standAt apos.atName
      let (f, first) ← holding [ov] (getMethod ov me pl)
      callWith pos f first (backTo pos (starEach (e :: es) X.env)) (backToKw pos (keywordEach [] X.env))) := by rfl) :
    PE X (.Call (.Attribute o me apos) (e :: es) [] pos) (tMeth C me sp dvs E te t) :=
  ⟨fun pins s σ H Q I h => PySem.W.methodCall_KW (pl := pl)
    (thn (he.run pins s σ H _ I h) fun u s1 ⟨y, H1, I1, ry, a, dx, fs, ey, ea, l, q⟩ => by
      subst ey
      obtain rfl : u = Value.ref a := ry
      exact getmeth_ok I1 ea c hm l (PySem.W.callWith_K (first := [.ref a]) (h₀ := X.base) I.ok.mod.kin hm.kp
        (thn (ha.run pos pins s1 σ H1 _ I1 q) fun us s2 ⟨vs, H2, I2, r, q2⟩ =>
          ⟨I2.kIn, run_g (us := .ref a :: us) (vs := .ref a :: vs) hs F hr hb hd hx I2 (.cons rfl r) q2⟩) hst hpl)) ht⟩
theorem pe_meth0G {CX : CXT} {fd : FuncData} {ps : List Str} {sp : Sp} {dvs : List V} {ds : List Value} {C : Addr} {te : TE} {pl : Sem Bool} (hs : JB.Still X.A)
    (he : PE X o te) (c : Cls X.K C) (hm : Meth X.K C me f) (F : FnG X.prog X.w X.K X.mg X.base CX k f fd ps sp) (hr : Room k X.A)
    (hb : Binds X.K fd ps ds) (hd : Vals dvs ds) (hx : Passes CX X E)
    (ht : eval (.Call (.Attribute o me apos) [] [] pos) X.env = (do
      let ov ← eval o X.env
      standAt apos.atName
      let (f, first) ← holding [ov] (getMethod ov me pl)
      callWith pos f first (backTo pos (starEach [] X.env)) (backToKw pos (keywordEach [] X.env))) := by rfl) :
    PE X (.Call (.Attribute o me apos) [] [] pos) (tMeth C me sp dvs E te tNil) :=
  ⟨fun pins s σ H Q I h => PySem.W.methodCall_KW (pl := pl)
    (thn (he.run pins s σ H _ I h) fun u s1 ⟨y, H1, I1, ry, a, dx, fs, ey, ea, l, q⟩ => by
      subst ey
      obtain rfl : u = Value.ref a := ry
      exact getmeth_ok I1 ea c hm l (PySem.W.callWith_K0 (first := [.ref a]) I1.kIn hm.kp
        (run_g (us := [.ref a]) (vs := [.ref a]) hs F hr hb hd hx I1 (.cons rfl .nil) q))) ht⟩
theorem run_makeG {CX : CXT} {fd : FuncData} {ps : List Str} {sp : Sp} {dvs : List V} {ds : List Value} {C : Addr} {pins : List (Addr × Obj)} {σ : L2.St} {H : Hp} {s : Shared} {Q : VK} {us : List Value} {vs : List V}
    (hs : JB.Still X.A) (M : Mk X.K C f) (F : FnG X.prog X.w X.K X.mg X.base CX k f fd ps sp) (hr : Room (k + 1) X.A) (hb : Binds X.K fd ps ds) (hd : Vals dvs ds)
    (hx : Passes CX X E) (I : Inv X pins σ H s) (r : Vals vs us)
    (h : ∀ y dx, H y = none → H dx = none → dx ≠ y → sp (.ref y :: (vs ++ dvs)) (upd (upd H dx (.own y)) y (.ins C dx [])) (fun v H2 => v = .non ∧ Q (.ref y) H2) E) :
    wpAny (model X.prog X.w) X.A (call (.ref C) us) (EP X pins σ Q) X.xe s := by
  have hq := h (s.heap.objs.size + 1) s.heap.objs.size (I.hok.fresh (Nat.le_succ _))
    (I.hok.fresh (Nat.le_refl _)) (Nat.ne_of_lt (Nat.lt_succ_self _))
  have I2 := Inv.made (C := C) I
  have rr : Vals (V.ref (s.heap.objs.size + 1) :: (vs ++ dvs)) (Value.ref (s.heap.objs.size + 1) :: (us ++ ds)) := .cons rfl (r.append hd)
  have hl : (Value.ref (s.heap.objs.size + 1) :: us ++ ds).length = ps.length := (rr.length).symm.trans (F.many _ _ _ _ hq)
  refine wpAny_call (make_map (f := f) I.kIn M.makes M.init (beq_iff_eq.mp M.fn)
    (codeAny_mono (F.goes _ X.stack _ _ ⟨Value.ref (s.heap.objs.size + 1) :: us, []⟩ (Value.ref (s.heap.objs.size + 1) :: (us ++ ds)) _ _ E
      (still_make hs) (hr.make C us []) (I2.env0.make C us []) (hb _ (Value.ref (s.heap.objs.size + 1) :: us) I2.kIn hl) rr hq) fun z s' hq' => ?_))
  cases z with
  | error er => exact hx pins σ _ _ er s' I2 hq'
  | ok fl =>
    cases fl with
    | ret u =>
      obtain ⟨v, H', I3, rv, ev, q3⟩ := I2.after hq'
      subst ev
      exact ⟨rv, ⟨V.ref (s.heap.objs.size + 1), H', I3, rfl, q3⟩⟩
    | _ => exact False.elim hq'
theorem pe_makeG {CX : CXT} {fd : FuncData} {ps : List Str} {sp : Sp} {dvs : List V} {ds : List Value} {C : Addr} {t : TA} (hs : JB.Still X.A)
    (M : Mk X.K C f) (F : FnG X.prog X.w X.K X.mg X.base CX k f fd ps sp) (hr : Room (k + 1) X.A) (hg : Gl X x) (hm : X.mg x = some (.ref C))
    (hb : Binds X.K fd ps ds) (hd : Vals dvs ds) (hx : Passes CX X E) (ha : PA X (e :: es) t) (hdb : (x == ("__debug__" : Str)) = false := by decide)
    (he : starEach (e :: es) X.env = (false, eval e X.env) :: starEach es X.env := by rfl) (hpl : (backTo pos (starEach es X.env)).any (·.1) = false := by rfl) :
    PE X (.Call (.Name x p) (e :: es) [] pos) (tMake C sp dvs E t) :=
  ⟨fun pins s σ H Q I h => wpAny_Call_Name_kw (ld_glob I hg hm (PySem.W.callWith_K (h₀ := X.base) I.ok.mod.kin M.kp
    (thn (ha.run pos pins s σ H _ I h) fun us s1 ⟨vs, H1, I1, r, q⟩ => ⟨I1.kIn, run_makeG hs M F hr hb hd hx I1 r q⟩) he hpl) hdb)⟩
theorem pe_make0G {CX : CXT} {fd : FuncData} {ps : List Str} {sp : Sp} {dvs : List V} {ds : List Value} {C : Addr} (hs : JB.Still X.A)
    (M : Mk X.K C f) (F : FnG X.prog X.w X.K X.mg X.base CX k f fd ps sp) (hr : Room (k + 1) X.A) (hg : Gl X x) (hm : X.mg x = some (.ref C))
    (hb : Binds X.K fd ps ds) (hd : Vals dvs ds) (hx : Passes CX X E) (hdb : (x == ("__debug__" : Str)) = false := by decide) :
    PE X (.Call (.Name x p) [] [] pos) (tMake C sp dvs E tNil) :=
  ⟨fun pins s σ H Q I h => wpAny_Call_Name_kw (ld_glob I hg hm (PySem.W.callWith_K0 I.kIn M.kp (run_makeG (us := []) hs M F hr hb hd hx I .nil h)) hdb)⟩
/-- the argument lists' bond for a call -/
theorem go_sp {ρ : List Addr} {h : MH} {H : Hp} {Q : VK} {as : List MV} {vs dvs : List V} {ps : List Str} (r : HR ⟨X.K, T⟩ ρ h H) (a : RVs ⟨X.K, T⟩ ρ H as vs) (d : RVs ⟨X.K, T⟩ ρ H dm dvs)
    (hn : as.length + dm.length = ps.length) (q : Post ⟨X.K, T⟩ (rV ⟨X.K, T⟩) ρ H Q E (g (as ++ dm) h)) : spM ⟨X.K, T⟩ ps.length g (vs ++ dvs) H Q E :=
  ⟨ρ, h, as ++ dm, r, RVs.app d a, by rw [List.length_append, ← RVs.length a, ← RVs.length d]; exact hn, q⟩
theorem je_call (F : FM X.prog X.w X.K X.mg X.base T k f n dm g) (hs : JB.Still X.A) (hr : Room k X.A) (hx : Passes (L2.CX X.prog X.w) X E) (hg : Gl X x) (hm : X.mg x = some (.ref f)) (ha : JA X T E (e :: es) ga)
    (hdb : (x == ("__debug__" : Str)) = false := by decide) (he : starEach (e :: es) X.env = (false, eval e X.env) :: starEach es X.env := by rfl) (hpl : (backTo pos (starEach es X.env)).any (·.1) = false := by rfl) :
    JE X T E (.Call (.Name x p) (e :: es) [] pos) (gCall g dm n ga) := by
  obtain ⟨fd, ps, ds, dvs, rfl, F, hk, hb, hd, hdm⟩ := F.ex
  refine PE.le (pe_callG hs F hr hg hm hk hb hd hx ha hdb he hpl) fun σ H Q ⟨ρ, m, h, s, q⟩ => stepA s q fun ρ1 h1 H1 xs vs s1 e1 r1 q1 => ?_
  by_cases hn : xs.length + dm.length = ps.length
  · rw [if_pos hn] at q1
    exact go_sp s1.hr r1 (hdm _ _) hn q1
  · rw [if_neg hn] at q1
    exact q1.elim
theorem je_call0 (F : FM X.prog X.w X.K X.mg X.base T k f n dm g) (hs : JB.Still X.A) (hr : Room k X.A) (hx : Passes (L2.CX X.prog X.w) X E) (hg : Gl X x) (hm : X.mg x = some (.ref f))
    (hdb : (x == ("__debug__" : Str)) = false := by decide) : JE X T E (.Call (.Name x p) [] [] pos) (gCall g dm n gNil) := by
  obtain ⟨fd, ps, ds, dvs, rfl, F, hk, hb, hd, hdm⟩ := F.ex
  refine PE.le (pe_call0G hs F hr hg hm hk hb hd hx hdb) fun σ H Q ⟨ρ, m, h, s, q⟩ => ?_
  have q1 : Post _ _ ρ H Q E (if ([] : List MV).length + dm.length = ps.length then g ([] ++ dm) h else .bad) := q
  by_cases hn : ([] : List MV).length + dm.length = ps.length
  · rw [if_pos hn] at q1
    exact go_sp (vs := []) s.hr .nil (hdm _ _) hn q1
  · rw [if_neg hn] at q1
    exact q1.elim
theorem meth_M {ρ : List Addr} {m : ML} {h : MH} {H : Hp} {σ : L2.St} {Q : VK} {dvs : List V} {ps : List Str} {c : Nat} {t : TA} (hmi : me = nm mi) (hd : ∀ ρ H, RVs ⟨X.K, T⟩ ρ H dm dvs) (ht : ∀ σ H Q, tA ⟨X.K, T⟩ E ga σ H Q → t σ H Q)
    (s : SR ⟨X.K, T⟩ ρ m h σ H) (q : Post ⟨X.K, T⟩ (rV ⟨X.K, T⟩) ρ H Q E (gMeth c mi g dm ps.length go ga m h)) : tMeth (T c) me (spM ⟨X.K, T⟩ ps.length g) dvs E (tE ⟨X.K, T⟩ E go) t σ H Q := by
  refine stepE s q fun ρ1 h1 H1 y v s1 e1 r1 q1 => ?_
  cases r1 with
  | @ref i a hi =>
    have q2 : Post _ (rV ⟨X.K, T⟩) ρ1 H1 Q E (match h1.get i with
      | some (.ins c' fs) => if c' = c ∧ (fs.lookup mi).isNone = true then (ga m h1).bind fun as h2 => if as.length + dm.length + 1 = ps.length then g (.ref i :: (as ++ dm)) h2 else .bad else .bad
      | _ => .bad) := q1
    cases k : h1.get i with
    | none => rw [k] at q2; exact q2.elim
    | some ob =>
      rw [k] at q2
      obtain ⟨a', ha', ho⟩ := s1.hr.all i ob k
      rw [hi] at ha'
      cases ha'
      cases ob with
      | ins c' fs =>
        obtain ⟨dx, vs, h3, h4⟩ := ho
        dsimp only at q2
        by_cases z : c' = c ∧ (fs.lookup mi).isNone = true
        · obtain ⟨rfl, z⟩ := z
          rw [if_pos ⟨rfl, z⟩] at q2
          refine ⟨a, dx, vs, rfl, h3, ?_, ht _ _ _ (stepA s1 q2 fun ρ2 h2 H2 xs ws s2 e2 r2 q3 => ?_)⟩
          · rw [hmi]; rcases h4.lookup mi with ⟨_, w⟩ | ⟨_, _, w, _⟩
            · exact w
            · rw [w] at z; cases z
          · by_cases hn : xs.length + dm.length + 1 = ps.length
            · rw [if_pos hn] at q3
              exact go_sp (as := .ref i :: xs) (vs := .ref a :: ws) s2.hr (.cons (.ref (e2.at hi)) r2) (hd _ _) (by simp; omega) q3
            · rw [if_neg hn] at q3
              exact q3.elim
        · rw [if_neg z] at q2
          exact q2.elim
      | _ => exact q2.elim
  | _ => exact q1.elim
theorem je_meth {c : Nat} {pl : Sem Bool} (F : FM X.prog X.w X.K X.mg X.base T k f n dm g) (cl : Cls X.K (T c)) (mt : Meth X.K (T c) me f) (hmi : me = nm mi) (hs : JB.Still X.A) (hr : Room k X.A) (hx : Passes (L2.CX X.prog X.w) X E)
    (ho : JE X T E o go) (ha : JA X T E (e :: es) ga)
    (hst : starEach (e :: es) X.env = (false, eval e X.env) :: starEach es X.env := by rfl)
    (hpl : (backTo pos (starEach es X.env)).any (·.1) = false := by rfl)
    (ht : eval (.Call (.Attribute o me apos) (e :: es) [] pos) X.env = (do
      let ov ← eval o X.env
      standAt apos.atName
      let (f, first) ← holding [ov] (getMethod ov me pl)
      callWith pos f first (backTo pos (starEach (e :: es) X.env)) (backToKw pos (keywordEach [] X.env))) := by rfl) :
    JE X T E (.Call (.Attribute o me apos) (e :: es) [] pos) (gMeth c mi g dm n go ga) := by
  obtain ⟨fd, ps, ds, dvs, rfl, F, hk, hb, hd, hdm⟩ := F.ex
  exact PE.le (pe_methG hs ho cl mt F hr hb hd hx ha hst hpl ht) fun σ H Q ⟨ρ, m, h, s, q⟩ => meth_M hmi hdm (fun _ _ _ z => z) s q
theorem je_meth0 {c : Nat} {pl : Sem Bool} (F : FM X.prog X.w X.K X.mg X.base T k f n dm g) (cl : Cls X.K (T c)) (mt : Meth X.K (T c) me f) (hmi : me = nm mi) (hs : JB.Still X.A) (hr : Room k X.A) (hx : Passes (L2.CX X.prog X.w) X E)
    (ho : JE X T E o go)
    (ht : eval (.Call (.Attribute o me apos) [] [] pos) X.env = (do
      let ov ← eval o X.env
      standAt apos.atName
      let (f, first) ← holding [ov] (getMethod ov me pl)
      callWith pos f first (backTo pos (starEach [] X.env)) (backToKw pos (keywordEach [] X.env))) := by rfl) :
    JE X T E (.Call (.Attribute o me apos) [] [] pos) (gMeth c mi g dm n go gNil) := by
  obtain ⟨fd, ps, ds, dvs, rfl, F, hk, hb, hd, hdm⟩ := F.ex
  exact PE.le (pe_meth0G hs ho cl mt F hr hb hd hx ht) fun σ H Q ⟨ρ, m, h, s, q⟩ => meth_M hmi hdm (fun σ H Q ⟨ρ, m, h, s, q⟩ => q.ok s.hr .nil) s q
theorem make_M {ρ : List Addr} {h : MH} {H : Hp} {Q : VK} {dvs : List V} {ps : List Str} {c : Nat} {as : List MV} {vs : List V} (hd : ∀ ρ H, RVs ⟨X.K, T⟩ ρ H dm dvs)
    (s : HR ⟨X.K, T⟩ ρ h H) (r : RVs ⟨X.K, T⟩ ρ H as vs) (hn : as.length + dm.length + 1 = ps.length)
    (q : Post ⟨X.K, T⟩ (rV ⟨X.K, T⟩) ρ H Q E ((g (.ref h.n :: (as ++ dm)) (h.push (.ins c []))).bind fun r h2 => match r with
      | .non => .ok (.ref h.n) h2
      | _ => .bad)) :
    ∀ y dx, H y = none → H dx = none → dx ≠ y → spM ⟨X.K, T⟩ ps.length g (.ref y :: (vs ++ dvs)) (upd (upd H dx (.own y)) y (.ins (T c) dx [])) (fun v H2 => v = .non ∧ Q (.ref y) H2) E := by
  intro y dx hy hdx hne
  have hy' : upd H dx (.own y) y = none := by rw [upd_ne (Ne.symm hne)]; exact hy
  have e1 : Ext ρ H ρ (upd H dx (.own y)) := Ext.still1 hdx
  have e2 : Ext ρ (upd H dx (.own y)) (ρ ++ [y]) (upd (upd H dx (.own y)) y (.ins (T c) dx [])) := Ext.push hy'
  have s2 : HR ⟨X.K, T⟩ (ρ ++ [y]) (h.push (.ins c [])) (upd (upd H dx (.own y)) y (.ins (T c) dx [])) := (s.still1 hdx).push hy' ⟨dx, [], upd_same, .nil⟩
  have at_ : (ρ ++ [y])[h.n]? = some y := by rw [← s.len]; simp
  refine go_sp (as := .ref h.n :: as) (vs := .ref y :: vs) s2 (.cons (.ref at_) (r.ext (e1.trans e2))) (hd _ _) (by simp; omega) ?_
  refine (Post.bind (R := rV ⟨X.K, T⟩) (q.ext (e1.trans e2))).mono fun v H3 ⟨ρ3, h3, a, e3, r3, ra, q3⟩ => ?_
  cases ra with
  | non => exact ⟨rfl, q3.ok r3 (.ref (e3.at at_))⟩
  | _ => exact q3.elim
theorem je_make {c : Nat} (F : FM X.prog X.w X.K X.mg X.base T k f n dm g) (M : Mk X.K (T c) f) (hs : JB.Still X.A) (hr : Room (k + 1) X.A) (hx : Passes (L2.CX X.prog X.w) X E) (hg : Gl X x) (hm : X.mg x = some (.ref (T c))) (ha : JA X T E (e :: es) ga)
    (hdb : (x == ("__debug__" : Str)) = false := by decide) (he : starEach (e :: es) X.env = (false, eval e X.env) :: starEach es X.env := by rfl) (hpl : (backTo pos (starEach es X.env)).any (·.1) = false := by rfl) :
    JE X T E (.Call (.Name x p) (e :: es) [] pos) (gMake c g dm n ga) := by
  obtain ⟨fd, ps, ds, dvs, rfl, F, hk, hb, hd, hdm⟩ := F.ex
  refine PE.le (pe_makeG hs M F hr hg hm hb hd hx ha hdb he hpl) fun σ H Q ⟨ρ, m, h, s, q⟩ => stepA s q fun ρ1 h1 H1 xs vs s1 e1 r1 q1 => ?_
  by_cases hn : xs.length + dm.length + 1 = ps.length
  · rw [if_pos hn] at q1
    exact make_M hdm s1.hr r1 hn q1
  · rw [if_neg hn] at q1
    exact q1.elim
theorem je_make0 {c : Nat} (F : FM X.prog X.w X.K X.mg X.base T k f n dm g) (M : Mk X.K (T c) f) (hs : JB.Still X.A) (hr : Room (k + 1) X.A) (hx : Passes (L2.CX X.prog X.w) X E) (hg : Gl X x) (hm : X.mg x = some (.ref (T c)))
    (hdb : (x == ("__debug__" : Str)) = false := by decide) :
    JE X T E (.Call (.Name x p) [] [] pos) (gMake c g dm n gNil) := by
  obtain ⟨fd, ps, ds, dvs, rfl, F, hk, hb, hd, hdm⟩ := F.ex
  refine PE.le (pe_make0G hs M F hr hg hm hb hd hx hdb) fun σ H Q ⟨ρ, m, h, s, q⟩ => ?_
  have q1 : Post ⟨X.K, T⟩ (rV ⟨X.K, T⟩) ρ H Q E (if ([] : List MV).length + dm.length + 1 = ps.length then
    (g (.ref h.n :: ([] ++ dm)) (h.push (.ins c []))).bind fun r h2 => match r with
      | .non => .ok (.ref h.n) h2
      | _ => .bad
    else .bad) := q
  by_cases hn : ([] : List MV).length + dm.length + 1 = ps.length
  · rw [if_pos hn] at q1
    exact make_M (vs := []) hdm s.hr .nil hn q1
  · rw [if_neg hn] at q1
    exact q1.elim
end
end MI
set_option Elab.async false
set_option linter.all false
set_option maxRecDepth 100000
set_option maxHeartbeats 4000000
namespace MI
open PySem PySem.Spec PyProof.Rows L2 JB
section
variable {Z : Zt} {ρ : List Addr} {h : MH} {H : Hp} {i : Nat} {a : Addr}
theorem HR.obj (R : HR Z ρ h H) {o : MO} (hi : h.get i = some o) (ha : ρ[i]? = some a) : OR Z ρ H a o := by
  obtain ⟨b, h1, h2⟩ := R.all i o hi
  rw [ha] at h1
  cases h1
  exact h2
theorem HR.grow (R : HR Z ρ h H) {o : MO} (hi : h.get i = some o) (ha : ρ[i]? = some a) (u : HO) (hop : o.opn = true := by rfl) : Ext ρ H ρ (upd H a u) :=
  Ext.set (List.mem_of_getElem? ha) fun v e => (R.obj hi ha).notStill e hop
end
def leq : List Nat → List Nat → Bool
  | [], [] => true
  | a :: l, b :: r => if a = b then leq l r else false
  | _, _ => false
theorem leq_iff : ∀ {l r : List Nat}, leq l r = true ↔ l = r
  | [], [] => by simp [leq]
  | a :: l, b :: r => by
    unfold leq
    by_cases e : a = b
    · subst e; simp [leq_iff (l := l) (r := r)]
    · simp [e]
  | [], _ :: _ => by simp [leq]
  | _ :: _, [] => by simp [leq]
/-- == of plain values; none: nothing is said -/
def mEq : MV → MV → Option Bool
  | .non, .non => some true
  | .int i, .int j => some (decide (i = j))
  | .bl i, .bl j => some (decide (i = j))
  | .str s, .str t => some (leq s t)
  | .non, .int _ => some false
  | .int _, .non => some false
  | .non, .bl _ => some false
  | .bl _, .non => some false
  | .non, .str _ => some false
  | .str _, .non => some false
  | .int _, .str _ => some false
  | .str _, .int _ => some false
  | .bl _, .str _ => some false
  | .str _, .bl _ => some false
  | _, _ => none
theorem str_eq {s t : List Nat} : decide (V.str ⟨s.toArray⟩ = V.str ⟨t.toArray⟩) = leq s t := by
  rw [Bool.eq_iff_iff, leq_iff]
  simp
theorem mEq_ok {Z : Zt} {ρ : List Addr} {H : Hp} {x y : MV} {v w : V} {b : Bool} (r : RV Z ρ H x v) (q : RV Z ρ H y w) (e : mEq x y = some b) : scal v w = true ∧ decide (v = w) = b := by
  cases r <;> cases q <;> first
    | (cases e; done)
    | (cases e; exact ⟨rfl, str_eq⟩)
    | (cases e; exact ⟨rfl, by simp⟩)
    | (cases e; exact ⟨rfl, rfl⟩)
def oB (o : Option Bool) (h : MH) : Out MV := match o with
  | some b => .ok (.bl b) h
  | none => .bad
def mEqV (x y : MV) (h : MH) : Out MV := oB (mEq x y) h
def mNeV (x y : MV) (h : MH) : Out MV := oB ((mEq x y).map (!·)) h
section
variable {Z : Zt} {E : XK}
theorem om_eq : OpM Z E mEqV rEq := fun ρ h H x y v w Q R r q p => by
  unfold mEqV oB at p
  cases e : mEq x y with
  | none => rw [e] at p; exact p.elim
  | some b =>
    rw [e] at p
    obtain ⟨h1, h2⟩ := mEq_ok r q e
    exact ⟨h1, by rw [h2]; exact p.ok R (.bl b)⟩
theorem om_ne : OpM Z E mNeV rNe := fun ρ h H x y v w Q R r q p => by
  unfold mNeV oB at p
  cases e : mEq x y with
  | none => rw [e] at p; exact p.elim
  | some b =>
    rw [e] at p
    obtain ⟨h1, h2⟩ := mEq_ok r q e
    exact ⟨h1, by rw [h2]; exact p.ok R (.bl _)⟩
/-- ints alone -/
def mI (g : Int → Int → MV) (x y : MV) (h : MH) : Out MV := match x, y with
  | .int i, .int j => .ok (g i j) h
  | _, _ => .bad
def mIc (c : Int → Int → Bool) (g : Int → Int → MV) (x y : MV) (h : MH) : Out MV := match x, y with
  | .int i, .int j => if c i j = true then .ok (g i j) h else .bad
  | _, _ => .bad
theorem om_I {g : Int → Int → MV} {g' : Int → Int → V} (k : ∀ i j ρ H, RV Z ρ H (g i j) (g' i j)) : OpM Z E (mI g) (rI0 g') := fun ρ h H x y v w Q R r q p => by
  cases r with
  | int i =>
    cases q with
    | int j => exact ⟨i, j, rfl, rfl, p.ok R (k i j ρ H)⟩
    | _ => exact p.elim
  | _ => exact p.elim
theorem om_Ic {c : Int → Int → Bool} {C : Int → Int → Prop} {g : Int → Int → MV} {g' : Int → Int → V} (hc : ∀ i j, c i j = true → C i j) (k : ∀ i j ρ H, RV Z ρ H (g i j) (g' i j)) : OpM Z E (mIc c g) (L2.rI C g') := fun ρ h H x y v w Q R r q p => by
  cases r with
  | int i =>
    cases q with
    | int j =>
      have p' : Post Z (rV Z) ρ H Q E (if c i j = true then .ok (g i j) h else .bad) := p
      by_cases e : c i j = true
      · rw [if_pos e] at p'
        exact ⟨i, j, rfl, rfl, hc i j e, p'.ok R (k i j ρ H)⟩
      · rw [if_neg e] at p'
        exact p'.elim
    | _ => exact p.elim
  | _ => exact p.elim
def mSub := mI fun i j => .int (i - j)
def cMul (i j : Int) : Bool := decide (i.natAbs < 18446744073709551616) || decide (j.natAbs < 18446744073709551616)
def mMul := mIc cMul fun i j => .int (i * j)
def mMod := mIc (fun _ j => decide (0 < j)) fun i j => .int (i % j)
def mDiv := mIc (fun _ j => decide (0 < j) && decide (j < 1073741824)) fun i j => .int (i / j)
def mPow := mIc (fun i j => decide (0 ≤ j) && decide (j ≤ 1000000) && decide (i.natAbs < 18446744073709551616)) fun i j => .int (i ^ j.toNat)
def mLtI := mI fun i j => .bl (decide (i < j))
def mLeI := mI fun i j => .bl (decide (i ≤ j))
def mGtI := mI fun i j => .bl (decide (j < i))
def mGeI := mI fun i j => .bl (decide (j ≤ i))
theorem om_sub : OpM Z E mSub (rI0 fun i j => .int (i - j)) := om_I fun _ _ _ _ => .int _
theorem om_mul : OpM Z E mMul (L2.rI CMul fun i j => .int (i * j)) := om_Ic (fun i j e => by
  unfold cMul at e
  simp at e
  unfold CMul
  omega) fun _ _ _ _ => .int _
theorem om_mod : OpM Z E mMod (L2.rI (fun _ j => 0 < j) fun i j => .int (i % j)) := om_Ic (fun i j e => by simpa using e) fun _ _ _ _ => .int _
theorem om_div : OpM Z E mDiv (L2.rI CDiv fun i j => .int (i / j)) := om_Ic (fun i j e => by simpa [CDiv] using e) fun _ _ _ _ => .int _
theorem om_pow : OpM Z E mPow (L2.rI CPow fun i j => .int (i ^ j.toNat)) := om_Ic (fun i j e => by
  simp at e
  exact ⟨e.1.1, e.1.2, by have : (2 : Nat) ^ 64 = 18446744073709551616 := by decide
                          omega⟩) fun _ _ _ _ => .int _
theorem om_lt : OpM Z E mLtI (rI0 fun i j => .bl (decide (i < j))) := om_I fun _ _ _ _ => .bl _
theorem om_le : OpM Z E mLeI (rI0 fun i j => .bl (decide (i ≤ j))) := om_I fun _ _ _ _ => .bl _
theorem om_gt : OpM Z E mGtI (rI0 fun i j => .bl (decide (j < i))) := om_I fun _ _ _ _ => .bl _
theorem om_ge : OpM Z E mGeI (rI0 fun i j => .bl (decide (j ≤ i))) := om_I fun _ _ _ _ => .bl _
/-- two ways of an operator, told apart by the values -/
theorem OpM.or {f : MV → MV → MH → Out MV} {r r' : R2} (c : MV → MV → MH → Bool)
    (h1 : ∀ ρ h H x y v w Q, c x y h = true → HR Z ρ h H → RV Z ρ H x v → RV Z ρ H y w → Post Z (rV Z) ρ H Q E (f x y h) → r v w H Q)
    (h2 : ∀ ρ h H x y v w Q, c x y h = false → HR Z ρ h H → RV Z ρ H x v → RV Z ρ H y w → Post Z (rV Z) ρ H Q E (f x y h) → r' v w H Q) :
    OpM Z E f (fun v w H Q => r v w H Q ∨ r' v w H Q) := fun ρ h H x y v w Q R r q p => by
  cases e : c x y h with
  | true => exact .inl (h1 ρ h H x y v w Q e R r q p)
  | false => exact .inr (h2 ρ h H x y v w Q e R r q p)
/-- a + b: ints, texts, tuples, lists -/
def mAdd (x y : MV) (h : MH) : Out MV := match x, y with
  | .int i, .int j => .ok (.int (i + j)) h
  | .str s, .str t => if s.length + t.length ≤ 1000000 then .ok (.str (s ++ t)) h else .bad
  | .tup xs, .tup ys => if xs.length + ys.length ≤ 1000000 ∧ xs.isEmpty = false then .ok (.tup (xs ++ ys)) h else .bad
  | .ref i, .ref j => match h.get i, h.get j with
    | some (.lst xs), some (.lst ys) => if xs.length + ys.length ≤ 1000000 then .ok (.ref h.n) (h.push (.lst (xs ++ ys))) else .bad
    | _, _ => .bad
  | _, _ => .bad
abbrev rAddS : R2 := fun x y H Q => ∃ i j, x = .str i ∧ y = .str j ∧ i.length + j.length ≤ sizeLine ∧ Q (.str (i ++ j)) H
abbrev rAddM (K : PySem.W.Frag) : R2 := fun x y H Q => (rI0 (fun i j => .int (i + j)) x y H Q ∨ rAddS x y H Q) ∨ (rCatT K x y H Q ∨ rCat x y H Q)
theorem str_app {s t : List Nat} : (⟨s.toArray⟩ : Str) ++ ⟨t.toArray⟩ = ⟨(s ++ t).toArray⟩ := by
  show Str.mk _ = Str.mk _
  simp
theorem RVs.nil_iff {ρ : List Addr} {H : Hp} {xs : List MV} {vs : List V} (r : RVs Z ρ H xs vs) : vs = [] ↔ xs = [] := by
  cases r <;> simp
theorem om_add : OpM Z E mAdd (rAddM Z.K) := fun ρ h H x y v w Q R r q p => by
  cases r with
  | int i =>
    cases q with
    | int j => exact .inl (.inl ⟨i, j, rfl, rfl, p.ok R (.int _)⟩)
    | _ => exact p.elim
  | str s =>
    cases q with
    | str t =>
      have p' : Post Z (rV Z) ρ H Q E (if s.length + t.length ≤ 1000000 then .ok (.str (s ++ t)) h else .bad) := p
      by_cases e : s.length + t.length ≤ 1000000
      · rw [if_pos e] at p'
        refine .inl (.inr ⟨_, _, rfl, rfl, ?_, ?_⟩)
        · show s.toArray.size + t.toArray.size ≤ sizeLine
          rw [sizeLine_eq]; simp; omega
        · rw [str_app]
          exact p'.ok R (.str _)
      · rw [if_neg e] at p'
        exact p'.elim
    | _ => exact p.elim
  | tup h1 r1 =>
    cases q with
    | tup h2 r2 =>
      rename_i a xs vs b ys ws
      have p' : Post Z (rV Z) ρ H Q E (if xs.length + ys.length ≤ 1000000 ∧ xs.isEmpty = false then .ok (.tup (xs ++ ys)) h else .bad) := p
      by_cases e : xs.length + ys.length ≤ 1000000 ∧ xs.isEmpty = false
      · rw [if_pos e] at p'
        have ne : xs ≠ [] := by intro z; rw [z] at e; exact absurd e.2 (by decide)
        refine .inr (.inl ⟨a, b, vs, ws, rfl, rfl, .inl (.inl h1), .inl (.inl h2), fun z => ne (r1.nil_iff.mp z), by rw [← r1.length, ← r2.length, sizeLine_eq]; omega, fun z => ?_, fun z pp hp => ?_⟩)
        · rw [r2.nil_iff.mp z, List.append_nil] at p'
          exact p'.ok R (.tup h1 r1)
        · exact p' ρ _ _ (Ext.still1 hp) (R.still1 hp) (.tup upd_same (RVs.app (r2.ext (Ext.still1 hp)) (r1.ext (Ext.still1 hp))))
      · rw [if_neg e] at p'
        exact p'.elim
    | _ => exact p.elim
  | @ref i a hi =>
    cases q with
    | @ref j b hj =>
      have p' : Post Z (rV Z) ρ H Q E (match h.get i, h.get j with
        | some (.lst xs), some (.lst ys) => if xs.length + ys.length ≤ 1000000 then .ok (.ref h.n) (h.push (.lst (xs ++ ys))) else .bad
        | _, _ => .bad) := p
      cases k1 : h.get i with
      | none => rw [k1] at p'; exact p'.elim
      | some o1 =>
        cases k2 : h.get j with
        | none => rw [k1, k2] at p'; cases o1 <;> exact p'.elim
        | some o2 =>
          rw [k1, k2] at p'
          cases o1 with
          | lst xs =>
            cases o2 with
            | lst ys =>
              dsimp only at p'
              obtain ⟨vs, v1, v2⟩ := R.obj k1 hi
              obtain ⟨ws, w1, w2⟩ := R.obj k2 hj
              by_cases e : xs.length + ys.length ≤ 1000000
              · rw [if_pos e] at p'
                refine .inr (.inr ⟨a, b, vs, ws, rfl, rfl, v1, w1, by rw [← v2.length, ← w2.length, sizeLine_eq]; omega, fun pp hp => ?_⟩)
                refine p' (ρ ++ [pp]) _ _ (Ext.push hp) (R.push hp ⟨_, upd_same, RVs.app (w2.ext (Ext.push hp)) (v2.ext (Ext.push hp))⟩) (.ref ?_)
                rw [← R.len]; simp
              · rw [if_neg e] at p'
                exact p'.elim
            | _ => exact p'.elim
          | _ => exact p'.elim
    | _ => exact p.elim
  | _ => exact p.elim
end
section
variable {X : Cx} {T : Nat → Addr} {E : XK} {a b : Expr} {ga gb : ME} {pos : Pos}
theorem op_addM : OpR X (binaryOp .Add) (rAddM X.K) := (OpR.or (OpR.or op_add op_add_str) (OpR.or op_catT op_cat))
theorem je_add (ha : JE X T E a ga) (hb : JE X T E b gb) : JE X T E (.BinOp a .Add b pos) (gBin mAdd ga gb) := je_op op_addM om_add ha hb
theorem je_sub (ha : JE X T E a ga) (hb : JE X T E b gb) : JE X T E (.BinOp a .Sub b pos) (gBin mSub ga gb) := je_op op_sub om_sub ha hb
theorem je_mul (ha : JE X T E a ga) (hb : JE X T E b gb) : JE X T E (.BinOp a .Mult b pos) (gBin mMul ga gb) := je_op op_mul om_mul ha hb
theorem je_mod (ha : JE X T E a ga) (hb : JE X T E b gb) : JE X T E (.BinOp a .Mod b pos) (gBin mMod ga gb) := je_op op_mod om_mod ha hb
theorem je_div (ha : JE X T E a ga) (hb : JE X T E b gb) : JE X T E (.BinOp a .FloorDiv b pos) (gBin mDiv ga gb) := je_op op_fdiv om_div ha hb
theorem je_pow (ha : JE X T E a ga) (hb : JE X T E b gb) : JE X T E (.BinOp a .Pow b pos) (gBin mPow ga gb) := je_op op_pow om_pow ha hb
theorem jt_eq (ha : JE X T E a ga) (hb : JE X T E b gb) : JT X T E (.Compare a [.Eq] [b] pos) (gB (gBin mEqV ga gb)) := jt_cmp op_eq om_eq ha hb (nobehind _ (by decide) (by decide))
theorem jt_ne (ha : JE X T E a ga) (hb : JE X T E b gb) : JT X T E (.Compare a [.NotEq] [b] pos) (gB (gBin mNeV ga gb)) := jt_cmp op_ne om_ne ha hb (nobehind _ (by decide) (by decide))
theorem jt_lt (ha : JE X T E a ga) (hb : JE X T E b gb) : JT X T E (.Compare a [.Lt] [b] pos) (gB (gBin mLtI ga gb)) := jt_cmp op_lt om_lt ha hb (nobehind _ (by decide) (by decide))
theorem jt_le (ha : JE X T E a ga) (hb : JE X T E b gb) : JT X T E (.Compare a [.LtE] [b] pos) (gB (gBin mLeI ga gb)) := jt_cmp op_le om_le ha hb (nobehind _ (by decide) (by decide))
theorem jt_gt (ha : JE X T E a ga) (hb : JE X T E b gb) : JT X T E (.Compare a [.Gt] [b] pos) (gB (gBin mGtI ga gb)) := jt_cmp op_gt om_gt ha hb (nobehind _ (by decide) (by decide))
theorem jt_ge (ha : JE X T E a ga) (hb : JE X T E b gb) : JT X T E (.Compare a [.GtE] [b] pos) (gB (gBin mGeI ga gb)) := jt_cmp op_ge om_ge ha hb (nobehind _ (by decide) (by decide))
theorem je_eq (ha : JE X T E a ga) (hb : JE X T E b gb) : JE X T E (.Compare a [.Eq] [b] pos) (gBin mEqV ga gb) := je_cmp op_eq om_eq ha hb (nobehind _ (by decide) (by decide))
theorem je_ne (ha : JE X T E a ga) (hb : JE X T E b gb) : JE X T E (.Compare a [.NotEq] [b] pos) (gBin mNeV ga gb) := je_cmp op_ne om_ne ha hb (nobehind _ (by decide) (by decide))
theorem je_lt (ha : JE X T E a ga) (hb : JE X T E b gb) : JE X T E (.Compare a [.Lt] [b] pos) (gBin mLtI ga gb) := je_cmp op_lt om_lt ha hb (nobehind _ (by decide) (by decide))
theorem je_le (ha : JE X T E a ga) (hb : JE X T E b gb) : JE X T E (.Compare a [.LtE] [b] pos) (gBin mLeI ga gb) := je_cmp op_le om_le ha hb (nobehind _ (by decide) (by decide))
theorem je_gt (ha : JE X T E a ga) (hb : JE X T E b gb) : JE X T E (.Compare a [.Gt] [b] pos) (gBin mGtI ga gb) := je_cmp op_gt om_gt ha hb (nobehind _ (by decide) (by decide))
theorem je_ge (ha : JE X T E a ga) (hb : JE X T E b gb) : JE X T E (.Compare a [.GtE] [b] pos) (gBin mGeI ga gb) := je_cmp op_ge om_ge ha hb (nobehind _ (by decide) (by decide))
def mNeg (x : MV) (h : MH) : Out MV := match x with
  | .int i => .ok (.int (-i)) h
  | _ => .bad
theorem je_neg (ha : JE X T E a ga) : JE X T E (.UnaryOp .USub a pos) (gUn mNeg ga) :=
  PE.le (pe_un un_neg ha) fun σ H Q ⟨ρ, m, h, s, q⟩ => stepE s q fun ρ1 h1 H1 x v s1 e1 r1 q1 => by
    cases r1 with
    | int i => exact ⟨i, rfl, q1.ok s1.hr (.int _)⟩
    | _ => exact q1.elim
/-- is None -/
def mIsN (x : MV) : Bool := match x with
  | .non => true
  | _ => false
theorem isN_ok {Z : Zt} {ρ : List Addr} {H : Hp} {x : MV} {v : V} (r : RV Z ρ H x v) : decide (v = .non) = mIsN x := by cases r <;> rfl
def gIsN (a : ME) : ME := gUn (fun x h => .ok (.bl (mIsN x)) h) a
def gNotN (a : ME) : ME := gUn (fun x h => .ok (.bl (!mIsN x)) h) a
theorem le_isN : ∀ σ H Q, tE ⟨X.K, T⟩ E (gIsN ga) σ H Q → tIsN (tE ⟨X.K, T⟩ E ga) σ H Q := fun σ H Q ⟨ρ, m, h, s, q⟩ => stepE s q fun ρ1 h1 H1 x v s1 e1 r1 q1 => by
  rw [isN_ok r1]; exact q1.ok s1.hr (.bl _)
theorem le_notN : ∀ σ H Q, tE ⟨X.K, T⟩ E (gNotN ga) σ H Q → tNotN (tE ⟨X.K, T⟩ E ga) σ H Q := fun σ H Q ⟨ρ, m, h, s, q⟩ => stepE s q fun ρ1 h1 H1 x v s1 e1 r1 q1 => by
  rw [isN_ok r1]; exact q1.ok s1.hr (.bl _)
theorem je_isN {j pos'} (ha : JE X T E a ga) : JE X T E (.Compare a [.Is] [.Constant .none j pos'] pos) (gIsN ga) := PE.le (pe_cmp (pc_isN ha)) le_isN
theorem je_notN {j pos'} (ha : JE X T E a ga) : JE X T E (.Compare a [.IsNot] [.Constant .none j pos'] pos) (gNotN ga) := PE.le (pe_cmp (pc_notN ha)) le_notN
theorem le_B {t : TE} {g : ME} (k : ∀ σ H Q, tE ⟨X.K, T⟩ E g σ H Q → t σ H Q) : ∀ σ H Q, tT ⟨X.K, T⟩ E (gB g) σ H Q → tB t σ H Q := fun σ H Q ⟨ρ, m, h, s, q⟩ =>
  k _ _ _ (stepE s q fun ρ1 h1 H1 x v s1 e1 r1 q1 => by
    cases r1 with
    | bl b => exact ⟨b, rfl, q1.ok s1.hr rfl⟩
    | _ => exact q1.elim)
theorem jt_isN {j pos'} (ha : JE X T E a ga) : JT X T E (.Compare a [.Is] [.Constant .none j pos'] pos) (gB (gIsN ga)) := PT.le (pt_cmp (pc_isN ha)) (le_B le_isN)
theorem jt_notN {j pos'} (ha : JE X T E a ga) : JT X T E (.Compare a [.IsNot] [.Constant .none j pos'] pos) (gB (gNotN ga)) := PT.le (pt_cmp (pc_notN ha)) (le_B le_notN)
end
end MI
set_option Elab.async false
set_option linter.all false
set_option maxRecDepth 100000
set_option maxHeartbeats 4000000
namespace MI
open PySem PySem.Spec PyProof.Rows L2 JB
def mput (f : Nat) (v : MV) : List (Nat × MV) → List (Nat × MV)
  | [] => [(f, v)]
  | (g, x) :: r => if g = f then (g, v) :: r else (g, x) :: mput f v r
theorem RKs.put {Z : Zt} {ρ : List Addr} {H : Hp} {xs : List (Nat × MV)} {vs : List (Str × V)} (r : RKs nm Z ρ H xs vs) {f : Nat} {x : MV} {v : V} (q : RV Z ρ H x v) : RKs nm Z ρ H (mput f x xs) (putF (nm f) v vs) := by
  induction r with
  | nil => exact .cons q .nil
  | @cons k y w xs vs a r ih =>
    show RKs nm Z ρ H (if k = f then (k, x) :: xs else (k, y) :: mput f x xs) (if nm k = nm f then (nm k, v) :: vs else (nm k, w) :: putF (nm f) v vs)
    by_cases e : k = f
    · subst e; rw [if_pos rfl, if_pos rfl]; exact .cons q r
    · rw [if_neg e, if_neg (fun z => e (nm_inj z))]; exact .cons a ih
theorem RKs.length {κ κ' : Type} {f : κ → κ'} {Z : Zt} {ρ : List Addr} {H : Hp} {xs : List (κ × MV)} {vs : List (κ' × V)} (r : RKs f Z ρ H xs vs) : xs.length = vs.length := by
  induction r with
  | nil => rfl
  | cons _ _ ih => simp [ih]
def mFld (cs : List Nat) (f : Nat) (x : MV) (h : MH) : Out MV := match x with
  | .ref i => match h.get i with
    | some (.ins c fs) => if cs.contains c = true then match fs.lookup f with
        | some v => .ok v h
        | none => .bad
      else .bad
    | _ => .bad
  | _ => .bad
def gFld (cs : List Nat) (f : Nat) (a : ME) : ME := gUn (mFld cs f) a
/-- the classes cs have no such attribute of their own -/
def FldOk (K : PySem.W.Frag) (T : Nat → Addr) (cs : List Nat) (f : Nat) : Prop := ∀ c ∈ cs, Cls K (T c) ∧ NoAttr K (T c) (nm f)
def gFldS (cs : List Nat) (f : Nat) (v o : ME) : MS := fun m h => (v m h).bindS fun y h1 => (o m h1).bindS fun x h2 => match x with
  | .ref i => match h2.get i with
    | some (.ins c fs) => if cs.contains c = true ∧ fs.length < 900 then .nx m (h2.set i (.ins c (mput f y fs))) else .bad
    | _ => .bad
  | _ => .bad
def gFldAug (cs : List Nat) (f : Nat) (g : Int → Int → Int) (o v : ME) : MS := fun m h => (o m h).bindS fun x h1 => (mFld cs f x h1).bindS fun w h1 => (v m h1).bindS fun y h2 => match x, w, y with
  | .ref i, .int p, .int q => match h1.get i, h2.get i with
    | some (.ins c0 _), some (.ins c fs) => if c = c0 ∧ fs.length < 900 then .nx m (h2.set i (.ins c (mput f (.int (g p q)) fs))) else .bad
    | _, _ => .bad
  | _, _, _ => .bad
section
variable {X : Cx} {T : Nat → Addr} {E : XK} {o e value : Expr} {f : Str} {fi : Nat} {cs : List Nat} {pos pos' tpos : Pos} {go ge : ME}
theorem fld_ok {Z : Zt} {α : Type} {R : α → Prop} {ρ : List Addr} {h : MH} {H : Hp} {x : MV} {v : V} {k : MV → MH → SO} (R1 : HR Z ρ h H) (rv : RV Z ρ H x v) (D : Ends) (q : PostS Z ρ H D E ((mFld cs fi x h).bindS k)) :
    ∃ i a c fs dx vs y w, x = .ref i ∧ v = .ref a ∧ ρ[i]? = some a ∧ h.get i = some (.ins c fs) ∧ c ∈ cs ∧ H a = some (.ins (Z.adr c) dx vs) ∧ RKs nm Z ρ H fs vs ∧ vs.lookup (nm fi) = some w ∧ RV Z ρ H y w ∧ PostS Z ρ H D E (k y h) := by
  cases rv with
  | @ref i a hi =>
    have q' : PostS Z ρ H D E (Out.bindS (match h.get i with
      | some (.ins c fs) => if cs.contains c = true then match fs.lookup fi with
          | some v => .ok v h
          | none => .bad
        else .bad
      | _ => .bad) k) := q
    cases g : h.get i with
    | none => rw [g] at q'; exact q'.elim
    | some ob =>
      rw [g] at q'
      cases ob with
      | ins c fs =>
        dsimp only at q'
        by_cases z : cs.contains c = true
        · rw [if_pos z] at q'
          obtain ⟨dx, vs, h3, h4⟩ := R1.obj g hi
          rcases h4.lookup fi with ⟨l, _⟩ | ⟨y, w, l1, l2, l3⟩
          · rw [l] at q'; exact q'.elim
          · rw [l1] at q'
            exact ⟨i, a, c, fs, dx, vs, y, w, rfl, rfl, hi, g, by simpa using z, h3, h4, l2, l3, q'⟩
        · rw [if_neg z] at q'; exact q'.elim
      | _ => exact q'.elim
  | _ => exact q.elim
theorem je_fld (ho : JE X T E o go) (k : FldOk X.K T cs fi) (hf : f = nm fi := by rfl) (hb : attributeBase o f X.env (eval o X.env) = eval o X.env := by rfl) : JE X T E (.Attribute o f pos) (gFld cs fi go) := by
  refine PE.le (pe_fld ho hb) fun σ H Q ⟨ρ, m, h, s, q⟩ => stepE s q fun ρ1 h1 H1 x v s1 e1 r1 q1 => ?_
  cases r1 with
  | @ref i a hi =>
    have q' : Post ⟨X.K, T⟩ (rV ⟨X.K, T⟩) ρ1 H1 Q E (match h1.get i with
      | some (.ins c fs) => if cs.contains c = true then match fs.lookup fi with
          | some v => .ok v h1
          | none => .bad
        else .bad
      | _ => .bad) := q1
    cases g : h1.get i with
    | none => rw [g] at q'; exact q'.elim
    | some ob =>
      rw [g] at q'
      cases ob with
      | ins c fs =>
        dsimp only at q'
        by_cases z : cs.contains c = true
        · rw [if_pos z] at q'
          obtain ⟨dx, vs, h3, h4⟩ := s1.hr.obj g hi
          obtain ⟨k1, k2⟩ := k c (by simpa using z)
          rcases h4.lookup fi with ⟨l, _⟩ | ⟨y, w, l1, l2, l3⟩
          · rw [l] at q'; exact q'.elim
          · rw [l1] at q'
            subst hf
            exact ⟨a, T c, dx, vs, w, rfl, h3, k1, k2, l2, q'.ok s1.hr l3⟩
        · rw [if_neg z] at q'; exact q'.elim
      | _ => exact q'.elim
  | _ => exact q1.elim
theorem js_fld (ho : JE X T E o go) (hv : JE X T E value ge) (k : FldOk X.K T cs fi) (hf : f = nm fi := by rfl) (hs : swapsWith value (some (.Attribute o f pos')) pos.line X.env = pure false := by rfl) :
    JS X T E (.Assign [.Attribute o f pos'] value pos) (gFldS cs fi ge go) := by
  refine PS.le (ps_fld ho hv hs) fun D σ H ⟨ρ, m, h, s, q⟩ => sE s q fun ρ1 h1 H1 y w s1 e1 r1 q1 => sE s1 q1 fun ρ2 h2 H2 x v s2 e2 r2 q2 => ?_
  cases r2 with
  | @ref i a hi =>
    have q' : PostS ⟨X.K, T⟩ ρ2 H2 D E (match h2.get i with
      | some (.ins c fs) => if cs.contains c = true ∧ fs.length < 900 then .nx m (h2.set i (.ins c (mput fi y fs))) else .bad
      | _ => .bad) := q2
    cases g : h2.get i with
    | none => rw [g] at q'; exact q'.elim
    | some ob =>
      rw [g] at q'
      cases ob with
      | ins c fs =>
        dsimp only at q'
        by_cases z : cs.contains c = true ∧ fs.length < 900
        · rw [if_pos z] at q'
          obtain ⟨dx, vs, h3, h4⟩ := s2.hr.obj g hi
          obtain ⟨k1, k2⟩ := k c (by simpa using z.1)
          subst hf
          refine ⟨a, T c, dx, vs, rfl, h3, k1, k2, by rw [← h4.length]; omega, ?_⟩
          have x1 := s2.hr.grow g hi (.ins (T c) dx (putF (nm fi) w vs))
          exact q' ρ2 _ _ x1 (s2.to x1 (s2.hr.set g hi ⟨dx, _, upd_same, (h4.ext x1).put ((r1.ext e2).ext x1)⟩))
        · rw [if_neg z] at q'; exact q'.elim
      | _ => exact q'.elim
  | _ => exact q2.elim
theorem js_fldaug {op : Operator} {g : Int → Int → Int} (ho : JE X T E o go) (hv : JE X T E value ge) (k : FldOk X.K T cs fi) (hf : f = nm fi)
    (hop : InOp X op (fun x y H Q => ∃ i j, x = .int i ∧ y = .int j ∧ Q (.int (g i j)) H)) :
    JS X T E (.AugAssign (.Attribute o f tpos) op value pos) (gFldAug cs fi g go ge) := by
  refine PS.le (ps_fldaug ho hv hop) fun D σ H ⟨ρ, m, h, s, q⟩ => sE s q fun ρ1 h1 H1 x v s1 e1 r1 q1 => ?_
  obtain ⟨i, a, c, fs, dx, vs, y, w, rfl, rfl, hi, g1, hc, h3, _, l2, l3, q2⟩ := fld_ok (α := Unit) (R := fun _ => True) s1.hr r1 D q1
  obtain ⟨k1, k2⟩ := k c hc
  subst hf
  refine ⟨a, T c, dx, vs, w, rfl, h3, k1, k2, l2, sE s1 q2 fun ρ2 h2 H2 y2 w2 s2 e2 r2 q3 => ?_⟩
  have l4 := l3.ext e2
  clear l3
  cases l4 with
  | int p =>
    cases r2 with
    | int q0 =>
      refine ⟨p, q0, rfl, rfl, ?_⟩
      have q' : PostS ⟨X.K, T⟩ ρ2 H2 D E (match h1.get i, h2.get i with
        | some (.ins c0 _), some (.ins c fs) => if c = c0 ∧ fs.length < 900 then .nx m (h2.set i (.ins c (mput fi (.int (g p q0)) fs))) else .bad
        | _, _ => .bad) := q3
      rw [g1] at q'
      have hi2 := e2.at hi
      cases gg : h2.get i with
      | none => rw [gg] at q'; exact q'.elim
      | some ob =>
        rw [gg] at q'
        cases ob with
        | ins c' fs' =>
          dsimp only at q'
          by_cases z : c' = c ∧ fs'.length < 900
          · rw [if_pos z] at q'
            obtain ⟨rfl, z⟩ := z
            obtain ⟨dx', vs', h5, h6⟩ := s2.hr.obj gg hi2
            refine ⟨dx', vs', h5, by rw [← h6.length]; omega, ?_⟩
            have x1 := s2.hr.grow gg hi2 (.ins (T c') dx' (putF (nm fi) (.int (g p q0)) vs'))
            exact q' ρ2 _ _ x1 (s2.to x1 (s2.hr.set gg hi2 ⟨dx', _, upd_same, (h6.ext x1).put (.int _)⟩))
          · rw [if_neg z] at q'; exact q'.elim
        | _ => exact q'.elim
    | _ => exact q3.elim
  | _ => exact q3.elim
theorem aug_add : InOp X .Add (fun x y H Q => ∃ i j, x = .int i ∧ y = .int j ∧ Q (.int (i + j)) H) := in_add
theorem aug_sub : InOp X .Sub (fun x y H Q => ∃ i j, x = .int i ∧ y = .int j ∧ Q (.int (i - j)) H) := in_sub
end
def seqOf (h : MH) : MV → Option (List MV)
  | .tup xs => some xs
  | .ktp xs => some xs
  | .fls xs => some xs
  | .ref i => match h.get i with
    | some (.lst xs) => some xs
    | _ => none
  | _ => none
def isL : MV → Bool
  | .tup _ => false
  | .ktp _ => false
  | _ => true
theorem seqOf_ok {Z : Zt} {ρ : List Addr} {h : MH} {H : Hp} {x : MV} {v : V} {xs : List MV} (R : HR Z ρ h H) (r : RV Z ρ H x v) (e : seqOf h x = some xs) :
    ∃ a vs, v = .ref a ∧ RVs Z ρ H xs vs ∧ if isL x = true then SqL Z.K H a vs else SqT Z.K H a vs := by
  cases r with
  | tup h1 r1 => cases e; exact ⟨_, _, rfl, r1, .inl (.inl h1)⟩
  | ktp h1 r1 => cases e; exact ⟨_, _, rfl, r1, ktp_sq h1⟩
  | fls h1 r1 => cases e; exact ⟨_, _, rfl, r1, h1.sq⟩
  | @ref i a hi =>
    dsimp only [seqOf] at e
    cases g : h.get i with
    | none => rw [g] at e; cases e
    | some o =>
      rw [g] at e
      cases o with
      | lst ys =>
        cases e
        obtain ⟨vs, h1, h2⟩ := R.obj g hi
        exact ⟨a, vs, rfl, h2, .inl (.inl h1)⟩
      | _ => cases e
  | _ => cases e
theorem seqOf_or {Z : Zt} {ρ : List Addr} {h : MH} {H : Hp} {x : MV} {v : V} {xs : List MV} (R : HR Z ρ h H) (r : RV Z ρ H x v) (e : seqOf h x = some xs) :
    ∃ a vs, v = .ref a ∧ RVs Z ρ H xs vs ∧ (SqL Z.K H a vs ∨ SqT Z.K H a vs) := by
  obtain ⟨a, vs, h1, h2, h3⟩ := seqOf_ok R r e
  refine ⟨a, vs, h1, h2, ?_⟩
  split at h3
  · exact .inl h3
  · exact .inr h3
def mTru (h : MH) : MV → Option Bool
  | .non => some false
  | .bl b => some b
  | .int i => some (i != 0)
  | .str s => if s.length ≤ 1000000 then some (!s.isEmpty) else none
  | .ref i => match h.get i with
    | some (.lst xs) => some (!xs.isEmpty)
    | some (.dic kvs) => some (!kvs.isEmpty)
    | _ => none
  | x => (seqOf h x).map fun xs => !xs.isEmpty
def gTru (a : ME) : MT := fun m h => (a m h).bind fun x h1 => match mTru h1 x with
  | some b => .ok b h1
  | none => .bad
theorem RVs.emp {Z : Zt} {ρ : List Addr} {H : Hp} {xs : List MV} {vs : List V} (r : RVs Z ρ H xs vs) : (!xs.isEmpty) = !vs.isEmpty := by cases r <;> rfl
theorem RKs.emp {κ κ' : Type} {f : κ → κ'} {Z : Zt} {ρ : List Addr} {H : Hp} {xs : List (κ × MV)} {vs : List (κ' × V)} (r : RKs f Z ρ H xs vs) : (!xs.isEmpty) = !vs.isEmpty := by cases r <;> rfl
theorem mTru_ok {Z : Zt} {ρ : List Addr} {h : MH} {H : Hp} {x : MV} {v : V} {b : Bool} (R : HR Z ρ h H) (r : RV Z ρ H x v) (e : mTru h x = some b) : TruV Z.K v H b := by
  cases r with
  | non => cases e; exact rfl
  | bl c => cases e; exact rfl
  | int i => cases e; exact rfl
  | str s =>
    dsimp only [mTru] at e
    split at e
    · cases e
      refine ⟨?_, ?_⟩
      · show s.toArray.size ≤ sizeLine
        rw [sizeLine_eq]; simp; omega
      · show (!s.isEmpty) = ((s.toArray.size : Int) != 0)
        cases s with
        | nil => rfl
        | cons c l => simp; omega
    · cases e
  | tup h1 r1 => cases e; exact .inr (.inl ⟨_, .inl (.inl h1), r1.emp⟩)
  | ktp h1 r1 => cases e; exact .inr (.inl ⟨_, ktp_sq h1, r1.emp⟩)
  | fls h1 r1 => cases e; exact .inl ⟨_, h1.sq, r1.emp⟩
  | @ref i a hi =>
    dsimp only [mTru] at e
    cases g : h.get i with
    | none => rw [g] at e; cases e
    | some o =>
      rw [g] at e
      cases o with
      | lst ys =>
        cases e
        obtain ⟨vs, h1, h2⟩ := R.obj g hi
        exact .inl ⟨vs, .inl (.inl h1), h2.emp⟩
      | dic ys =>
        cases e
        obtain ⟨vs, h1, h2⟩ := R.obj g hi
        exact .inr (.inr ⟨vs, h1, h2.emp⟩)
      | _ => cases e
  | _ => cases e
section
variable {X : Cx} {T : Nat → Addr} {E : XK} {o e a : Expr} {pos : Pos} {go ge ga : ME}
theorem jt_tru (ha : JE X T E a ga) (he : ∀ whole, isTrue a X.env whole = (do let v ← whole; standAt a.pos; holding [v] (truthy v)) := by intro _; rfl) : JT X T E a (gTru ga) :=
  PT.le (pt_truth ha he) fun σ H Q ⟨ρ, m, h, s, q⟩ => stepE s q fun ρ1 h1 H1 x v s1 e1 r1 q1 => by
    cases k : mTru h1 x with
    | none => rw [k] at q1; exact q1.elim
    | some b => rw [k] at q1; exact ⟨b, mTru_ok s1.hr r1 k, q1.ok s1.hr rfl⟩
end
def mLen (h : MH) : MV → Option Nat
  | .str s => if s.length ≤ 1000000 then some s.length else none
  | .ref i => match h.get i with
    | some (.lst xs) => some xs.length
    | some (.dic kvs) => some kvs.length
    | _ => none
  | x => (seqOf h x).map List.length
def gLen (a : ME) : ME := gUn (fun x h => match mLen h x with
  | some n => .ok (.int n) h
  | none => .bad) a
end MI
set_option Elab.async false
set_option linter.all false
set_option maxRecDepth 100000
set_option maxHeartbeats 4000000
namespace MI
open PySem PySem.Spec PyProof.Rows L2 JB
def mkey : MV → Option MK
  | .int i => some (.inl i)
  | .str s => some (.inr s)
  | _ => none
def keq : MK → MK → Bool
  | .inl i, .inl j => decide (i = j)
  | .inr s, .inr t => leq s t
  | _, _ => false
theorem keq_iff : ∀ {a b : MK}, keq a b = true ↔ kOf a = kOf b
  | .inl i, .inl j => by simp [keq, kOf]
  | .inr s, .inr t => by
    show leq s t = true ↔ _
    rw [leq_iff]
    simp [kOf]
  | .inl _, .inr _ => by simp [keq, kOf]
  | .inr _, .inl _ => by simp [keq, kOf]
def keqs : List MK → List MK → Bool
  | [], [] => true
  | a :: l, b :: r => keq a b && keqs l r
  | _, _ => false
theorem keqs_iff : ∀ {a b : List MK}, keqs a b = true ↔ a.map kOf = b.map kOf
  | [], [] => by simp [keqs]
  | a :: l, b :: r => by simp [keqs, keq_iff, keqs_iff (a := l) (b := r)]
  | [], _ :: _ => by simp [keqs]
  | _ :: _, [] => by simp [keqs]
theorem mkey_ok {Z : Zt} {ρ : List Addr} {H : Hp} {x : MV} {v : V} {k : MK} (r : RV Z ρ H x v) (e : mkey x = some k) : v = kV (kOf k) := by
  cases r <;> cases e <;> rfl
def mkeys : List MV → Option (List MK)
  | [] => some []
  | x :: xs => match mkey x, mkeys xs with
    | some k, some ks => some (k :: ks)
    | _, _ => none
theorem mkeys_ok {Z : Zt} {ρ : List Addr} {H : Hp} : ∀ {xs : List MV} {vs : List V} {ks : List MK}, RVs Z ρ H xs vs → mkeys xs = some ks → vs = (ks.map kOf).map kV
  | _, _, ks, .nil, e => by cases e; rfl
  | _, _, ks, .cons (x := x) (xs := xs) a r, e => by
    dsimp only [mkeys] at e
    cases k1 : mkey x with
    | none => rw [k1] at e; cases e
    | some k =>
      cases k2 : mkeys xs with
      | none => rw [k1, k2] at e; cases e
      | some ks' =>
        rw [k1, k2] at e
        cases e
        rw [mkey_ok a k1, mkeys_ok r k2]; rfl
section
variable {κ κ' : Type} [DecidableEq κ'] (e : κ → κ → Bool)
def dval : List (κ × MV) → κ → Option MV
  | [], _ => none
  | (g, x) :: r, k => if e g k = true then some x else dval r k
def dhas : List (κ × MV) → κ → Bool
  | [], _ => false
  | (g, _) :: r, k => if e g k = true then true else dhas r k
def dset (k : κ) (v : MV) : List (κ × MV) → List (κ × MV)
  | [] => []
  | (g, x) :: r => if e g k = true then (g, v) :: dset k v r else (g, x) :: dset k v r
def dput (kvs : List (κ × MV)) (k : κ) (v : MV) : List (κ × MV) := if dhas e kvs k = true then dset e k v kvs else kvs ++ [(k, v)]
variable {e} {f : κ → κ'} {Z : Zt} {ρ : List Addr} {H : Hp}
theorem dval_ok (he : ∀ a b, e a b = true ↔ f a = f b) {xs : List (κ × MV)} {vs : List (κ' × V)} (r : RKs f Z ρ H xs vs) (k : κ) :
    (dval e xs k = none ∧ valV vs (f k) = none) ∨ ∃ x v, dval e xs k = some x ∧ valV vs (f k) = some v ∧ RV Z ρ H x v := by
  induction r with
  | nil => exact .inl ⟨rfl, rfl⟩
  | @cons g x v xs vs a r ih =>
    by_cases z : e g k = true
    · exact .inr ⟨x, v, if_pos z, valV_pos ((he _ _).mp z), a⟩
    · have z' : ¬ f g = f k := fun q => z ((he _ _).mpr q)
      rw [valV_neg z']
      show (((if e g k = true then some x else dval e xs k) = none) ∧ _) ∨ ∃ y v, ((if e g k = true then some x else dval e xs k) = some y) ∧ _
      rw [if_neg z]
      exact ih
theorem dhas_ok (he : ∀ a b, e a b = true ↔ f a = f b) {xs : List (κ × MV)} {vs : List (κ' × V)} (r : RKs f Z ρ H xs vs) (k : κ) : dhas e xs k = vs.any fun kv => decide (kv.1 = f k) := by
  induction r with
  | nil => rfl
  | @cons g x v xs vs a r ih =>
    rw [List.any_cons]
    show (if e g k = true then true else dhas e xs k) = _
    by_cases z : e g k = true
    · rw [if_pos z, decide_eq_true ((he _ _).mp z), Bool.true_or]
    · rw [if_neg z, decide_eq_false (fun q => z ((he _ _).mpr q)), Bool.false_or]; exact ih
theorem dset_ok (he : ∀ a b, e a b = true ↔ f a = f b) {xs : List (κ × MV)} {vs : List (κ' × V)} (r : RKs f Z ρ H xs vs) {k : κ} {y : MV} {w : V} (q : RV Z ρ H y w) :
    RKs f Z ρ H (dset e k y xs) (vs.map fun kv => if kv.1 = f k then (kv.1, w) else kv) := by
  induction r with
  | nil => exact .nil
  | @cons g x v xs vs a r ih =>
    rw [List.map_cons]
    show RKs f Z ρ H (if e g k = true then (g, y) :: dset e k y xs else (g, x) :: dset e k y xs) ((if f g = f k then (f g, w) else (f g, v)) :: _)
    by_cases z : e g k = true
    · rw [if_pos z, if_pos ((he _ _).mp z)]; exact .cons q ih
    · rw [if_neg z, if_neg (fun q => z ((he _ _).mpr q))]; exact .cons a ih
theorem RKs.snoc {xs : List (κ × MV)} {vs : List (κ' × V)} (r : RKs f Z ρ H xs vs) {k : κ} {y : MV} {w : V} (q : RV Z ρ H y w) : RKs f Z ρ H (xs ++ [(k, y)]) (vs ++ [(f k, w)]) := by
  induction r with
  | nil => exact .cons q .nil
  | cons a _ ih => exact .cons a ih
theorem dput_ok (he : ∀ a b, e a b = true ↔ f a = f b) {xs : List (κ × MV)} {vs : List (κ' × V)} (r : RKs f Z ρ H xs vs) {k : κ} {y : MV} {w : V} (q : RV Z ρ H y w) : RKs f Z ρ H (dput e xs k y) (putK vs (f k) w) := by
  unfold dput putK
  rw [dhas_ok he r k]
  split
  · exact dset_ok he r q
  · exact r.snoc q
end
theorem gBin_or {f f1 f2 : MV → MV → MH → Out MV} (k : ∀ x y h, f x y h = f1 x y h ∨ f x y h = f2 x y h) (a b : ME) (m : ML) (h : MH) : gBin f a b m h = gBin f1 a b m h ∨ gBin f a b m h = gBin f2 a b m h := by
  unfold gBin
  cases a m h with
  | bad => exact .inl rfl
  | er _ _ => exact .inl rfl
  | ok x h1 =>
    show (Out.bind (b m h1) _ = Out.bind (b m h1) _) ∨ _
    show ((b m h1).bind (fun y h2 => f x y h2) = (b m h1).bind fun y h2 => f1 x y h2) ∨ ((b m h1).bind (fun y h2 => f x y h2) = (b m h1).bind fun y h2 => f2 x y h2)
    cases b m h1 with
    | bad => exact .inl rfl
    | er _ _ => exact .inl rfl
    | ok y h2 => exact k x y h2
section
variable {X : Cx} {T : Nat → Addr} {E : XK} {e a b : Expr} {ga gb : ME} {f f1 f2 : MV → MV → MH → Out MV}
theorem PE.or {t t' : TE} (p : PE X e t) (q : PE X e t') : PE X e (fun σ H Q => t σ H Q ∨ t' σ H Q) := ⟨fun pins s σ H Q I h => h.elim (p.run pins s σ H Q I) (q.run pins s σ H Q I)⟩
theorem PT.or {t t' : TT} (p : PT X e t) (q : PT X e t') : PT X e (fun σ H Q => t σ H Q ∨ t' σ H Q) := ⟨fun pins s σ H Q I h => h.elim (p.run pins s σ H Q I) (q.run pins s σ H Q I)⟩
theorem je_bin_or (p : JE X T E e (gBin f1 ga gb)) (q : JE X T E e (gBin f2 ga gb)) (k : ∀ x y h, f x y h = f1 x y h ∨ f x y h = f2 x y h) : JE X T E e (gBin f ga gb) :=
  PE.le (PE.or p q) fun σ H Q ⟨ρ, m, h, s, z⟩ => by
    rcases gBin_or k ga gb m h with w | w
    · rw [w] at z; exact .inl ⟨ρ, m, h, s, z⟩
    · rw [w] at z; exact .inr ⟨ρ, m, h, s, z⟩
theorem jt_bin_or (p : JT X T E e (gB (gBin f1 ga gb))) (q : JT X T E e (gB (gBin f2 ga gb))) (k : ∀ x y h, f x y h = f1 x y h ∨ f x y h = f2 x y h) : JT X T E e (gB (gBin f ga gb)) :=
  PT.le (PT.or p q) fun σ H Q ⟨ρ, m, h, s, z⟩ => by
    unfold gB at z
    rcases gBin_or k ga gb m h with w | w
    · rw [w] at z; exact .inl ⟨ρ, m, h, s, z⟩
    · rw [w] at z; exact .inr ⟨ρ, m, h, s, z⟩
end
def isD (h : MH) : MV → Bool
  | .ref i => match h.get i with
    | some (.dic _) => true
    | some (.dit _) => true
    | some (.fdi _) => true
    | _ => false
  | _ => false
def oV (o : Option MV) (h : MH) : Out MV := match o with
  | some v => .ok v h
  | none => .bad
def mIxS (x y : MV) (h : MH) : Out MV := match y with
  | .int i => match x with
    | .str s => if s.length ≤ 1000000 then oV ((atI s i).map fun c => .str [c]) h else .bad
    | x => match seqOf h x with
      | some xs => oV (atI xs i) h
      | none => .bad
  | _ => .bad
def dGet (h : MH) (x y : MV) : Option (Option MV) := match x with
  | .ref i => match h.get i with
    | some (.dic kvs) => (mkey y).map fun k => dval keq kvs k
    | some (.fdi kvs) => (mkey y).map fun k => dval keq kvs k
    | some (.dit kvs) => match y with
      | .tup ys => (mkeys ys).map fun k => dval keqs kvs k
      | _ => none
    | _ => none
  | _ => none
def mIxD (x y : MV) (h : MH) : Out MV := match dGet h x y with
  | some o => oV o h
  | none => .bad
def mIx (x y : MV) (h : MH) : Out MV := if isD h x = true then mIxD x y h else mIxS x y h
theorem dGet_ok {Z : Zt} {ρ : List Addr} {h : MH} {H : Hp} {x y : MV} {v w : V} {o : Option MV} (R : HR Z ρ h H) (r : RV Z ρ H x v) (q : RV Z ρ H y w) (e : dGet h x y = some o) :
    ∃ a o', v = .ref a ∧ DGet H a w o' ∧ ((o = none ∧ o' = none) ∨ ∃ z u, o = some z ∧ o' = some u ∧ RV Z ρ H z u) := by
  cases r with
  | @ref i a hi =>
    dsimp only [dGet] at e
    cases g : h.get i with
    | none => rw [g] at e; cases e
    | some ob =>
      rw [g] at e
      cases ob with
      | dic kvs =>
        dsimp only at e
        obtain ⟨vs, h1, h2⟩ := R.obj g hi
        cases k : mkey y with
        | none => rw [k] at e; cases e
        | some k' =>
          rw [k] at e
          cases e
          rw [mkey_ok q k]
          exact ⟨a, _, rfl, DGet.k h1, dval_ok (e := keq) (f := kOf) (fun a b => keq_iff) h2 k'⟩
      | fdi kvs =>
        dsimp only at e
        obtain ⟨od, vs, h1, h2⟩ := R.obj g hi
        cases k : mkey y with
        | none => rw [k] at e; cases e
        | some k' =>
          rw [k] at e
          cases e
          rw [mkey_ok q k]
          exact ⟨a, _, rfl, .inl ⟨vs, kOf k', .inr ⟨od, h1⟩, rfl, rfl⟩, dval_ok (e := keq) (f := kOf) (fun a b => keq_iff) h2 k'⟩
      | dit kvs =>
        dsimp only at e
        obtain ⟨vs, h1, h2⟩ := R.obj g hi
        cases q with
        | tup h3 r3 =>
          dsimp only at e
          rename_i b ys ws
          cases k : mkeys ys with
          | none => rw [k] at e; cases e
          | some k' =>
            rw [k] at e
            cases e
            have hw := mkeys_ok r3 k
            subst hw
            exact ⟨a, _, rfl, DGet.t (k := k'.map kOf) h1 h3, dval_ok (e := keqs) (f := List.map kOf) (fun a b => keqs_iff) h2 k'⟩
        | _ => cases e
      | _ => cases e
  | _ => cases e
theorem atI_str {s : List Nat} {i : Int} : atI (⟨s.toArray⟩ : Str).cps.toList i = atI s i := rfl
theorem RVs.len_get {Z : Zt} {ρ : List Addr} {H : Hp} {xs : List MV} {vs : List V} (r : RVs Z ρ H xs vs) {i : Int} {x : MV} (e : atI xs i = some x) : ∃ v, atI vs i = some v ∧ RV Z ρ H x v := by
  unfold atI at e ⊢
  rw [← r.length]
  cases k : ixN xs.length i with
  | none => rw [k] at e; cases e
  | some j =>
    rw [k] at e
    exact r.get e
theorem om_ixS {Z : Zt} {E : XK} : OpM Z E mIxS (rIx Z.K) := fun ρ h H x y v w Q R r q p => by
  cases q with
  | int i =>
    by_cases hs : ∃ s, x = .str s
    · obtain ⟨s, rfl⟩ := hs
      cases r
      have p' : Post Z (rV Z) ρ H Q E (if s.length ≤ 1000000 then oV ((atI s i).map fun c => .str [c]) h else .bad) := p
      by_cases z : s.length ≤ 1000000
      · rw [if_pos z] at p'
        cases k : atI s i with
        | none => rw [k] at p'; exact p'.elim
        | some c =>
          rw [k] at p'
          exact .inr (.inr ⟨_, i, c, rfl, rfl, by show s.toArray.size ≤ sizeLine; rw [sizeLine_eq]; simp; omega, k, Post.ok (R := rV Z) (a := .str [c]) p' R (.str [c])⟩)
      · rw [if_neg z] at p'; exact p'.elim
    · have p' : Post Z (rV Z) ρ H Q E (match seqOf h x with
        | some xs => oV (atI xs i) h
        | none => .bad) := by
        cases x <;> first
          | exact absurd ⟨_, rfl⟩ hs
          | exact p
      cases k : seqOf h x with
      | none => rw [k] at p'; exact p'.elim
      | some xs =>
        rw [k] at p'
        dsimp only at p'
        obtain ⟨a, vs, rfl, r2, hq⟩ := seqOf_or R r k
        cases k2 : atI xs i with
        | none => rw [k2] at p'; exact p'.elim
        | some z =>
          rw [k2] at p'
          obtain ⟨u, h1, h2⟩ := r2.len_get k2
          have fin := Post.ok (R := rV Z) (a := z) p' R h2
          rcases hq with hq | hq
          · exact .inl ⟨a, vs, i, u, rfl, rfl, hq, h1, fin⟩
          · exact .inr (.inl ⟨a, vs, i, u, rfl, rfl, hq, h1, fin⟩)
  | _ => exact p.elim
section
variable {X : Cx} {T : Nat → Addr} {E : XK} {e a b o i value : Expr} {ga gb gv go gi : ME} {pos pos' : Pos}
theorem je_ixS (ha : JE X T E a ga) (hb : JE X T E b gb) (hs : PlainIx b := by intro _ _; rfl) : JE X T E (.Subscript a b pos) (gBin mIxS ga gb) := PE.le (pe_ix ix_seq ha hb hs) (le_op om_ixS)
theorem je_ixD (hu : X.A.units + 1 < cLine) (ha : JE X T E a ga) (hb : JE X T E b gb) (hs : NoSl b := by intro _ _; rfl) : JE X T E (.Subscript a b pos) (gBin mIxD ga gb) :=
  PE.le (pe_dget hu ha hb hs) fun σ H Q ⟨ρ, m, h, s, q⟩ => stepE s q fun ρ1 h1 H1 x v s1 e1 r1 q1 => stepE s1 q1 fun ρ2 h2 H2 y w s2 e2 r2 q2 => by
    unfold mIxD at q2
    cases k : dGet h2 x y with
    | none => rw [k] at q2; exact q2.elim
    | some oo =>
      rw [k] at q2
      obtain ⟨aa, o', rfl, h3, h4⟩ := dGet_ok s2.hr (r1.ext e2) r2 k
      rcases h4 with ⟨rfl, rfl⟩ | ⟨z, u, rfl, rfl, h5⟩
      · exact q2.elim
      · exact ⟨aa, u, rfl, h3, Post.ok (R := rV ⟨X.K, T⟩) (a := z) q2 s2.hr h5⟩
theorem je_ix (hu : X.A.units + 1 < cLine) (ha : JE X T E a ga) (hb : JE X T E b gb) (hs : PlainIx b := by intro _ _; rfl) (hs2 : NoSl b := by intro _ _; rfl) : JE X T E (.Subscript a b pos) (gBin mIx ga gb) :=
  je_bin_or (je_ixD hu ha hb hs2) (je_ixS ha hb hs) fun x y h => by
    unfold mIx
    split
    · exact .inl rfl
    · exact .inr rfl
def mflat : MV → Bool
  | .non => true
  | .int _ => true
  | .str _ => true
  | _ => false
def mEqF : MV → MV → Bool
  | .non, .non => true
  | .int i, .int j => decide (i = j)
  | .str s, .str t => leq s t
  | _, _ => false
def mhas (x : MV) : List MV → Option Bool
  | [] => some false
  | y :: ys => if mflat y = true then (mhas x ys).map fun b => mEqF y x || b else none
def mInS (x y : MV) (h : MH) : Out MV := match y with
  | .str t => match x with
    | .str [c] => .ok (.bl (t.contains c)) h
    | _ => .bad
  | y => match seqOf h y with
    | some ys => if mflat x = true then oB (mhas x ys) h else .bad
    | none => .bad
def mInK (k : Bool → Bool) (x y : MV) (h : MH) : Out MV := (mInS x y h).bind fun b h => match b with
  | .bl b => .ok (.bl (k b)) h
  | _ => .bad
def mInD (k : Bool → Bool) (x y : MV) (h : MH) : Out MV := match dGet h y x with
  | some o => .ok (.bl (k o.isSome)) h
  | none => .bad
def mIn (k : Bool → Bool) (x y : MV) (h : MH) : Out MV := if isD h y = true then mInD k x y h else mInK k x y h
theorem mhas_ok {Z : Zt} {ρ : List Addr} {H : Hp} {x : MV} {v : V} (r : RV Z ρ H x v) (fx : mflat x = true) : ∀ {ys : List MV} {ws : List V} {b : Bool}, RVs Z ρ H ys ws → mhas x ys = some b → flatV v = true ∧ ws.all flatV = true ∧ inV v ws = b
  | _, _, b, .nil, e => by
    cases e
    exact ⟨(by cases r <;> first | rfl | cases fx), rfl, rfl⟩
  | _, _, b, .cons (x := y) (v := w) a r2, e => by
    dsimp only [mhas] at e
    by_cases fy : mflat y = true
    · rw [if_pos fy] at e
      obtain ⟨b', e1, rfl⟩ := Option.map_eq_some_iff.mp e
      obtain ⟨h1, h2, h3⟩ := mhas_ok r fx r2 e1
      refine ⟨h1, ?_, ?_⟩
      · rw [List.all_cons, h2, Bool.and_true]
        cases a <;> first | rfl | cases fy
      · show (eqV w v || inV v _) = _
        rw [h3]
        have : eqV w v = mEqF y x := by
          cases a <;> first
            | (cases fy; done)
            | (cases r <;> first
                | (cases fx; done)
                | rfl
                | (show (_ == _) = leq _ _
                   rw [Bool.eq_iff_iff, leq_iff]; simp)
                | (show (_ == _) = decide _
                   rw [Bool.eq_iff_iff]; simp))
        rw [this]
    · rw [if_neg fy] at e; cases e
abbrev rInM (K : PySem.W.Frag) : R2 := fun x y H Q => rIn K false x y H Q ∨ ∃ (c : Nat) (z : Str), x = .str ⟨#[c]⟩ ∧ y = .str z ∧ Q (.bl (decide (c ∈ z.cps.toList))) H
abbrev rNinM (K : PySem.W.Frag) : R2 := fun x y H Q => rIn K true x y H Q ∨ ∃ (c : Nat) (z : Str), x = .str ⟨#[c]⟩ ∧ y = .str z ∧ Q (.bl (!decide (c ∈ z.cps.toList))) H
theorem mInS_ok {Z : Zt} {ρ : List Addr} {h : MH} {H : Hp} {x y : MV} {v w : V} {E : XK} {Q : VK} {k : Bool → Bool} (R : HR Z ρ h H) (r : RV Z ρ H x v) (q : RV Z ρ H y w)
    (p : Post Z (rV Z) ρ H Q E ((mInS x y h).bind fun b h => match b with
      | .bl b => .ok (.bl (k b)) h
      | _ => .bad)) :
    (∃ p xs, w = .ref p ∧ (SqL Z.K H p xs ∨ SqT Z.K H p xs) ∧ flatV v = true ∧ xs.all flatV = true ∧ Q (.bl (k (inV v xs))) H) ∨ ∃ (c : Nat) (z : Str), v = .str ⟨#[c]⟩ ∧ w = .str z ∧ Q (.bl (k (decide (c ∈ z.cps.toList)))) H := by
  by_cases hs : ∃ s, y = .str s
  · obtain ⟨s, rfl⟩ := hs
    cases q
    by_cases hx : ∃ c, x = .str [c]
    · obtain ⟨c, rfl⟩ := hx
      cases r
      refine .inr ⟨c, _, rfl, rfl, ?_⟩
      have p' : Post Z (rV Z) ρ H Q E (.ok (.bl (k (s.contains c))) h) := p
      have e : decide (c ∈ (⟨s.toArray⟩ : Str).cps.toList) = s.contains c := by
        show decide (c ∈ s) = _
        rw [Bool.eq_iff_iff]; simp
      rw [e]
      exact p'.ok R (.bl _)
    · have : mInS x (.str s) h = .bad := by
        cases x with
        | str t =>
          cases t with
          | nil => rfl
          | cons c l =>
            cases l with
            | nil => exact absurd ⟨c, rfl⟩ hx
            | cons _ _ => rfl
        | _ => rfl
      rw [this] at p
      exact p.elim
  · have e : mInS x y h = (match seqOf h y with
      | some ys => if mflat x = true then oB (mhas x ys) h else .bad
      | none => .bad) := by
      cases y <;> first
        | exact absurd ⟨_, rfl⟩ hs
        | rfl
    rw [e] at p
    cases g : seqOf h y with
    | none => rw [g] at p; exact p.elim
    | some ys =>
      rw [g] at p
      dsimp only at p
      by_cases fx : mflat x = true
      · rw [if_pos fx] at p
        cases g2 : mhas x ys with
        | none => rw [g2] at p; exact p.elim
        | some b =>
          rw [g2] at p
          obtain ⟨a, ws, rfl, r2, hq⟩ := seqOf_or R q g
          obtain ⟨h1, h2, h3⟩ := mhas_ok r fx r2 g2
          have p' : Post Z (rV Z) ρ H Q E (.ok (.bl (k b)) h) := p
          exact .inl ⟨a, ws, rfl, hq, h1, h2, by rw [h3]; exact p'.ok R (.bl _)⟩
      · rw [if_neg fx] at p; exact p.elim
theorem om_in {Z : Zt} {E : XK} : OpM Z E (mInK fun b => b) (rInM Z.K) := fun ρ h H x y v w Q R r q p => by
  rcases mInS_ok (k := fun b => b) R r q p with ⟨a, xs, h1, h2, h3, h4, h5⟩ | z
  · exact .inl ⟨a, xs, h1, h2, h3, h4, h5⟩
  · exact .inr z
theorem om_nin {Z : Zt} {E : XK} : OpM Z E (mInK fun b => !b) (rNinM Z.K) := fun ρ h H x y v w Q R r q p => by
  rcases mInS_ok (k := fun b => !b) R r q p with ⟨a, xs, h1, h2, h3, h4, h5⟩ | z
  · exact .inl ⟨a, xs, h1, h2, h3, h4, h5⟩
  · exact .inr z
theorem le_inD : ∀ σ H Q, tE ⟨X.K, T⟩ E (gBin (mInD fun b => b) ga gb) σ H Q → tDIn (tE ⟨X.K, T⟩ E ga) (tE ⟨X.K, T⟩ E gb) σ H Q := fun σ H Q ⟨ρ, m, h, s, q⟩ =>
  stepE s q fun ρ1 h1 H1 x v s1 e1 r1 q1 => stepE s1 q1 fun ρ2 h2 H2 y w s2 e2 r2 q2 => by
    unfold mInD at q2
    cases k : dGet h2 y x with
    | none => rw [k] at q2; exact q2.elim
    | some oo =>
      rw [k] at q2
      obtain ⟨aa, o', rfl, h3, h4⟩ := dGet_ok s2.hr r2 (r1.ext e2) k
      have e : o'.isSome = oo.isSome := by rcases h4 with ⟨rfl, rfl⟩ | ⟨z, u, rfl, rfl, _⟩ <;> rfl
      exact ⟨aa, o', rfl, h3, by rw [e]; exact Post.ok (R := rV ⟨X.K, T⟩) (a := .bl oo.isSome) q2 s2.hr (.bl _)⟩
theorem le_ninD : ∀ σ H Q, tE ⟨X.K, T⟩ E (gBin (mInD fun b => !b) ga gb) σ H Q → tDNotIn (tE ⟨X.K, T⟩ E ga) (tE ⟨X.K, T⟩ E gb) σ H Q := fun σ H Q ⟨ρ, m, h, s, q⟩ =>
  stepE s q fun ρ1 h1 H1 x v s1 e1 r1 q1 => stepE s1 q1 fun ρ2 h2 H2 y w s2 e2 r2 q2 => by
    unfold mInD at q2
    cases k : dGet h2 y x with
    | none => rw [k] at q2; exact q2.elim
    | some oo =>
      rw [k] at q2
      obtain ⟨aa, o', rfl, h3, h4⟩ := dGet_ok s2.hr r2 (r1.ext e2) k
      have e : o'.isSome = oo.isSome := by rcases h4 with ⟨rfl, rfl⟩ | ⟨z, u, rfl, rfl, _⟩ <;> rfl
      exact ⟨aa, o', rfl, h3, by rw [e]; exact Post.ok (R := rV ⟨X.K, T⟩) (a := .bl (!oo.isSome)) q2 s2.hr (.bl _)⟩
theorem mIn_or (k : Bool → Bool) (x y : MV) (h : MH) : mIn k x y h = mInD k x y h ∨ mIn k x y h = mInK k x y h := by
  unfold mIn
  split
  · exact .inl rfl
  · exact .inr rfl
theorem jt_in (hu : X.A.units + 1 < cLine) (ha : JE X T E a ga) (hb : JE X T E b gb) (hm : behindInMarks .In b = false := by rfl) : JT X T E (.Compare a [.In] [b] pos) (gB (gBin (mIn fun b => b) ga gb)) :=
  jt_bin_or (PT.le (pt_cmp (pc_din hu ha hb) hm) (le_B le_inD)) (jt_cmp (OpR.or op_in_seq op_in_sign) om_in ha hb hm) (mIn_or _)
theorem jt_notIn (hu : X.A.units + 1 < cLine) (ha : JE X T E a ga) (hb : JE X T E b gb) (hm : behindInMarks .NotIn b = false := by rfl) : JT X T E (.Compare a [.NotIn] [b] pos) (gB (gBin (mIn fun b => !b) ga gb)) :=
  jt_bin_or (PT.le (pt_cmp (pc_dnotin hu ha hb) hm) (le_B le_ninD)) (jt_cmp (OpR.or op_notIn_seq op_notIn_sign) om_nin ha hb hm) (mIn_or _)
theorem je_in (hu : X.A.units + 1 < cLine) (ha : JE X T E a ga) (hb : JE X T E b gb) (hm : behindInMarks .In b = false := by rfl) : JE X T E (.Compare a [.In] [b] pos) (gBin (mIn fun b => b) ga gb) :=
  je_bin_or (PE.le (pe_cmp (pc_din hu ha hb) hm) le_inD) (je_cmp (OpR.or op_in_seq op_in_sign) om_in ha hb hm) (mIn_or _)
theorem je_notIn (hu : X.A.units + 1 < cLine) (ha : JE X T E a ga) (hb : JE X T E b gb) (hm : behindInMarks .NotIn b = false := by rfl) : JE X T E (.Compare a [.NotIn] [b] pos) (gBin (mIn fun b => !b) ga gb) :=
  je_bin_or (PE.le (pe_cmp (pc_dnotin hu ha hb) hm) le_ninD) (je_cmp (OpR.or op_notIn_seq op_notIn_sign) om_nin ha hb hm) (mIn_or _)
def gDic : ME := fun _ h => .ok (.ref h.n) (h.push (.dic []))
def gDit : ME := fun _ h => .ok (.ref h.n) (h.push (.dit []))
theorem je_dic : JE X T E (.Dict [] [] pos) gDic := PE.le pe_dnewK fun σ H Q ⟨ρ, m, h, s, q⟩ p hp =>
  q (ρ ++ [p]) _ _ (Ext.push hp) (s.hr.push hp ⟨[], upd_same, .nil⟩) (.ref (by rw [← s.hr.len]; simp))
theorem je_dit : JE X T E (.Dict [] [] pos) gDit := PE.le pe_dnewT fun σ H Q ⟨ρ, m, h, s, q⟩ p hp =>
  q (ρ ++ [p]) _ _ (Ext.push hp) (s.hr.push hp ⟨[], upd_same, .nil⟩) (.ref (by rw [← s.hr.len]; simp))
def dPutM (h : MH) (x y v : MV) : Option MH := match x with
  | .ref i => match h.get i with
    | some (.dic kvs) => match mkey y with
      | some k => if kvs.length < 1000000 then some (h.set i (.dic (dput keq kvs k v))) else none
      | none => none
    | some (.dit kvs) => match y with
      | .tup ys => match mkeys ys with
        | some k => if kvs.length < 1000000 then some (h.set i (.dit (dput keqs kvs k v))) else none
        | none => none
      | _ => none
    | _ => none
  | _ => none
/-- d[i] = v: the value, the dict, the key -/
def gPutD (d i v : ME) : MS := fun m h => (v m h).bindS fun z h1 => (d m h1).bindS fun x h2 => (i m h2).bindS fun y h3 => match dPutM h3 x y z with
  | some h4 => .nx m h4
  | none => .bad
theorem dPut_ok {Z : Zt} {ρ : List Addr} {h h' : MH} {H : Hp} {x y z : MV} {v w u : V} (R : HR Z ρ h H) (r : RV Z ρ H x v) (q : RV Z ρ H y w) (t : RV Z ρ H z u) (e : dPutM h x y z = some h') :
    ∃ a H', v = .ref a ∧ DPut H a w u H' ∧ Ext ρ H ρ H' ∧ HR Z ρ h' H' := by
  cases r with
  | @ref i a hi =>
    dsimp only [dPutM] at e
    cases g : h.get i with
    | none => rw [g] at e; cases e
    | some ob =>
      rw [g] at e
      cases ob with
      | dic kvs =>
        dsimp only at e
        obtain ⟨vs, h1, h2⟩ := R.obj g hi
        cases k : mkey y with
        | none => rw [k] at e; cases e
        | some k' =>
          rw [k] at e
          dsimp only at e
          split at e
          · rename_i hl
            cases e
            rw [mkey_ok q k]
            refine ⟨a, _, rfl, DPut.k h1 (by rw [← h2.length, sizeLine_eq]; omega), R.grow g hi _, R.set g hi ⟨_, upd_same, ?_⟩⟩
            have x1 := R.grow g hi (.dK (putK vs (kOf k') u))
            exact dput_ok (e := keq) (f := kOf) (fun a b => keq_iff) (h2.ext x1) (t.ext x1)
          · cases e
      | dit kvs =>
        dsimp only at e
        obtain ⟨vs, h1, h2⟩ := R.obj g hi
        cases q with
        | tup h3 r3 =>
          dsimp only at e
          rename_i b ys ws
          cases k : mkeys ys with
          | none => rw [k] at e; cases e
          | some k' =>
            rw [k] at e
            dsimp only at e
            split at e
            · rename_i hl
              cases e
              have hw := mkeys_ok r3 k
              subst hw
              refine ⟨a, _, rfl, DPut.t (k := k'.map kOf) h1 h3 (by rw [← h2.length, sizeLine_eq]; omega), R.grow g hi _, R.set g hi ⟨_, upd_same, ?_⟩⟩
              have x1 := R.grow g hi (.dT (putK vs (k'.map kOf) u))
              exact dput_ok (e := keqs) (f := List.map kOf) (fun a b => keqs_iff) (h2.ext x1) (t.ext x1)
            · cases e
        | _ => cases e
      | _ => cases e
  | _ => cases e
theorem js_putD (hu : X.A.units + 1 < cLine) (ho : JE X T E o go) (hi : JE X T E i gi) (hv : JE X T E value gv) (hs : swapsWith value (some (.Subscript o i pos')) pos.line X.env = pure false := by rfl) :
    JS X T E (.Assign [.Subscript o i pos'] value pos) (gPutD go gi gv) :=
  PS.le (ps_dput hu ho hi hv hs) fun D σ H ⟨ρ, m, h, s, q⟩ => sE s q fun ρ1 h1 H1 z u s1 e1 r1 q1 => sE s1 q1 fun ρ2 h2 H2 x v s2 e2 r2 q2 => sE s2 q2 fun ρ3 h3 H3 y w s3 e3 r3 q3 => by
    cases k : dPutM h3 x y z with
    | none => rw [k] at q3; exact q3.elim
    | some h4 =>
      rw [k] at q3
      obtain ⟨a, H', rfl, p1, p2, p3⟩ := dPut_ok s3.hr (r2.ext e3) r3 ((r1.ext e2).ext e3) k
      exact ⟨a, H', rfl, p1, q3 ρ3 H' σ p2 (s3.to p2 p3)⟩
end
end MI
set_option Elab.async false
set_option linter.all false
set_option maxRecDepth 100000
set_option maxHeartbeats 4000000
namespace MI
open PySem PySem.Spec PyProof.Rows L2 JB
def it1 (xs : List MV) : It1 := ⟨fun _ => xs.length, fun i _ => some xs[i]?⟩
def it1L (j : Nat) : It1 := ⟨fun h => match h.get j with
  | some (.lst xs) => xs.length
  | _ => 0, fun i h => match h.get j with
  | some (.lst xs) => some xs[i]?
  | _ => none⟩
def it1R (lo : Int) (n : Nat) : It1 := ⟨fun _ => n, fun i _ => some (if i < n then some (.int (lo + i)) else none)⟩
/-- what stands behind in, as it is -/
def mIter (h : MH) : MV → Option It1
  | .tup xs => some (it1 xs)
  | .ktp xs => some (it1 xs)
  | .fls xs => some (it1 xs)
  | .str s => some (it1 (s.map fun c => .str [c]))
  | .ref j => match h.get j with
    | some (.lst _) => some (it1L j)
    | _ => none
  | _ => none
def gIter (a : ME) : MI1 := fun m h => (a m h).bind fun x h1 => match mIter h1 x with
  | some it => .ok it h1
  | none => .bad
theorem RVs.none {Z : Zt} {ρ : List Addr} {H : Hp} {xs : List MV} {vs : List V} (r : RVs Z ρ H xs vs) {i : Nat} (e : xs[i]? = none) : vs.length ≤ i := by
  rw [← r.length]; exact List.getElem?_eq_none_iff.mp e
section
variable {Z : Zt} {ρ : List Addr} {h : MH} {H : Hp}
theorem rI_tup {a : Addr} {xs : List MV} {vs : List V} (r : RVs Z ρ H xs vs) (k : ∀ ρ' H', Ext ρ H ρ' H' → SqT Z.K H' a vs) : rI Z ρ H (it1 xs) (Itt Z.K a) := by
  intro i ρ' h' H' e R
  show match some xs[i]? with
    | none => True
    | some none => (Itt Z.K a).stop i H'
    | some (some x) => (Itt Z.K a).go i H' ∧ ∀ v H'', (Itt Z.K a).yld i H' v H'' → ∃ ρ'', Ext ρ' H' ρ'' H'' ∧ HR Z ρ'' h' H'' ∧ RV Z ρ'' H'' x v
  cases g : xs[i]? with
  | none => exact ⟨vs, k _ _ e, r.none g⟩
  | some x =>
    obtain ⟨v, h1, h2⟩ := r.get g
    refine ⟨⟨vs, v, k _ _ e, h1⟩, fun w H'' y => ?_⟩
    obtain ⟨rfl, y⟩ := y
    have := y vs (k _ _ e)
    rw [h1] at this
    cases this
    exact ⟨ρ', .refl, R, h2.ext e⟩
theorem rI_lst {a : Addr} {xs : List MV} {vs : List V} (r : RVs Z ρ H xs vs) (k : ∀ ρ' H', Ext ρ H ρ' H' → SqL Z.K H' a vs) : rI Z ρ H (it1 xs) (Itl Z.K a) := by
  intro i ρ' h' H' e R
  show match some xs[i]? with
    | none => True
    | some none => (Itl Z.K a).stop i H'
    | some (some x) => (Itl Z.K a).go i H' ∧ ∀ v H'', (Itl Z.K a).yld i H' v H'' → ∃ ρ'', Ext ρ' H' ρ'' H'' ∧ HR Z ρ'' h' H'' ∧ RV Z ρ'' H'' x v
  cases g : xs[i]? with
  | none => exact ⟨vs, k _ _ e, r.none g⟩
  | some x =>
    obtain ⟨v, h1, h2⟩ := r.get g
    refine ⟨⟨vs, v, k _ _ e, h1⟩, fun w H'' y => ?_⟩
    obtain ⟨rfl, y⟩ := y
    have := y vs (k _ _ e)
    rw [h1] at this
    cases this
    exact ⟨ρ', .refl, R, h2.ext e⟩
theorem rI_ref {a : Addr} {j : Nat} (hj : ρ[j]? = some a) : rI Z ρ H (it1L j) (Itl Z.K a) := by
  intro i ρ' h' H' e R
  show match (match h'.get j with
      | some (.lst xs) => some xs[i]?
      | _ => none) with
    | none => True
    | some none => (Itl Z.K a).stop i H'
    | some (some x) => (Itl Z.K a).go i H' ∧ ∀ v H'', (Itl Z.K a).yld i H' v H'' → ∃ ρ'', Ext ρ' H' ρ'' H'' ∧ HR Z ρ'' h' H'' ∧ RV Z ρ'' H'' x v
  cases g : h'.get j with
  | none => trivial
  | some o =>
    cases o with
    | lst xs =>
      obtain ⟨vs, h1, h2⟩ := R.obj g (e.at hj)
      have sq : SqL Z.K H' a vs := .inl (.inl h1)
      dsimp only
      cases g2 : xs[i]? with
      | none => exact ⟨vs, sq, h2.none g2⟩
      | some x =>
        obtain ⟨v, h3, h4⟩ := h2.get g2
        refine ⟨⟨vs, v, sq, h3⟩, fun w H'' y => ?_⟩
        obtain ⟨rfl, y⟩ := y
        have := y vs sq
        rw [h3] at this
        cases this
        exact ⟨ρ', .refl, R, h4⟩
    | _ => trivial
theorem rI_str {s : List Nat} : rI Z ρ H (it1 (s.map fun c => .str [c])) (Its ⟨s.toArray⟩) := by
  intro i ρ' h' H' e R
  show match some (s.map fun c => MV.str [c])[i]? with
    | none => True
    | some none => (Its ⟨s.toArray⟩).stop i H'
    | some (some x) => (Its ⟨s.toArray⟩).go i H' ∧ ∀ v H'', (Its ⟨s.toArray⟩).yld i H' v H'' → ∃ ρ'', Ext ρ' H' ρ'' H'' ∧ HR Z ρ'' h' H'' ∧ RV Z ρ'' H'' x v
  rw [List.getElem?_map]
  cases g : s[i]? with
  | none =>
    have := List.getElem?_eq_none_iff.mp g
    show s.toArray.size ≤ i
    simpa using this
  | some c =>
    refine ⟨?_, fun w H'' y => ?_⟩
    · have := (List.getElem?_eq_some_iff.mp g).1
      show i < s.toArray.size
      simpa using this
    · obtain ⟨rfl, c', hc, rfl⟩ := y
      have hc' : s.toArray[i]? = some c' := hc
      rw [List.getElem?_toArray, g] at hc'
      cases hc'
      exact ⟨ρ', .refl, R, .str [c]⟩
theorem rI_rng {lo : Int} {n : Nat} : rI Z ρ H (it1R lo n) (Itr lo n) := by
  intro i ρ' h' H' e R
  show match some (if i < n then some (MV.int (lo + i)) else none) with
    | none => True
    | some none => (Itr lo n).stop i H'
    | some (some x) => (Itr lo n).go i H' ∧ ∀ v H'', (Itr lo n).yld i H' v H'' → ∃ ρ'', Ext ρ' H' ρ'' H'' ∧ HR Z ρ'' h' H'' ∧ RV Z ρ'' H'' x v
  by_cases hi : i < n
  · rw [if_pos hi]
    refine ⟨hi, fun w H'' y => ?_⟩
    obtain ⟨rfl, rfl⟩ := y
    exact ⟨ρ', .refl, R, .int _⟩
  · rw [if_neg hi]
    exact Nat.le_of_not_lt hi
end
section
variable {X : Cx} {T : Nat → Addr} {E : XK} {e a tg : Expr} {es : List Expr} {ga : ME} {gr : MA} {pos p : Pos}
theorem PI.or {t t' : TI} (p : PI X tg e t) (q : PI X tg e t') : PI X tg e (fun σ H R => t σ H R ∨ t' σ H R) := ⟨fun pins s σ H R I h => h.elim (p.run pins s σ H R I) (q.run pins s σ H R I)⟩
theorem stepI {Z : Zt} {ρ : List Addr} {m : ML} {h : MH} {σ : L2.St} {H : Hp} {R : It → Hp → Prop} {Q' : V → Hp → Prop} {g : ME} {k : MV → MH → Out It1} (s : SR Z ρ m h σ H) (q : Post Z (rI Z) ρ H R E ((g m h).bind k))
    (n : ∀ ρ1 h1 H1 a v, SR Z ρ1 m h1 σ H1 → Ext ρ H ρ1 H1 → RV Z ρ1 H1 a v → Post Z (rI Z) ρ1 H1 R E (k a h1) → Q' v H1) : tE Z E g σ H Q' := stepE s q n
/-- for .. in e -/
theorem ji_seq (ha : JE X T E e ga) : JI X T E tg e (gIter ga) := by
  refine PI.le (PI.or (pi_tup ha) (PI.or (pi_list ha) (pi_str ha))) fun σ H R ⟨ρ, m, h, s, q⟩ => ?_
  have key : ∀ c : MV → Bool, (∀ x h1, ga m h = .ok x h1 → c x = true) → ∀ Q' : V → Hp → Prop,
      (∀ ρ1 h1 H1 x v, c x = true → SR ⟨X.K, T⟩ ρ1 m h1 σ H1 → RV ⟨X.K, T⟩ ρ1 H1 x v → Post ⟨X.K, T⟩ (rI ⟨X.K, T⟩) ρ1 H1 R E (match mIter h1 x with
        | some it => Out.ok it h1
        | none => .bad) → Q' v H1) → tE ⟨X.K, T⟩ E ga σ H Q' := by
    intro c hc Q' n
    refine ⟨ρ, m, h, s, ?_⟩
    have q' : Post ⟨X.K, T⟩ (rI ⟨X.K, T⟩) ρ H R E ((ga m h).bind fun x h1 => match mIter h1 x with
        | some it => Out.ok it h1
        | none => .bad) := q
    generalize ga m h = o at q' hc ⊢
    cases o with
    | bad => exact q'
    | er x h1 => exact q'
    | ok x h1 => exact fun ρ1 H1 v e1 r1 rv => n ρ1 h1 H1 x v (hc x h1 rfl) (s.to e1 r1) rv (Post.ext (o := match mIter h1 x with
        | some it => Out.ok it h1
        | none => .bad) q' e1)
  let cT : MV → Bool := fun x => match x with
    | .tup _ => true
    | .ktp _ => true
    | _ => false
  let cS : MV → Bool := fun x => match x with
    | .str _ => true
    | _ => false
  by_cases z : ∀ x h1, ga m h = .ok x h1 → cT x = true
  · refine .inl (key cT z _ fun ρ1 h1 H1 x v c s1 rv q1 => ?_)
    cases rv with
    | tup h2 r2 => exact ⟨_, rfl, ⟨_, .inl (.inl h2)⟩, q1.ok s1.hr (rI_tup r2 fun ρ' H' e => e.sqT (.inl (.inl h2)))⟩
    | ktp h2 r2 => exact ⟨_, rfl, ⟨_, ktp_sq h2⟩, q1.ok s1.hr (rI_tup r2 fun ρ' H' e => ktp_sq h2)⟩
    | _ => cases c
  · refine .inr ?_
    by_cases z2 : ∀ x h1, ga m h = .ok x h1 → cS x = true
    · refine .inr (key cS z2 _ fun ρ1 h1 H1 x v c s1 rv q1 => ?_)
      cases rv with
      | str t => exact ⟨_, rfl, q1.ok s1.hr rI_str⟩
      | _ => cases c
    · refine .inl (key (fun x => !cT x && !cS x) (fun x h1 e => ?_) _ fun ρ1 h1 H1 x v c s1 rv q1 => ?_)
      · have n1 : cT x = false := by
          cases k : cT x with
          | false => rfl
          | true => exact absurd (fun x' h' e' => by rw [e] at e'; cases e'; exact k) z
        have n2 : cS x = false := by
          cases k : cS x with
          | false => rfl
          | true => exact absurd (fun x' h' e' => by rw [e] at e'; cases e'; exact k) z2
        rw [n1, n2]; rfl
      · cases rv with
        | fls h2 r2 => exact ⟨_, rfl, ⟨_, h2.sq⟩, q1.ok s1.hr (rI_lst r2 fun ρ' H' e => (e.fzL h2).sq)⟩
        | @ref j ad hj =>
          dsimp only [mIter] at q1
          cases g : h1.get j with
          | none => rw [g] at q1; exact q1.elim
          | some o =>
            rw [g] at q1
            cases o with
            | lst xs =>
              obtain ⟨vs, h3, h4⟩ := s1.hr.obj g hj
              exact ⟨ad, rfl, ⟨vs, .inl (.inl h3)⟩, Post.ok (R := rI ⟨X.K, T⟩) (a := it1L j) q1 s1.hr (rI_ref hj)⟩
            | _ => exact q1.elim
        | tup _ _ => cases c
        | ktp _ _ => cases c
        | str _ => cases c
        | _ => exact q1.elim
/-- range -/
def gRng1 (a : ME) : MI1 := fun m h => (a m h).bind fun x h1 => match x with
  | .int n => if -1000000000 ≤ n ∧ n ≤ 1000000000 then .ok (it1R 0 n.toNat) h1 else .bad
  | _ => .bad
def gRng2 (a b : ME) : MI1 := fun m h => (a m h).bind fun x h1 => (b m h1).bind fun y h2 => match x, y with
  | .int i, .int n => if (-1000000000 ≤ i ∧ i ≤ 1000000000) ∧ -1000000000 ≤ n ∧ n ≤ 1000000000 then .ok (it1R i (n - i).toNat) h2 else .bad
  | _, _ => .bad
theorem ja_one {ga : ME} (ha : JE X T E a ga) (hs : starEach [a] X.env = [(false, eval a X.env)] := by rfl) : JA X T E [a] (gCons ga gNil) := ja_cons ha ja_nil hs
theorem ji_range1 (hg : Gl X "range") (hm : X.mg "range" = none) (ha : JE X T E a ga) (hs : starEach [a] X.env = [(false, eval a X.env)] := by rfl) : JI X T E tg (.Call (.Name "range" p) [a] [] pos) (gRng1 ga) :=
  PI.le (pi_range1 hg hm (pa_cons ha pa_nil hs) hs) fun σ H R ⟨ρ, m, h, s, q⟩ => stepI s q fun ρ1 h1 H1 x v s1 e1 r1 q1 => by
    cases r1 with
    | int n =>
      have q' : Post ⟨X.K, T⟩ (rI ⟨X.K, T⟩) ρ1 H1 R E (if -1000000000 ≤ n ∧ n ≤ 1000000000 then .ok (it1R 0 n.toNat) h1 else .bad) := q1
      by_cases z : -1000000000 ≤ n ∧ n ≤ 1000000000
      · rw [if_pos z] at q'
        exact ⟨n, rfl, by omega, by omega, q'.ok s1.hr rI_rng⟩
      · rw [if_neg z] at q'; exact q'.elim
    | _ => exact q1.elim
theorem ji_range2 {b : Expr} {gb : ME} (hg : Gl X "range") (hm : X.mg "range" = none) (ha : JE X T E a ga) (hb : JE X T E b gb) (hs : starEach [a, b] X.env = [(false, eval a X.env), (false, eval b X.env)] := by rfl) (hs2 : starEach [b] X.env = [(false, eval b X.env)] := by rfl) :
    JI X T E tg (.Call (.Name "range" p) [a, b] [] pos) (gRng2 ga gb) :=
  PI.le (pi_range2 hg hm (pa_cons ha (pa_cons hb pa_nil hs2) (by rw [hs, hs2])) hs hs2) fun σ H R ⟨ρ, m, h, s, q⟩ => stepI s q fun ρ1 h1 H1 x v s1 e1 r1 q1 => stepI s1 q1 fun ρ2 h2 H2 y w s2 e2 r2 q2 => by
    cases r1 with
    | int i =>
      cases r2 with
      | int n =>
        have q' : Post ⟨X.K, T⟩ (rI ⟨X.K, T⟩) ρ2 H2 R E (if (-1000000000 ≤ i ∧ i ≤ 1000000000) ∧ -1000000000 ≤ n ∧ n ≤ 1000000000 then .ok (it1R i (n - i).toNat) h2 else .bad) := q2
        by_cases z : (-1000000000 ≤ i ∧ i ≤ 1000000000) ∧ -1000000000 ≤ n ∧ n ≤ 1000000000
        · rw [if_pos z] at q'
          exact ⟨i, n, rfl, ⟨by omega, by omega, by omega, by omega⟩, q'.ok s2.hr rI_rng⟩
        · rw [if_neg z] at q'; exact q'.elim
      | _ => exact q2.elim
    | _ => exact q2.elim
end
end MI
set_option Elab.async false
set_option linter.all false
set_option maxRecDepth 100000
set_option maxHeartbeats 4000000
namespace MI
open PySem PySem.Spec PyProof.Rows L2 JB
def setMany : ML → List Nat → List MV → ML
  | m, i :: is, x :: xs => setMany (m.set i (some x)) is xs
  | m, _, _ => m
def setManyV : L2.St → List Nat → List V → L2.St
  | σ, i :: is, x :: xs => setManyV (σ.set i (some x)) is xs
  | σ, _, _ => σ
def lNames : List Nat → TGs
  | [] => L2.gNil
  | i :: is => L2.gCons (L2.gName i) (lNames is)
theorem names_run : ∀ (is : List Nat) {vs : List V} {σ : L2.St} {H : Hp} {Q : L2.St → Hp → Prop}, vs.length = is.length → Q (setManyV σ is vs) H → lNames is vs σ H Q
  | [], [], _, _, _, _, q => ⟨rfl, q⟩
  | i :: is, v :: vs, σ, H, Q, hl, q => ⟨v, vs, rfl, names_run is (by simpa using hl) q⟩
  | [], _ :: _, _, _, _, hl, _ => by simp at hl
  | _ :: _, [], _, _, _, hl, _ => by simp at hl
theorem SR.many {Z : Zt} {ρ : List Addr} {h : MH} {H : Hp} : ∀ {is : List Nat} {m : ML} {σ : L2.St} {xs : List MV} {vs : List V}, SR Z ρ m h σ H → RVs Z ρ H xs vs → SR Z ρ (setMany m is xs) h (setManyV σ is vs) H
  | [], _, _, _, _, s, .nil => s
  | [], _, _, _, _, s, .cons _ _ => s
  | _ :: _, _, _, _, _, s, .nil => s
  | i :: is, _, _, _, _, s, .cons a r => SR.many (is := is) (s.set i a) r
def tgTup (is : List Nat) : MG := fun x m h => match seqOf h x with
  | some xs => if xs.length = is.length then .nx (setMany m is xs) h else .bad
  | none => .bad
section
variable {X : Cx} {T : Nat → Addr} {E : XK} {es : List Expr} {pos : Pos}
theorem PG.or {e : Expr} {t t' : TG} (p : PG X e t) (q : PG X e t') : PG X e (fun v σ H Q => t v σ H Q ∨ t' v σ H Q) := ⟨fun pins s σ H v u Q I r h => h.elim (p.run pins s σ H v u Q I r) (q.run pins s σ H v u Q I r)⟩
theorem pgs_names : PGs X [] (lNames []) := pgs_nil
theorem pgs_more {e : Expr} {i : Nat} {is : List Nat} (h1 : PG X e (L2.gName i)) (h2 : PGs X es (lNames is)) (hs : (assignEach (e :: es) X.env).map (·.2) = assign e X.env :: (assignEach es X.env).map (·.2) := by rfl) : PGs X (e :: es) (lNames (i :: is)) := pgs_cons h1 h2 hs
theorem jg_tup {k : Nat} {is : List Nat} (hc : X.calm = true) (h : PGs X es (lNames is)) (hn : (assignEach es X.env).length = is.length := by rfl) (hst : (assignEach es X.env).findIdx? (·.1) = none := by rfl) : JG X T E (.Tuple es k pos) (tgTup is) :=
  PG.le (PG.or (pg_tup hc h hn hst) (pg_unl hc h hn hst)) fun v σ H Q ⟨ρ, m, h, x, s, r, q⟩ => by
    unfold tgTup at q
    cases g : seqOf h x with
    | none => rw [g] at q; exact q.elim
    | some xs =>
      rw [g] at q
      dsimp only at q
      by_cases z : xs.length = is.length
      · rw [if_pos z] at q
        obtain ⟨a, vs, rfl, r2, hq⟩ := seqOf_or s.hr r g
        have hl : vs.length = is.length := by rw [← r2.length]; exact z
        have fin := names_run is hl (q ρ H _ .refl (s.many r2))
        rcases hq with hq | hq
        · exact .inr ⟨a, vs, rfl, hq, hl, fin⟩
        · exact .inl ⟨a, vs, rfl, hq, hl, fin⟩
      · rw [if_neg z] at q; exact q.elim
end
def mwipe (m : ML) : List Nat → ML
  | [] => m
  | v :: vs => (mwipe m vs).set v none
theorem SR.wipe {Z : Zt} {ρ : List Addr} {m : ML} {h : MH} {σ : L2.St} {H : Hp} (s : SR Z ρ m h σ H) : ∀ vs : List Nat, SR Z ρ (mwipe m vs) h (L2.wipe σ vs) H
  | [] => s
  | v :: vs => by
    have t := SR.wipe s vs
    refine ⟨t.hr, by show ((mwipe m vs).set v none).length = ((L2.wipe σ vs).set v none).length; simp [t.len], fun i x e => ?_⟩
    have e' : ((mwipe m vs).set v none)[i]? = some (some x) := e
    show ∃ w, ((L2.wipe σ vs).set v none)[i]? = some (some w) ∧ _
    by_cases k : v = i
    · subst k
      rw [List.getElem?_set] at e'
      rw [if_pos rfl] at e'
      split at e' <;> cases e'
    · rw [List.getElem?_set_ne k] at e' ⊢
      exact t.slot i x e'
theorem wipe_at {σ : L2.St} {j : Nat} : ∀ {vs : List Nat}, (L2.wipe σ vs)[j]? = if j ∈ vs ∧ j < σ.length then some none else σ[j]?
  | [] => by simp [L2.wipe]
  | v :: vs => by
    show ((L2.wipe σ vs).set v none)[j]? = _
    rw [List.getElem?_set, wipe_at (vs := vs), wipe_length]
    by_cases k : v = j
    · subst k
      rw [if_pos rfl]
      by_cases l : v < σ.length
      · simp [l]
      · simp [l]
    · rw [if_neg k]
      have : (j ∈ v :: vs) ↔ j ∈ vs := by simp [Ne.symm k]
      simp [this]
theorem wipe_set {σ : L2.St} {i : Nat} {o : Option V} {vs : List Nat} (hi : i ∈ vs) : L2.wipe (σ.set i o) vs = L2.wipe σ vs := by
  apply List.ext_getElem?
  intro j
  rw [wipe_at, wipe_at, List.length_set]
  by_cases e : j = i
  · subst e
    by_cases l : j < σ.length
    · rw [if_pos ⟨hi, l⟩, if_pos ⟨hi, l⟩]
    · rw [if_neg (fun z => l z.2), if_neg (fun z => l z.2), List.getElem?_eq_none (by simp; omega), List.getElem?_eq_none (by omega)]
  · rw [List.getElem?_set_ne (Ne.symm e)]
theorem wipe_wipe {σ : L2.St} {vs : List Nat} : L2.wipe (L2.wipe σ vs) vs = L2.wipe σ vs := by
  apply List.ext_getElem?
  intro j
  rw [wipe_at, wipe_at, wipe_length]
  split <;> rfl
theorem wipe_many {vs : List Nat} : ∀ {is : List Nat} {σ : L2.St} {xs : List V}, (∀ i ∈ is, i ∈ vs) → L2.wipe (setManyV σ is xs) vs = L2.wipe σ vs
  | [], σ, [], _ => rfl
  | [], σ, _ :: _, _ => rfl
  | _ :: _, σ, [], _ => rfl
  | i :: is, σ, x :: xs, h => by
    show L2.wipe (setManyV (σ.set i (some x)) is xs) vs = _
    rw [wipe_many fun j hj => h j (List.mem_cons_of_mem _ hj), wipe_set (h i List.mem_cons_self)]
/-- a comprehension's target: a name, or a row of names -/
inductive CT where
  | one (i : Nat) | row (is : List Nat)
def CT.set : CT → MG
  | .one i => tgName i
  | .row is => tgTup is
def CT.slots : CT → List Nat
  | .one i => [i]
  | .row is => is
def tCT (K : PySem.W.Frag) : CT → TG
  | .one i => L2.gName i
  | .row is => fun v σ H Q => L2.gTup K is.length (lNames is) v σ H Q ∨ gUnl K is.length (lNames is) v σ H Q
theorem ct_ok {Z : Zt} {ρ : List Addr} {m : ML} {h : MH} {σ : L2.St} {H : Hp} {c : CT} {x : MV} {v : V} {m' : ML} {h' : MH} {vs : List Nat} {Q : L2.St → Hp → Prop} (s : SR Z ρ m h σ H) (r : RV Z ρ H x v) (e : c.set x m h = .nx m' h')
    (hv : ∀ i ∈ c.slots, i ∈ vs) (k : ∀ σ', SR Z ρ m' h' σ' H → L2.wipe σ' vs = L2.wipe σ vs → Q σ' H) : tCT Z.K c v σ H Q := by
  cases c with
  | one i =>
    cases e
    exact k _ (s.set i r) (wipe_set (hv i (by simp [CT.slots])))
  | row is =>
    have e' : tgTup is x m h = .nx m' h' := e
    unfold tgTup at e'
    cases g : seqOf h x with
    | none => rw [g] at e'; cases e'
    | some xs =>
      rw [g] at e'
      dsimp only at e'
      by_cases z : xs.length = is.length
      · rw [if_pos z] at e'
        cases e'
        obtain ⟨a, ws, rfl, r2, hq⟩ := seqOf_or s.hr r g
        have hl : ws.length = is.length := by rw [← r2.length]; exact z
        have fin := names_run is hl (k _ (s.many r2) (wipe_many hv))
        rcases hq with hq | hq
        · exact .inr ⟨a, ws, rfl, hq, hl, fin⟩
        · exact .inl ⟨a, ws, rfl, hq, hl, fin⟩
      · rw [if_neg z] at e'; cases e'
def gLcN (it : It1) (c : CT) (t : MT) (e : ME) (D : Nat) (mw : ML) : Nat → Nat → MH → Out MV
  | 0, _, _ => .bad
  | n + 1, i, h => match it.at_ i h with
    | none => .bad
    | some none => .ok (.ref D) h
    | some (some x) => match c.set x mw h with
      | .nx m1 h1 => match t m1 h1 with
        | .ok true h2 => match e m1 h2 with
          | .ok y h3 => match h3.get D with
            | some (.lst acc) => if acc.length < 1000000 then gLcN it c t e D mw n (i + 1) (h3.set D (.lst (acc ++ [y]))) else .bad
            | _ => .bad
          | _ => .bad
        | .ok false h2 => gLcN it c t e D mw n (i + 1) h2
        | _ => .bad
      | _ => .bad
def gLc (i : MI1) (c : CT) (t : MT) (e : ME) (own : List Nat) : ME := fun m h => (i m h).bind fun it h1 => gLcN it c t e h1.n (mwipe m own) (it.size h1 + 1) 0 (h1.push (.lst []))
def gYes : MT := fun _ h => .ok true h
abbrev E00 : XK := fun _ _ _ => False
theorem RVs.snoc {Z : Zt} {ρ : List Addr} {H : Hp} {xs : List MV} {vs : List V} (r : RVs Z ρ H xs vs) {y : MV} {w : V} (q : RV Z ρ H y w) : RVs Z ρ H (xs ++ [y]) (vs ++ [w]) := RVs.app (.cons q .nil) r
theorem HR.lst (R : HR Z ρ h H) {xs ys : List MV} {vs ws : List V} {i : Nat} {a : Addr} (g : h.get i = some (.lst xs)) (ha : ρ[i]? = some a) (r : RVs Z ρ H ys ws) : Ext ρ H ρ (upd H a (.lst ws)) ∧ HR Z ρ (h.set i (.lst ys)) (upd H a (.lst ws)) :=
  ⟨R.grow g ha _, R.set g ha ⟨ws, upd_same, r.ext (R.grow g ha _)⟩⟩
section
variable {X : Cx} {T : Nat → Addr} {E : XK} {elt tg iter : Expr} {ifs : List Expr} {scope : Scope} {own : List (Str × Nat)} {pos : Pos} {gi : MI1} {c : CT} {gt : MT} {ge : ME}
theorem lc_le {E : XK} {gi : MI1} {c : CT} {gt : MT} {ge : ME} {ow : List Nat} (hv : ∀ i ∈ c.slots, i ∈ ow) : ∀ σ H Q, tE ⟨X.K, T⟩ E (gLc gi c gt ge ow) σ H Q → tLc (tI ⟨X.K, T⟩ E gi) (tCT X.K c) (tT ⟨X.K, T⟩ E00 gt) (tE ⟨X.K, T⟩ E00 ge) ow σ H Q := by
  intro σ H Q ⟨ρ, m, h, s, q⟩
  refine ⟨ρ, m, h, s, ?_⟩
  refine (Post.bind (R := rI ⟨X.K, T⟩) q).mono fun J H1 ⟨ρ1, h1, it, e1, r1, w1, q1⟩ D hD => ?_
  have s1 := s.to e1 r1
  have x0 : Ext ρ1 H1 (ρ1 ++ [D]) (upd H1 D (.lst [])) := Ext.push hD
  have s0 : SR ⟨X.K, T⟩ (ρ1 ++ [D]) m (h1.push (.lst [])) σ (upd H1 D (.lst [])) := s1.to x0 (r1.push hD ⟨[], upd_same, .nil⟩)
  have a0 : (ρ1 ++ [D])[h1.n]? = some D := by rw [← r1.len]; simp
  generalize hD' : h1.n = d at q1 a0
  refine ⟨fun i n H2 => ∃ ρ2 h2, Ext (ρ1 ++ [D]) (upd H1 D (.lst [])) ρ2 H2 ∧ SR ⟨X.K, T⟩ ρ2 m h2 σ H2 ∧ Post ⟨X.K, T⟩ (rV ⟨X.K, T⟩) ρ2 H2 Q E (gLcN it c gt ge d (mwipe m ow) n i h2),
    ⟨_, ρ1 ++ [D], _, .refl, s0, q1.ext x0⟩, fun i n H2 ⟨ρ2, h2, e2, s2, q2⟩ => ?_⟩
  cases n with
  | zero => exact q2.elim
  | succ n =>
    have w2 := w1 i ρ2 h2 H2 (x0.trans e2) s2.hr
    unfold gLcN at q2
    cases k : it.at_ i h2 with
    | none => rw [k] at q2; exact q2.elim
    | some o =>
      rw [k] at q2 w2
      cases o with
      | none => exact .inl ⟨w2, q2.ok s2.hr (.ref (e2.at a0))⟩
      | some x =>
        refine .inr ⟨w2.1, fun H3 => ∃ ρ3 h3, Ext (ρ1 ++ [D]) (upd H1 D (.lst [])) ρ3 H3 ∧ SR ⟨X.K, T⟩ ρ3 m h3 σ H3 ∧ Post ⟨X.K, T⟩ (rV ⟨X.K, T⟩) ρ3 H3 Q E (gLcN it c gt ge d (mwipe m ow) n (i + 1) h3),
          fun H3 z => ⟨n, Nat.lt_succ_self _, z⟩, fun v H3 y => ?_⟩
        obtain ⟨ρ3, e3, r3, rv3⟩ := w2.2 v H3 y
        dsimp only at q2
        have s3 := s2.to e3 r3
        have sw := s3.wipe ow
        cases g : c.set x (mwipe m ow) h2 with
        | nx m4 h4 =>
          rw [g] at q2
          dsimp only at q2
          refine ct_ok sw rv3 g hv fun σ4 s4 hw => ⟨by rw [hw, wipe_wipe], ?_⟩
          refine ⟨ρ3, m4, h4, s4, ?_⟩
          have q3 := q2.ext e3
          generalize gt m4 h4 = ot at q3 ⊢
          cases ot with
          | bad => exact q3.elim
          | er _ _ => exact q3.elim
          | ok b h5 =>
            intro ρ5 H5 b' e5 r5 hb
            have hb' : b = b' := hb
            subst hb'
            have s5 := s4.to e5 r5
            cases b with
            | false =>
              rw [if_neg Bool.false_ne_true]
              exact ⟨ρ5, h5, (e2.trans e3).trans e5, (s3.to e5 r5), q3.ext e5⟩
            | true =>
              rw [if_pos rfl]
              dsimp only at q3
              refine ⟨ρ5, m4, h5, s5, ?_⟩
              have q4 := q3.ext e5
              generalize ge m4 h5 = oe at q4 ⊢
              cases oe with
              | bad => exact q4.elim
              | er _ _ => exact q4.elim
              | ok y6 h6 =>
                intro ρ6 H6 v6 e6 r6 rv6
                dsimp only at q4
                have q5 := q4.ext e6
                have a6 := e6.at (e5.at (e3.at (e2.at a0)))
                cases gd : h6.get d with
                | none => rw [gd] at q5; exact q5.elim
                | some od =>
                  rw [gd] at q5
                  cases od with
                  | lst acc =>
                    dsimp only at q5
                    obtain ⟨ws, h7, h8⟩ := r6.obj gd a6
                    by_cases z : acc.length < 1000000
                    · rw [if_pos z] at q5
                      have r8 : RVs ⟨X.K, T⟩ ρ6 H6 (acc ++ [y6]) (ws ++ [v6]) := RVs.app (.cons rv6 .nil) h8
                      have x7 : Ext ρ6 H6 ρ6 (upd H6 D (.lst (ws ++ [v6]))) := r6.grow gd a6 _
                      have r7 : HR ⟨X.K, T⟩ ρ6 (h6.set d (.lst (acc ++ [y6]))) (upd H6 D (.lst (ws ++ [v6]))) := r6.set gd a6 ⟨_, upd_same, r8.ext x7⟩
                      have s7 := ((s3.to e5 r5).to e6 r6).to x7 r7
                      have e7 := (((e2.trans e3).trans e5).trans e6).trans x7
                      have q7 := q5.ext x7
                      refine ⟨ws, h7, by rw [← h8.length, sizeLine_eq]; omega, ?_⟩
                      exact ⟨ρ6, _, e7, s7, q7⟩
                    · rw [if_neg z] at q5; exact q5.elim
                  | _ => exact q5.elim
        | _ => rw [g] at q2; exact q2.elim
theorem je_lc (hc : X.calm = true) (hN : X.N.Nodup) (hi : JI X T E tg iter gi) (ok : BlkOk X.N X.env.scope scope own)
    (hg : ∀ (s : Shared) (H : Hp) (C : Addr) (cl : List (Str × Addr)) (fp : List Addr), PG (X.blk s H scope (compEnvC scope cl C X.env) fp) tg (tCT X.K c))
    (ht : ∀ (s : Shared) (H : Hp) (C : Addr) (cl : List (Str × Addr)) (fp : List Addr), PTs (X.blk s H scope (compEnvC scope cl C X.env) fp) ifs (tT ⟨X.K, T⟩ E00 gt))
    (he : ∀ (s : Shared) (H : Hp) (C : Addr) (cl : List (Str × Addr)) (fp : List Addr), JE (X.blk s H scope (compEnvC scope cl C X.env) fp) T E00 elt ge)
    (hv : ∀ i ∈ c.slots, i ∈ own.map (·.2)) (hs : ∀ x, foldedSetIterable iter X.env x = pure x := by intro _; rfl) :
    JE X T E (.ListComp elt [⟨tg, iter, ifs, 0⟩] scope pos) (gLc gi c gt ge (own.map (·.2))) := by
  exact PE.le (pe_lc (te := tE ⟨X.K, T⟩ E00 ge) hc hN hi ok hg ht he hs) (lc_le hv)
theorem js_setLc {i : Nat} {y : Str} {py spos : Pos} (hy : X.N[i]? = some y) (hyl : X.env.scope.names.lookup y = some .local) (hc : X.calm = true) (hN : X.N.Nodup)
    (hsw : swapsWith (.ListComp elt [⟨tg, iter, ifs, 0⟩] scope pos) (some (.Name y py)) spos.line X.env = pure true) (hi : JI X T E tg iter gi) (ok : BlkOk X.N X.env.scope scope own)
    (hg : ∀ (s : Shared) (H : Hp) (C : Addr) (cl : List (Str × Addr)) (fp : List Addr), PG (X.blk s H scope (compEnvC scope cl C X.env) fp) tg (tCT X.K c))
    (ht : ∀ (s : Shared) (H : Hp) (C : Addr) (cl : List (Str × Addr)) (fp : List Addr), PTs (X.blk s H scope (compEnvC scope cl C X.env) fp) ifs (tT ⟨X.K, T⟩ E00 gt))
    (he : ∀ (s : Shared) (H : Hp) (C : Addr) (cl : List (Str × Addr)) (fp : List Addr), JE (X.blk s H scope (compEnvC scope cl C X.env) fp) T E00 elt ge)
    (hv : ∀ i ∈ c.slots, i ∈ own.map (·.2)) (hs : ∀ x, foldedSetIterable iter X.env x = pure x := by intro _; rfl) :
    JS X T E (.Assign [.Name y py] (.ListComp elt [⟨tg, iter, ifs, 0⟩] scope pos) spos) (gAsg (gLc gi c gt ge (own.map (·.2))) (tgName i)) :=
  PS.le (ps_setLc (te := tE ⟨X.K, T⟩ E00 ge) hc hN hy hyl hsw hi ok hg ht he hs) fun D σ H ⟨ρ, m, h, s, q⟩ => lc_le hv _ _ _ (sE s q fun ρ1 h1 H1 x v s1 e1 r1 q1 => q1 ρ1 H1 _ .refl (s1.set i r1))
end
end MI
set_option Elab.async false
set_option linter.all false
set_option maxRecDepth 100000
set_option maxHeartbeats 4000000
namespace MI
open PySem PySem.Spec PyProof.Rows L2 JB
/-- by values -/
def CallM (Z : Zt) (E : XK) (f : MF) (r : List V → Hp → VK → Prop) : Prop := ∀ ρ h H xs vs Q, HR Z ρ h H → RVs Z ρ H xs vs → Post Z (rV Z) ρ H Q E (f xs h) → r vs H Q
def gCB (f : MF) (a : MA) : ME := fun m h => (a m h).bind fun xs h1 => f xs h1
def f1 (f : MV → MH → Out MV) : MF := fun xs h => match xs with
  | [x] => f x h
  | _ => .bad
theorem CallM.one {Z : Zt} {E : XK} {f : MV → MH → Out MV} {r : List V → Hp → VK → Prop} (k : ∀ ρ h H x v Q, HR Z ρ h H → RV Z ρ H x v → Post Z (rV Z) ρ H Q E (f x h) → r [v] H Q) : CallM Z E (f1 f) r := fun ρ h H xs vs Q R r q => by
  cases r with
  | nil => exact q.elim
  | cons a r =>
    cases r with
    | nil => exact k ρ h H _ _ Q R a q
    | cons _ _ => exact q.elim
section
variable {X : Cx} {T : Nat → Addr} {E : XK} {o e : Expr} {es : List Expr} {go : ME} {ga : MA} {f : MF} {r : List V → Hp → VK → Prop} {x : Str} {id Ty : String} {p pos apos : Pos} {name : Str}
theorem je_callB (hc : CallR X (.builtin id) r) (k : CallM ⟨X.K, T⟩ E f r) (hg : Gl X x) (hm : X.mg x = none) (hv : bootBuiltins x = some (.builtin id)) (ha : JA X T E (e :: es) ga) (hn : x ≠ "__name__" := by decide) (hdb : (x == ("__debug__" : Str)) = false := by decide)
    (he : starEach (e :: es) X.env = (false, eval e X.env) :: starEach es X.env := by rfl) (hpl : (backTo pos (starEach es X.env)).any (·.1) = false := by rfl) : JE X T E (.Call (.Name x p) (e :: es) [] pos) (gCB f ga) :=
  PE.le (pe_callB hc hg hm hv ha hn hdb he hpl) fun σ H Q ⟨ρ, m, h, s, q⟩ => stepA s q fun ρ1 h1 H1 xs vs s1 e1 r1 q1 => k ρ1 h1 H1 xs vs Q s1.hr r1 q1
theorem je_callT (hc : CallR X (.type Ty) r) (k : CallM ⟨X.K, T⟩ E f r) (hg : Gl X x) (hm : X.mg x = none) (hv : bootBuiltins x = some (.type Ty)) (ha : JA X T E (e :: es) ga) (hn : x ≠ "__name__" := by decide) (hdb : (x == ("__debug__" : Str)) = false := by decide)
    (he : starEach (e :: es) X.env = (false, eval e X.env) :: starEach es X.env := by rfl) (hpl : (backTo pos (starEach es X.env)).any (·.1) = false := by rfl) : JE X T E (.Call (.Name x p) (e :: es) [] pos) (gCB f ga) :=
  PE.le (pe_callTy hc hg hm hv ha hn hdb he hpl) fun σ H Q ⟨ρ, m, h, s, q⟩ => stepA s q fun ρ1 h1 H1 xs vs s1 e1 r1 q1 => k ρ1 h1 H1 xs vs Q s1.hr r1 q1
/-- methods -/
def MethM (Z : Zt) (E : XK) (f : MV → MF) (r : V → List V → Hp → VK → Prop) : Prop := ∀ ρ h H x v xs vs Q, HR Z ρ h H → RV Z ρ H x v → RVs Z ρ H xs vs → Post Z (rV Z) ρ H Q E (f x xs h) → r v vs H Q
def isTy (h : MH) (Ty : String) : MV → Bool
  | .str _ => Ty == "str"
  | .int _ => Ty == "int"
  | .fls _ => Ty == "list"
  | .ref i => match h.get i with
    | some (.lst _) => Ty == "list"
    | some (.dic _) => Ty == "dict"
    | some (.dit _) => Ty == "dict"
    | _ => false
  | _ => false
theorem isTy_ok {Z : Zt} {ρ : List Addr} {h : MH} {H : Hp} {y : MV} {v : V} (R : HR Z ρ h H) (r : RV Z ρ H y v) (e : isTy h Ty y = true) : tyV Z.K Ty v H := by
  cases r with
  | str s => exact beq_iff_eq.mp e
  | int i => exact beq_iff_eq.mp e
  | fls h1 r1 => exact .inl ⟨beq_iff_eq.mp e, _, h1.sq⟩
  | @ref i a hi =>
    dsimp only [isTy] at e
    cases g : h.get i with
    | none => rw [g] at e; cases e
    | some ob =>
      rw [g] at e
      cases ob with
      | lst xs =>
        obtain ⟨vs, h1, _⟩ := R.obj g hi
        exact .inl ⟨beq_iff_eq.mp e, vs, .inl (.inl h1)⟩
      | dic kvs =>
        obtain ⟨vs, h1, _⟩ := R.obj g hi
        exact .inr (.inr (.inl ⟨beq_iff_eq.mp e, .inl ⟨vs, h1⟩⟩))
      | dit kvs =>
        obtain ⟨vs, h1, _⟩ := R.obj g hi
        exact .inr (.inr (.inl ⟨beq_iff_eq.mp e, .inr ⟨vs, h1⟩⟩))
      | _ => cases e
  | _ => cases e
def gBM (Ty : String) (f : MV → MF) (o : ME) (a : MA) : ME := fun m h => (o m h).bind fun x h1 => if isTy h1 Ty x = true then (a m h1).bind fun xs h2 => f x xs h2 else .bad
theorem je_bm {fm : MV → MF} {rm : V → List V → Hp → VK → Prop} (pa : PlainAttrs Ty) (slot : Slot Ty name id) (hty : typeOf (.builtin id) = pure (.type "method_descriptor")) (hm : MtR X id rm) (k : MethM ⟨X.K, T⟩ E fm rm) (ho : JE X T E o go) (ha : JA X T E (e :: es) ga)
    (hbase : attributeBase o name X.env (eval o X.env) = eval o X.env := by rfl)
    (hfew : ((backTo pos (starEach (e :: es) X.env)).all (fun x => !x.1) && (backToKw pos (keywordEach [] X.env)).all (fun x => x.1.isSome)
      && decide ((e :: es).length + ([] : List Keyword).length + (if ([] : List Keyword).isEmpty then 0 else 1) < 30)) = true := by rfl)
    (hline : (apos.endLine == pos.line) = true := by rfl) (hs : starEach (e :: es) X.env = (false, eval e X.env) :: starEach es X.env := by rfl) (hplain : (backTo pos (starEach es X.env)).any (·.1) = false := by rfl) :
    JE X T E (.Call (.Attribute o name apos) (e :: es) [] pos) (gBM Ty fm go ga) :=
  PE.le (pe_bm pa slot hty hm ho ha hbase hfew hline hs hplain) fun σ H Q ⟨ρ, m, h, s, q⟩ => stepE s q fun ρ1 h1 H1 y v s1 e1 r1 q1 => by
    by_cases z : isTy h1 Ty y = true
    · rw [if_pos z] at q1
      exact ⟨isTy_ok s1.hr r1 z, stepA s1 q1 fun ρ2 h2 H2 xs vs s2 e2 r2 q2 => k ρ2 h2 H2 y v xs vs Q s2.hr (r1.ext e2) r2 q2⟩
    · rw [if_neg z] at q1; exact q1.elim
theorem je_bm0 {fm : MV → MF} {rm : V → List V → Hp → VK → Prop} (pa : PlainAttrs Ty) (slot : Slot Ty name id) (hty : typeOf (.builtin id) = pure (.type "method_descriptor")) (hm : MtR X id rm) (k : MethM ⟨X.K, T⟩ E fm rm) (ho : JE X T E o go)
    (hbase : attributeBase o name X.env (eval o X.env) = eval o X.env := by rfl) (hline : (apos.endLine == pos.line) = true := by rfl) :
    JE X T E (.Call (.Attribute o name apos) [] [] pos) (gBM Ty fm go gNil) :=
  PE.le (pe_bm0 pa slot hty hm ho hbase hline) fun σ H Q ⟨ρ, m, h, s, q⟩ => stepE s q fun ρ1 h1 H1 y v s1 e1 r1 q1 => by
    by_cases z : isTy h1 Ty y = true
    · rw [if_pos z] at q1
      exact ⟨isTy_ok s1.hr r1 z, k ρ1 h1 H1 y v [] [] Q s1.hr r1 .nil q1⟩
    · rw [if_neg z] at q1; exact q1.elim
end
def mLenV (x : MV) (h : MH) : Out MV := match mLen h x with
  | some n => .ok (.int n) h
  | none => .bad
def mList (x : MV) (h : MH) : Out MV := match seqOf h x with
  | some xs => .ok (.ref h.n) (h.push (.lst xs))
  | none => .bad
def mTuple (x : MV) (h : MH) : Out MV := match x with
  | .tup xs => .ok (.tup xs) h
  | .ktp xs => .ok (.ktp xs) h
  | x => match seqOf h x with
    | some xs => .ok (.tup xs) h
    | none => .bad
def mAbs (x : MV) (h : MH) : Out MV := match x with
  | .int i => .ok (.int (if i < 0 then -i else i)) h
  | _ => .bad
def lApp (x : MV) (xs : List MV) (h : MH) : Out MV := match x, xs with
  | .ref i, [y] => match h.get i with
    | some (.lst l) => if l.length < 1000000 then .ok .non (h.set i (.lst (l ++ [y]))) else .bad
    | _ => .bad
  | _, _ => .bad
def lExt (x : MV) (xs : List MV) (h : MH) : Out MV := match x, xs with
  | .ref i, [.ref j] => match h.get i, h.get j with
    | some (.lst l), some (.lst r) => if l.length + r.length < 1000000 then .ok .non (h.set i (.lst (l ++ r))) else .bad
    | _, _ => .bad
  | _, _ => .bad
def lPop (x : MV) (xs : List MV) (h : MH) : Out MV := match x, xs with
  | .ref i, [] => match h.get i with
    | some (.lst l) => match l[l.length - 1]? with
      | some y => .ok y (h.set i (.lst l.dropLast))
      | none => .bad
    | _ => .bad
  | _, _ => .bad
section
variable {X : Cx} {T : Nat → Addr} {E : XK}
theorem RVs.dropLast {Z : Zt} {ρ : List Addr} {H : Hp} : ∀ {xs : List MV} {vs : List V}, RVs Z ρ H xs vs → RVs Z ρ H xs.dropLast vs.dropLast
  | _, _, .nil => .nil
  | _, _, .cons a .nil => .nil
  | _, _, .cons a (.cons b r) => .cons a (RVs.dropLast (.cons b r))
theorem mm_app {Z : Zt} : MethM Z E lApp rAppend := fun ρ h H x v xs vs Q R r rs q => by
  cases r with
  | @ref i a hi =>
    cases rs with
    | nil => exact q.elim
    | @cons y w xs vs ry rs =>
      cases rs with
      | cons _ _ => exact q.elim
      | nil =>
        have q' : Post Z (rV Z) ρ H Q E (match h.get i with
          | some (.lst l) => if l.length < 1000000 then .ok .non (h.set i (.lst (l ++ [y]))) else .bad
          | _ => .bad) := q
        cases g : h.get i with
        | none => rw [g] at q'; exact q'.elim
        | some ob =>
          rw [g] at q'
          cases ob with
          | lst l =>
            dsimp only at q'
            obtain ⟨ws, h1, h2⟩ := R.obj g hi
            by_cases z : l.length < 1000000
            · rw [if_pos z] at q'
              have x1 : Ext ρ H ρ (upd H a (.lst (ws ++ [w]))) := R.grow g hi _
              have r8 : RVs Z ρ H (l ++ [y]) (ws ++ [w]) := RVs.app (.cons ry .nil) h2
              exact ⟨a, ws, w, rfl, rfl, h1, by rw [← h2.length, sizeLine_eq]; omega, q' ρ _ .non x1 (R.set g hi ⟨_, upd_same, r8.ext x1⟩) .non⟩
            · rw [if_neg z] at q'; exact q'.elim
          | _ => exact q'.elim
  | _ => exact q.elim
theorem mm_pop {Z : Zt} : MethM Z E lPop rPop := fun ρ h H x v xs vs Q R r rs q => by
  cases r with
  | @ref i a hi =>
    cases rs with
    | cons _ _ => exact q.elim
    | nil =>
      have q' : Post Z (rV Z) ρ H Q E (match h.get i with
        | some (.lst l) => match l[l.length - 1]? with
          | some y => .ok y (h.set i (.lst l.dropLast))
          | none => .bad
        | _ => .bad) := q
      cases g : h.get i with
      | none => rw [g] at q'; exact q'.elim
      | some ob =>
        rw [g] at q'
        cases ob with
        | lst l =>
          dsimp only at q'
          obtain ⟨ws, h1, h2⟩ := R.obj g hi
          cases k : l[l.length - 1]? with
          | none => rw [k] at q'; exact q'.elim
          | some y =>
            rw [k] at q'
            obtain ⟨w, h3, h4⟩ := h2.get k
            have x1 : Ext ρ H ρ (upd H a (.lst ws.dropLast)) := R.grow g hi _
            exact ⟨a, ws, w, rfl, rfl, h1, by rw [← h2.length]; exact h3, q' ρ _ w x1 (R.set g hi ⟨_, upd_same, (h2.dropLast).ext x1⟩) (h4.ext x1)⟩
        | _ => exact q'.elim
  | _ => exact q.elim
theorem mm_ext {Z : Zt} : MethM Z E lExt rExtend := fun ρ h H x v xs vs Q R r rs q => by
  cases r with
  | @ref i a hi =>
    cases rs with
    | nil => exact q.elim
    | @cons y w xs vs ry rs =>
      cases rs with
      | cons _ _ => cases ry <;> exact q.elim
      | nil =>
        cases ry with
        | @ref j b hj =>
          have q' : Post Z (rV Z) ρ H Q E (match h.get i, h.get j with
            | some (.lst l), some (.lst r) => if l.length + r.length < 1000000 then .ok .non (h.set i (.lst (l ++ r))) else .bad
            | _, _ => .bad) := q
          cases g : h.get i with
          | none => rw [g] at q'; exact q'.elim
          | some ob =>
            cases g2 : h.get j with
            | none => rw [g, g2] at q'; cases ob <;> exact q'.elim
            | some ob2 =>
              rw [g, g2] at q'
              cases ob with
              | lst l =>
                cases ob2 with
                | lst l2 =>
                  dsimp only at q'
                  obtain ⟨ws, h1, h2⟩ := R.obj g hi
                  obtain ⟨ws2, h3, h4⟩ := R.obj g2 hj
                  by_cases z : l.length + l2.length < 1000000
                  · rw [if_pos z] at q'
                    have x1 : Ext ρ H ρ (upd H a (.lst (ws ++ ws2))) := R.grow g hi _
                    exact ⟨a, b, ws, ws2, rfl, rfl, h1, h3, by rw [← h2.length, ← h4.length, sizeLine_eq]; omega, q' ρ _ .non x1 (R.set g hi ⟨_, upd_same, (RVs.app h4 h2).ext x1⟩) .non⟩
                  · rw [if_neg z] at q'; exact q'.elim
                | _ => exact q'.elim
              | _ => exact q'.elim
        | _ => exact q.elim
  | _ => exact q.elim
theorem mc_abs {Z : Zt} : CallM Z E (f1 mAbs) (fun xs H Q => ∃ i, xs = [.int i] ∧ Q (.int (if i < 0 then -i else i)) H) := .one fun ρ h H x v Q R r q => by
  cases r with
  | int i => exact ⟨i, rfl, q.ok R (.int _)⟩
  | _ => exact q.elim
abbrev rLenM (K : PySem.W.Frag) : List V → Hp → VK → Prop := fun xs H Q => (∃ x n, xs = [x] ∧ LenV K x H n ∧ Q (.int n) H) ∨ (∃ a kvs, xs = [V.ref a] ∧ H a = some (.dK kvs) ∧ Q (.int kvs.length) H)
theorem mc_len {Z : Zt} : CallM Z E (f1 mLenV) (rLenM Z.K) := .one fun ρ h H x v Q R r q => by
  unfold mLenV at q
  cases k : mLen h x with
  | none => rw [k] at q; exact q.elim
  | some n =>
    rw [k] at q
    have fin : Q (.int n) H := Post.ok (R := rV Z) (a := .int n) q R (.int _)
    cases r with
    | str s =>
      dsimp only [mLen] at k
      split at k
      · cases k
        refine .inl ⟨_, _, rfl, ⟨?_, rfl⟩, ?_⟩
        · show s.toArray.size ≤ sizeLine
          rw [sizeLine_eq]; simp; omega
        · have : (⟨s.toArray⟩ : Str).length = s.length := by show s.toArray.size = _; simp
          rw [this]; exact fin
      · cases k
    | tup h1 r1 => cases k; exact .inl ⟨_, _, rfl, .inr ⟨_, .inl (.inl h1), rfl⟩, by rw [← r1.length]; exact fin⟩
    | ktp h1 r1 => cases k; exact .inl ⟨_, _, rfl, .inr ⟨_, ktp_sq h1, rfl⟩, by rw [← r1.length]; exact fin⟩
    | fls h1 r1 => cases k; exact .inl ⟨_, _, rfl, .inl ⟨_, h1.sq, rfl⟩, by rw [← r1.length]; exact fin⟩
    | @ref i a hi =>
      dsimp only [mLen] at k
      cases g : h.get i with
      | none => rw [g] at k; cases k
      | some ob =>
        rw [g] at k
        cases ob with
        | lst l =>
          cases k
          obtain ⟨ws, h1, h2⟩ := R.obj g hi
          exact .inl ⟨_, _, rfl, .inl ⟨ws, .inl (.inl h1), rfl⟩, by rw [← h2.length]; exact fin⟩
        | dic l =>
          cases k
          obtain ⟨ws, h1, h2⟩ := R.obj g hi
          exact .inr ⟨a, ws, rfl, h1, by rw [← h2.length]; exact fin⟩
        | _ => cases k
    | _ => cases k
theorem call_lenM : CallR X (.builtin "len") (rLenM X.K) := CallR.or call_len call_lenD
theorem mc_list {Z : Zt} : CallM Z E (f1 mList) (fun xs H Q => ∃ p ys, xs = [.ref p] ∧ (SqL Z.K H p ys ∨ SqT Z.K H p ys) ∧ ∀ l, H l = none → Q (.ref l) (upd H l (.lst ys))) := .one fun ρ h H x v Q R r q => by
  unfold mList at q
  cases k : seqOf h x with
  | none => rw [k] at q; exact q.elim
  | some xs =>
    rw [k] at q
    obtain ⟨a, vs, rfl, r2, hq⟩ := seqOf_or R r k
    have q' : Post Z (rV Z) ρ H Q E (.ok (.ref h.n) (h.push (.lst xs))) := q
    exact ⟨a, vs, rfl, hq, fun l hl => q' (ρ ++ [l]) _ _ (Ext.push hl) (R.push hl ⟨vs, upd_same, r2.ext (Ext.push hl)⟩) (.ref (by rw [← R.len]; simp))⟩
theorem mc_tuple {Z : Zt} : CallM Z E (f1 mTuple) (fun xs H Q => ∃ p ys, xs = [.ref p] ∧ ((SqL Z.K H p ys ∧ ∀ l, H l = none → Q (.ref l) (upd H l (.tup ys))) ∨ (SqT Z.K H p ys ∧ Q (.ref p) H))) := .one fun ρ h H x v Q R r q => by
  cases r with
  | tup h1 r1 => exact ⟨_, _, rfl, .inr ⟨.inl (.inl h1), Post.ok (R := rV Z) (a := .tup _) q R (.tup h1 r1)⟩⟩
  | ktp h1 r1 => exact ⟨_, _, rfl, .inr ⟨ktp_sq h1, Post.ok (R := rV Z) (a := .ktp _) q R (.ktp h1 r1)⟩⟩
  | @fls a xs vs h1 r1 =>
    have q' : Post Z (rV Z) ρ H Q E (.ok (.tup xs) h) := q
    exact ⟨a, vs, rfl, .inl ⟨h1.sq, fun l hl => q' ρ _ _ (Ext.still1 hl) (R.still1 hl) (.tup upd_same (r1.ext (Ext.still1 hl)))⟩⟩
  | @ref i a hi =>
    have q' : Post Z (rV Z) ρ H Q E (match seqOf h (.ref i) with
      | some xs => .ok (.tup xs) h
      | none => .bad) := q
    dsimp only [seqOf] at q'
    cases g : h.get i with
    | none => rw [g] at q'; exact q'.elim
    | some ob =>
      rw [g] at q'
      cases ob with
      | lst xs =>
        obtain ⟨vs, h1, h2⟩ := R.obj g hi
        exact ⟨a, vs, rfl, .inl ⟨.inl (.inl h1), fun l hl => q' ρ _ _ (Ext.still1 hl) (R.still1 hl) (.tup upd_same (h2.ext (Ext.still1 hl)))⟩⟩
      | _ => exact q'.elim
  | _ => exact q.elim
end
end MI
set_option Elab.async false
set_option linter.all false
set_option maxRecDepth 100000
set_option maxHeartbeats 4000000
namespace MI
open PySem PySem.Spec PyProof.Rows L2 JB
def putM (h : MH) (x y z : MV) : Option MH := if isD h x = true then dPutM h x y z else match x, y with
  | .ref i, .int k => match h.get i with
    | some (.lst xs) => match ixN xs.length k with
      | some j => some (h.set i (.lst (xs.set j z)))
      | none => none
    | _ => none
  | _, _ => none
theorem RVs.set {Z : Zt} {ρ : List Addr} {H : Hp} : ∀ {xs : List MV} {vs : List V} (j : Nat) {z : MV} {w : V}, RVs Z ρ H xs vs → RV Z ρ H z w → RVs Z ρ H (xs.set j z) (vs.set j w)
  | _, _, _, _, _, .nil, _ => .nil
  | _, _, 0, _, _, .cons a r, q => .cons q r
  | _, _, j + 1, _, _, .cons a r, q => .cons a (RVs.set j r q)
theorem PSet.or {X : Cx} {t t' : TSet} (p : PSet X t) (q : PSet X t') : PSet X (fun o i v H Q => t o i v H Q ∨ t' o i v H Q) := fun pins s σ H o i v ov iv u Q I r1 r2 r3 h =>
  h.elim (p pins s σ H o i v ov iv u Q I r1 r2 r3) (q pins s σ H o i v ov iv u Q I r1 r2 r3)
def tgSub (o i : ME) : MG := fun z m h => (o m h).bindS fun x h1 => (i m h1).bindS fun y h2 => match putM h2 x y z with
  | some h3 => .nx m h3
  | none => .bad
section
variable {X : Cx} {T : Nat → Addr} {E : XK} {o i e a b : Expr} {rest : List Expr} {go gi ga gb : ME} {pos p : Pos}
theorem put_ok {Z : Zt} {ρ : List Addr} {h h' : MH} {H : Hp} {x y z : MV} {v w u : V} {Q : Hp → Prop} (R : HR Z ρ h H) (r : RV Z ρ H x v) (q : RV Z ρ H y w) (t : RV Z ρ H z u) (e : putM h x y z = some h')
    (k : ∀ H', Ext ρ H ρ H' → HR Z ρ h' H' → Q H') : rSetL v w u H Q ∨ rSetD v w u H Q := by
  unfold putM at e
  by_cases d : isD h x = true
  · rw [if_pos d] at e
    obtain ⟨a, H', rfl, p1, p2, p3⟩ := dPut_ok R r q t e
    exact .inr ⟨a, H', rfl, p1, k H' p2 p3⟩
  · rw [if_neg d] at e
    cases r with
    | @ref j a hj =>
      cases q with
      | int n =>
        dsimp only at e
        cases g : h.get j with
        | none => rw [g] at e; cases e
        | some ob =>
          rw [g] at e
          cases ob with
          | lst xs =>
            dsimp only at e
            obtain ⟨vs, h1, h2⟩ := R.obj g hj
            cases k1 : ixN xs.length n with
            | none => rw [k1] at e; cases e
            | some j' =>
              rw [k1] at e
              cases e
              have x1 : Ext ρ H ρ (upd H a (.lst (vs.set j' u))) := R.grow g hj _
              exact .inl ⟨a, vs, n, j', rfl, rfl, h1, by rw [← h2.length]; exact k1, k _ x1 (R.set g hj ⟨_, upd_same, (RVs.set j' h2 t).ext x1⟩)⟩
          | _ => cases e
      | _ => cases e
    | _ => cases e
theorem jg_sub (hu : X.A.units + 1 < cLine) (ho : JE X T E o go) (hi : JE X T E i gi) (ha : ∀ v, assign (.Subscript o i pos) X.env v = (do
      let ov ← holding [v] (eval o X.env)
      let iv ← holding [v, ov] (eval i X.env)
      standAt pos
      holding [v, ov, iv] (setItem ov iv v)
      release [v, ov, iv] []) := by intro _; rfl) : JG X T E (.Subscript o i pos) (tgSub go gi) :=
  PG.le (pg_sub ho hi (PSet.or set_list (set_dict hu)) ha) fun v σ H Q ⟨ρ, m, h, z, s, r, q⟩ => sE s q fun ρ1 h1 H1 x vx s1 e1 r1 q1 => sE s1 q1 fun ρ2 h2 H2 y vy s2 e2 r2 q2 => by
    cases k : putM h2 x y z with
    | none => rw [k] at q2; exact q2.elim
    | some h3 =>
      rw [k] at q2
      exact put_ok s2.hr (r1.ext e2) r2 ((r.ext e1).ext e2) k fun H' x1 R1 => q2 ρ2 H' σ x1 (s2.to x1 R1)
def gOrT (a b : ME) : ME := fun m h => (a m h).bind fun x h1 => match mTru h1 x with
  | some true => .ok x h1
  | some false => b m h1
  | none => .bad
def gAndT (a b : ME) : ME := fun m h => (a m h).bind fun x h1 => match mTru h1 x with
  | some true => b m h1
  | some false => .ok x h1
  | none => .bad
theorem je_orT (ha : JE X T E a ga) (hb : JE X T E (.BoolOp .Or (b :: rest) pos) gb) : JE X T E (.BoolOp .Or (a :: b :: rest) pos) (gOrT ga gb) :=
  PE.le (pe_orT ha hb) fun σ H Q ⟨ρ, m, h, s, q⟩ => stepE s q fun ρ1 h1 H1 x v s1 e1 r1 q1 => by
    cases k : mTru h1 x with
    | none => rw [k] at q1; exact q1.elim
    | some c =>
      rw [k] at q1
      refine ⟨c, mTru_ok s1.hr r1 k, ?_⟩
      cases c with
      | true => exact Post.ok (R := rV ⟨X.K, T⟩) (a := x) q1 s1.hr r1
      | false => exact endE s1 q1
theorem je_andT (ha : JE X T E a ga) (hb : JE X T E (.BoolOp .And (b :: rest) pos) gb) : JE X T E (.BoolOp .And (a :: b :: rest) pos) (gAndT ga gb) :=
  PE.le (pe_andT ha hb) fun σ H Q ⟨ρ, m, h, s, q⟩ => stepE s q fun ρ1 h1 H1 x v s1 e1 r1 q1 => by
    cases k : mTru h1 x with
    | none => rw [k] at q1; exact q1.elim
    | some c =>
      rw [k] at q1
      refine ⟨c, mTru_ok s1.hr r1 k, ?_⟩
      cases c with
      | true => exact endE s1 q1
      | false => exact Post.ok (R := rV ⟨X.K, T⟩) (a := x) q1 s1.hr r1
def mcut {α : Type} (xs : List α) (lo hi : Option Int) : List α := (xs.drop (HT.sIx xs.length 0 lo)).take (HT.sIx xs.length xs.length hi - HT.sIx xs.length 0 lo)
theorem RVs.drop {Z : Zt} {ρ : List Addr} {H : Hp} : ∀ {xs : List MV} {vs : List V} (n : Nat), RVs Z ρ H xs vs → RVs Z ρ H (xs.drop n) (vs.drop n)
  | _, _, 0, r => r
  | _, _, _ + 1, .nil => .nil
  | _, _, n + 1, .cons _ r => RVs.drop n r
theorem RVs.take {Z : Zt} {ρ : List Addr} {H : Hp} : ∀ {xs : List MV} {vs : List V} (n : Nat), RVs Z ρ H xs vs → RVs Z ρ H (xs.take n) (vs.take n)
  | _, _, 0, _ => by rw [List.take_zero, List.take_zero]; exact .nil
  | _, _, _ + 1, .nil => .nil
  | _, _, n + 1, .cons a r => .cons a (RVs.take n r)
theorem RVs.cut {Z : Zt} {ρ : List Addr} {H : Hp} {xs : List MV} {vs : List V} (r : RVs Z ρ H xs vs) (lo hi : Option Int) : RVs Z ρ H (mcut xs lo hi) (cutV vs lo hi) := by
  unfold mcut cutV
  rw [r.length]
  exact (r.drop _).take _
def mSl (x : MV) (lo hi : Option Int) (h : MH) : Out MV := match x with
  | .str s => if s.length ≤ 1000000 then .ok (.str (mcut s lo hi)) h else .bad
  | .tup xs => .ok (.tup (mcut xs lo hi)) h
  | x => if isL x = true then match seqOf h x with
      | some xs => .ok (.ref h.n) (h.push (.lst (mcut xs lo hi)))
      | none => .bad
    else .bad
abbrev MP := ML → MH → Out (Option Int)
def gPn : MP := fun _ h => .ok none h
def gPs (a : ME) : MP := fun m h => (a m h).bind fun x h1 => match x with
  | .int i => .ok (some i) h1
  | _ => .bad
def gSl (o : ME) (l u : MP) : ME := fun m h => (o m h).bind fun x h1 => (l m h1).bind fun lo h2 => (u m h2).bind fun hi h3 => mSl x lo hi h3
abbrev rO : Rl (Option Int) (Option Int) := fun _ _ x v => x = v
def tP (Z : Zt) (E : XK) (g : MP) : TO := fun σ H Q => ∃ ρ m h, SR Z ρ m h σ H ∧ Post Z rO ρ H Q E (g m h)
abbrev JP (X : Cx) (T : Nat → Addr) (E : XK) (e : Option Expr) (g : MP) : Prop := PO X e (tP ⟨X.K, T⟩ E g)
theorem PO.le {e : Option Expr} {t t' : TO} (p : PO X e t) (k : ∀ σ H Q, t' σ H Q → t σ H Q) : PO X e t' := ⟨fun pins s σ H Q I h => p.run pins s σ H Q I (k σ H Q h)⟩
theorem jp_none : JP X T E none gPn := PO.le po_none fun σ H Q ⟨ρ, m, h, s, q⟩ => q.ok s.hr rfl
theorem jp_some (ha : JE X T E a ga) : JP X T E (some a) (gPs ga) := PO.le (po_some ha) fun σ H Q ⟨ρ, m, h, s, q⟩ => stepE s q fun ρ1 h1 H1 x v s1 e1 r1 q1 => by
  cases r1 with
  | int i => exact ⟨i, rfl, q1.ok s1.hr rfl⟩
  | _ => exact q1.elim
theorem stepP {γ δ : Type} {Z : Zt} {ρ : List Addr} {m : ML} {h : MH} {σ : L2.St} {H : Hp} {R' : Rl γ δ} {Q : δ → Hp → Prop} {Q' : Option Int → Hp → Prop} {g : MP} {k : Option Int → MH → Out γ} (s : SR Z ρ m h σ H) (p : Post Z R' ρ H Q E ((g m h).bind k))
    (n : ∀ ρ1 h1 H1 a, SR Z ρ1 m h1 σ H1 → Ext ρ H ρ1 H1 → Post Z R' ρ1 H1 Q E (k a h1) → Q' a H1) : tP Z E g σ H Q' :=
  ⟨ρ, m, h, s, (Post.bind (R := rO) p).mono fun b H' ⟨ρ1, h1, a, e, r, q, z⟩ => by have q' : a = b := q; rw [← q']; exact n ρ1 h1 H' a (s.to e r) e z⟩
abbrev rSlM (K : PySem.W.Frag) : V → Option Int → Option Int → Hp → VK → Prop := fun x lo hi H Q => rSlL K x lo hi H Q ∨ (rSlA K x lo hi H Q ∨ rSlS x lo hi H Q)
theorem whole_cut {vs : List V} {lo hi : Option Int} (h : HT.sIx vs.length 0 lo = 0 ∧ HT.sIx vs.length vs.length hi = vs.length) : cutV vs lo hi = vs := by
  unfold cutV
  rw [h.1, h.2]; simp
theorem sl_M {Z : Zt} {ρ : List Addr} {h : MH} {H : Hp} {x : MV} {v : V} {lo hi : Option Int} {Q : VK} (R : HR Z ρ h H) (r : RV Z ρ H x v) (q : Post Z (rV Z) ρ H Q E (mSl x lo hi h)) : rSlM Z.K v lo hi H Q := by
  cases r with
  | str s =>
    have q' : Post Z (rV Z) ρ H Q E (if s.length ≤ 1000000 then .ok (.str (mcut s lo hi)) h else .bad) := q
    by_cases z : s.length ≤ 1000000
    · rw [if_pos z] at q'
      refine .inr (.inr ⟨_, rfl, by show s.toArray.size ≤ sizeLine; rw [sizeLine_eq]; simp; omega, ?_⟩)
      exact q'.ok R (.str _)
    · rw [if_neg z] at q'; exact q'.elim
  | @tup a xs vs h1 r1 =>
    have q' : Post Z (rV Z) ρ H Q E (.ok (.tup (mcut xs lo hi)) h) := q
    refine .inr (.inl ⟨a, vs, rfl, .inl (.inl h1), fun w => ?_, fun w p hp => ?_⟩)
    · refine q'.ok R (.tup h1 ?_)
      have := r1.cut lo hi
      rw [whole_cut w] at this
      exact this
    · exact q' ρ _ _ (Ext.still1 hp) (R.still1 hp) (.tup upd_same ((r1.cut lo hi).ext (Ext.still1 hp)))
  | @fls a xs vs h1 r1 =>
    have q' : Post Z (rV Z) ρ H Q E (.ok (.ref h.n) (h.push (.lst (mcut xs lo hi)))) := q
    exact .inl ⟨a, vs, rfl, h1.sq, fun p hp => q' (ρ ++ [p]) _ _ (Ext.push hp) (R.push hp ⟨_, upd_same, (r1.cut lo hi).ext (Ext.push hp)⟩) (.ref (by rw [← R.len]; simp))⟩
  | @ref i a hi' =>
    have q' : Post Z (rV Z) ρ H Q E (match seqOf h (.ref i) with
      | some xs => .ok (.ref h.n) (h.push (.lst (mcut xs lo hi)))
      | none => .bad) := q
    dsimp only [seqOf] at q'
    cases g : h.get i with
    | none => rw [g] at q'; exact q'.elim
    | some ob =>
      rw [g] at q'
      cases ob with
      | lst xs =>
        obtain ⟨vs, h1, h2⟩ := R.obj g hi'
        exact .inl ⟨a, vs, rfl, .inl (.inl h1), fun p hp => q' (ρ ++ [p]) _ _ (Ext.push hp) (R.push hp ⟨_, upd_same, (h2.cut lo hi).ext (Ext.push hp)⟩) (.ref (by rw [← R.len]; simp))⟩
      | _ => exact q'.elim
  | _ => exact q.elim
theorem je_slice {lo hi : Option Expr} {gl gu : MP} {p2 : Pos} (ho : JE X T E o go) (hl : JP X T E lo gl) (hu : JP X T E hi gu) : JE X T E (.Subscript o (.Slice lo hi none p2) pos) (gSl go gl gu) :=
  PE.le (pe_slice (SlR.or sl_list (SlR.or sl_tupA sl_str)) ho hl hu) fun σ H Q ⟨ρ, m, h, s, q⟩ => stepE s q fun ρ1 h1 H1 x v s1 e1 r1 q1 => stepP s1 q1 fun ρ2 h2 H2 l s2 e2 q2 => stepP s2 q2 fun ρ3 h3 H3 u s3 e3 q3 =>
    sl_M s3.hr ((r1.ext e2).ext e3) q3
def it1E (xs : List MV) : It1 := ⟨fun _ => xs.length, fun i _ => some (xs[i]?.map fun x => .tup [.int (i : Nat), x])⟩
def it1EL (j : Nat) : It1 := ⟨fun h => match h.get j with
  | some (.lst xs) => xs.length
  | _ => 0, fun i h => match h.get j with
  | some (.lst xs) => some (xs[i]?.map fun x => .tup [.int (i : Nat), x])
  | _ => none⟩
def gEnum (a : ME) : MI1 := fun m h => (a m h).bind fun x h1 => match x with
  | .fls xs => .ok (it1E xs) h1
  | .ref j => match h1.get j with
    | some (.lst _) => .ok (it1EL j) h1
    | _ => .bad
  | _ => .bad
theorem rI_enum {Z : Zt} {ρ ρ' : List Addr} {h' : MH} {H H' : Hp} {a : Addr} {i : Nat} {xs : List MV} {vs : List V} (R : HR Z ρ' h' H') (sq : SqL Z.K H' a vs) (r : RVs Z ρ' H' xs vs) :
    match some (xs[i]?.map fun x => MV.tup [.int (i : Nat), x]) with
    | none => True
    | some none => (Ite Z.K a).stop i H'
    | some (some x) => (Ite Z.K a).go i H' ∧ ∀ v H'', (Ite Z.K a).yld i H' v H'' → ∃ ρ'', Ext ρ' H' ρ'' H'' ∧ HR Z ρ'' h' H'' ∧ RV Z ρ'' H'' x v := by
  cases g : xs[i]? with
  | none => exact ⟨vs, sq, r.none g⟩
  | some x =>
    obtain ⟨v, h1, h2⟩ := r.get g
    refine ⟨⟨vs, v, sq, h1⟩, fun w H'' y => ?_⟩
    obtain ⟨t, x', rfl, ht, rfl, y⟩ := y
    have := y vs sq
    rw [h1] at this
    cases this
    exact ⟨ρ', Ext.still1 ht, R.still1 ht, .tup upd_same (.cons (.int _) (.cons (h2.ext (Ext.still1 ht)) .nil))⟩
theorem ji_enum {elts : List Expr} {kk : Nat} {tpos : Pos} (hg : Gl X "enumerate") (hm : X.mg "enumerate" = none) (ha : JE X T E a ga) (hs : starEach [a] X.env = [(false, eval a X.env)] := by rfl) :
    JI X T E (.Tuple elts kk tpos) (.Call (.Name "enumerate" p) [a] [] pos) (gEnum ga) :=
  PI.le (pi_enum hg hm (pa_cons ha pa_nil hs) hs) fun σ H R ⟨ρ, m, h, s, q⟩ => stepI s q fun ρ1 h1 H1 x v s1 e1 r1 q1 => by
    cases r1 with
    | @fls ad xs vs h2 r2 =>
      have q' : Post ⟨X.K, T⟩ (rI ⟨X.K, T⟩) ρ1 H1 R E (.ok (it1E xs) h1) := q1
      exact ⟨ad, vs, rfl, h2.sq, q'.ok s1.hr fun i ρ' h' H' e R' => rI_enum (ρ := ρ1) (H := H1) R' (e.fzL h2).sq (r2.ext e)⟩
    | @ref j ad hj =>
      have q' : Post ⟨X.K, T⟩ (rI ⟨X.K, T⟩) ρ1 H1 R E (match h1.get j with
        | some (.lst _) => .ok (it1EL j) h1
        | _ => .bad) := q1
      cases g : h1.get j with
      | none => rw [g] at q'; exact q'.elim
      | some ob =>
        rw [g] at q'
        cases ob with
        | lst xs =>
          obtain ⟨vs, h3, h4⟩ := s1.hr.obj g hj
          refine ⟨ad, vs, rfl, .inl (.inl h3), Post.ok (R := rI ⟨X.K, T⟩) (a := it1EL j) q' s1.hr fun i ρ' h' H' e R' => ?_⟩
          show match (match h'.get j with
              | some (.lst xs) => some (xs[i]?.map fun x => MV.tup [.int (i : Nat), x])
              | _ => none) with
            | none => True
            | some none => (Ite X.K ad).stop i H'
            | some (some x) => (Ite X.K ad).go i H' ∧ ∀ v H'', (Ite X.K ad).yld i H' v H'' → ∃ ρ'', Ext ρ' H' ρ'' H'' ∧ HR ⟨X.K, T⟩ ρ'' h' H'' ∧ RV ⟨X.K, T⟩ ρ'' H'' x v
          cases g2 : h'.get j with
          | none => trivial
          | some o2 =>
            cases o2 with
            | lst ys =>
              obtain ⟨ws, h5, h6⟩ := R'.obj g2 (e.at hj)
              exact rI_enum (ρ := ρ1) (H := H1) R' (.inl (.inl h5)) h6
            | _ => trivial
        | _ => exact q'.elim
    | _ => exact q1.elim
end
end MI
set_option Elab.async false
set_option linter.all false
set_option maxRecDepth 100000
set_option maxHeartbeats 4000000
namespace MI
open PySem PySem.Spec PyProof.Rows L2 JB
def gPar (i j : Nat) (a : MA) : MS := fun m h => (a m h).bindS fun xs h1 => match xs with
  | [x, y] => .nx ((m.set i (some x)).set j (some y)) h1
  | _ => .bad
def mInt (x : MV) (h : MH) : Out MV := match x with
  | .int i => .ok (.int i) h
  | .bl b => .ok (.int (if b = true then 1 else 0)) h
  | _ => .bad
section
variable {X : Cx} {T : Nat → Addr} {E : XK} {a b : Expr} {ga : MA} {pos : Pos}
theorem sA {Z : Zt} {ρ : List Addr} {m : ML} {h : MH} {σ : L2.St} {H : Hp} {D : Ends} {Q' : List V → Hp → Prop} {g : MA} {k : List MV → MH → SO} (s : SR Z ρ m h σ H) (p : PostS Z ρ H D E ((g m h).bindS k))
    (n : ∀ ρ1 h1 H1 a v, SR Z ρ1 m h1 σ H1 → Ext ρ H ρ1 H1 → RVs Z ρ1 H1 a v → PostS Z ρ1 H1 D E (k a h1) → Q' v H1) : tA Z E g σ H Q' :=
  ⟨ρ, m, h, s, p.bind.mono fun b H' ⟨ρ1, h1, a, e, r, q, z⟩ => n ρ1 h1 H' a b (s.to e r) e q z⟩
theorem js_par {i j : Nat} {x y : Str} {px py pt : Pos} {kt k2 pt2} (hc : X.calm = true) (hN : X.N.Nodup) (hi : X.N[i]? = some x) (hj : X.N[j]? = some y) (hij : i ≠ j)
    (hx : X.env.scope.names.lookup x = some .local) (hy : X.env.scope.names.lookup y = some .local) (ha : JA X T E [a, b] ga)
    (hw : swappedStores [.Tuple [.Name x px, .Name y py] kt pt] (.Tuple [a, b] k2 pt2) X.env = pure (some [x, y]) := by rfl)
    (hs : swapsWithSole [.Tuple [.Name x px, .Name y py] kt pt] (.Tuple [a, b] k2 pt2) pos.line X.env = pure false := by rfl) :
    JS X T E (.Assign [.Tuple [.Name x px, .Name y py] kt pt] (.Tuple [a, b] k2 pt2) pos) (gPar i j ga) :=
  PS.le (ps_par hc hN hi hj hij hx hy ha hw hs) fun D σ H ⟨ρ, m, h, s, q⟩ => sA s q fun ρ1 h1 H1 xs vs s1 e1 r1 q1 => by
    cases r1 with
    | nil => exact q1.elim
    | cons ra r1 =>
      cases r1 with
      | nil => exact q1.elim
      | cons rb r1 =>
        cases r1 with
        | cons _ _ => exact q1.elim
        | nil => exact ⟨_, _, rfl, q1 ρ1 H1 _ .refl ((s1.set i ra).set j rb)⟩
theorem mc_int {Z : Zt} : CallM Z E (f1 mInt) (fun xs H Q => (∃ i, xs = [.int i] ∧ Q (.int i) H) ∨ ∃ k, xs = [.bl k] ∧ Q (.int (if k then 1 else 0)) H) := .one fun ρ h H x v Q R r q => by
  cases r with
  | int i => exact .inl ⟨i, rfl, q.ok R (.int _)⟩
  | bl b => exact .inr ⟨b, rfl, Post.ok (R := rV Z) (a := .int (if b = true then 1 else 0)) q R (.int _)⟩
  | _ => exact q.elim
end
end MI
set_option Elab.async false
set_option linter.all false
set_option maxRecDepth 100000
set_option maxHeartbeats 4000000
namespace MI
open PySem PySem.Spec PyProof.Rows L2 JB
inductive MPt where
  | txt (w : List Nat) | nam (i : Nat) | any
def MPt.to : MPt → Pt
  | .txt w => .txt ⟨w.toArray⟩
  | .nam i => .nam i
  | .any => .any
def mfit : List MPt → List MV → Option (Option (List (Nat × MV)))
  | [], [] => some (some [])
  | .txt w :: qs, .str y :: vs => if leq y w = true then mfit qs vs else some none
  | .nam i :: qs, v :: vs => (mfit qs vs).map fun o => o.map fun l => (i, v) :: l
  | .any :: qs, _ :: vs => mfit qs vs
  | _, _ => none
def mfits (qs : List MPt) (vs : List MV) : Option (Option (List (Nat × MV))) := if qs.length = vs.length then mfit qs vs else some none
def msetAll (m : ML) : List (Nat × MV) → ML
  | [] => m
  | (i, v) :: r => msetAll (m.set i (some v)) r
def gCases : List (List MPt × MS) → List MV → MS
  | [], _ => gNext
  | (qs, b) :: r, vs => fun m h => match mfits qs vs with
    | none => .bad
    | some none => gCases r vs m h
    | some (some l) => b (msetAll m l) h
def gMatch (e : ME) (cs : List (List MPt × MS)) : MS := fun m h => (e m h).bindS fun x h1 => match seqOf h1 x with
  | some xs => gCases cs xs m h1
  | none => .bad
section
variable {Z : Zt} {ρ : List Addr} {h : MH} {H : Hp} {E : XK}
theorem SR.all {l : List (Nat × MV)} {l' : List (Nat × V)} (r : RKs (fun i => i) Z ρ H l l') : ∀ {m : ML} {σ : L2.St}, SR Z ρ m h σ H → SR Z ρ (msetAll m l) h (setAll σ l') H := by
  induction r with
  | nil => exact fun s => s
  | cons a _ ih => exact fun s => ih (s.set _ a)
theorem fit_ok : ∀ {qs : List MPt} {xs : List MV} {vs : List V} {o : Option (List (Nat × MV))}, RVs Z ρ H xs vs → mfit qs xs = some o →
    ∃ o', fit (qs.map MPt.to) vs = some o' ∧ ((o = none ∧ o' = none) ∨ ∃ l l', o = some l ∧ o' = some l' ∧ RKs (fun i => i) Z ρ H l l')
  | [], [], _, o, .nil, e => by
    cases e
    exact ⟨_, rfl, .inr ⟨[], [], rfl, rfl, .nil⟩⟩
  | .txt w :: qs, _, _, o, .cons (x := x) (v := v) a r, e => by
    cases a with
    | str y =>
      dsimp only [mfit] at e
      show ∃ o', (if (⟨y.toArray⟩ : Str) = ⟨w.toArray⟩ then fit (qs.map MPt.to) _ else some none) = some o' ∧ _
      by_cases z : leq y w = true
      · rw [if_pos z] at e
        rw [if_pos (by rw [leq_iff.mp z])]
        exact fit_ok r e
      · rw [if_neg z] at e
        cases e
        rw [if_neg (fun k => z (leq_iff.mpr (by have k2 : y.toArray = w.toArray := Str.mk.inj k
                                                simpa using k2)))]
        exact ⟨none, rfl, .inl ⟨rfl, rfl⟩⟩
    | _ => cases e
  | .nam i :: qs, _, _, o, .cons (x := x) (v := v) a r, e => by
    have e' : (mfit qs _).map (fun o => o.map fun l => (i, x) :: l) = some o := e
    obtain ⟨o1, e1, rfl⟩ := Option.map_eq_some_iff.mp e'
    obtain ⟨o2, e2, e3⟩ := fit_ok r e1
    show ∃ o', (fit (qs.map MPt.to) _).map (fun o => o.map fun l => (i, v) :: l) = some o' ∧ _
    rw [e2]
    refine ⟨_, rfl, ?_⟩
    rcases e3 with ⟨rfl, rfl⟩ | ⟨l, l', rfl, rfl, k⟩
    · exact .inl ⟨rfl, rfl⟩
    · exact .inr ⟨_, _, rfl, rfl, .cons (f := fun i => i) a k⟩
  | .any :: qs, _, _, o, .cons a r, e => fit_ok (qs := qs) r e
  | [], _ :: _, _, o, .cons _ _, e => by cases e
  | .txt _ :: _, [], _, o, .nil, e => by cases e
  | .nam _ :: _, [], _, o, .nil, e => by cases e
  | .any :: _, [], _, o, .nil, e => by cases e
theorem fits_ok {qs : List MPt} {xs : List MV} {vs : List V} {o : Option (List (Nat × MV))} (r : RVs Z ρ H xs vs) (e : mfits qs xs = some o) :
    ∃ o', fits (qs.map MPt.to) vs = some o' ∧ ((o = none ∧ o' = none) ∨ ∃ l l', o = some l ∧ o' = some l' ∧ RKs (fun i => i) Z ρ H l l') := by
  unfold mfits at e
  unfold fits
  rw [List.length_map, ← r.length]
  by_cases z : qs.length = xs.length
  · rw [if_pos z] at e ⊢
    exact fit_ok r e
  · rw [if_neg z] at e ⊢
    cases e
    exact ⟨none, rfl, .inl ⟨rfl, rfl⟩⟩
theorem cases_M {m : ML} {σ : L2.St} {xs : List MV} {vs : List V} {D : Ends} (s : SR Z ρ m h σ H) (r : RVs Z ρ H xs vs) : ∀ cs : List (List MPt × MS), PostS Z ρ H D E (gCases cs xs m h) →
    tCases (cs.map fun c => (c.1.map MPt.to, tS Z E c.2)) vs D σ H
  | [], q => q ρ H σ .refl s
  | (qs, b) :: rest, q => by
    have q' : PostS Z ρ H D E (match mfits qs xs with
      | none => .bad
      | some none => gCases rest xs m h
      | some (some l) => b (msetAll m l) h) := q
    cases k : mfits qs xs with
    | none => rw [k] at q'; exact q'.elim
    | some o =>
      rw [k] at q'
      obtain ⟨o', k1, k2⟩ := fits_ok r k
      refine ⟨o', k1, ?_⟩
      rcases k2 with ⟨rfl, rfl⟩ | ⟨l, l', rfl, rfl, k3⟩
      · exact cases_M s r rest q'
      · exact ⟨ρ, _, h, SR.all k3 s, q'⟩
end
section
variable {X : Cx} {T : Nat → Addr} {E : XK} {e o a b : Expr} {ge go ga gb : ME} {pos apos : Pos}
theorem js_match {cs : List MatchCase} {cm : List (List MPt × MS)} (hc : X.calm = true) (hN : X.N.Nodup) (he : JE X T E e ge) (h : CasesJ X cs (cm.map fun c => (c.1.map MPt.to, tS ⟨X.K, T⟩ E c.2))) : JS X T E (.Match e cs pos) (gMatch ge cm) :=
  PS.le (ps_match hc hN he h) fun D σ H ⟨ρ, m, hh, s, q⟩ => sE s q fun ρ1 h1 H1 x v s1 e1 r1 q1 => by
    cases k : seqOf h1 x with
    | none => rw [k] at q1; exact q1.elim
    | some xs =>
      rw [k] at q1
      obtain ⟨ad, vs, rfl, r2, hq⟩ := seqOf_or s1.hr r1 k
      exact ⟨ad, vs, rfl, hq, cases_M s1 r2 cm q1⟩
/-- d.get(k) -/
def gDget (d k : ME) : ME := fun m h => (d m h).bind fun x h1 => if isD h1 x = true then (k m h1).bind fun y h2 => match dGet h2 x y with
  | some (some v) => .ok v h2
  | some none => .ok .non h2
  | none => .bad
  else .bad
theorem isD_ok {Z : Zt} {ρ : List Addr} {h : MH} {H : Hp} {x : MV} {v : V} (R : HR Z ρ h H) (r : RV Z ρ H x v) (e : isD h x = true) : ∃ a, v = .ref a ∧ IsD H a := by
  cases r with
  | @ref i a hi =>
    dsimp only [isD] at e
    cases g : h.get i with
    | none => rw [g] at e; cases e
    | some ob =>
      rw [g] at e
      cases ob with
      | dic kvs => obtain ⟨vs, h1, _⟩ := R.obj g hi; exact ⟨a, rfl, .inl ⟨vs, .inl h1⟩⟩
      | dit kvs => obtain ⟨vs, h1, _⟩ := R.obj g hi; exact ⟨a, rfl, .inr ⟨vs, .inl h1⟩⟩
      | fdi kvs => obtain ⟨od, vs, h1, _⟩ := R.obj g hi; exact ⟨a, rfl, .inl ⟨vs, .inr ⟨od, h1⟩⟩⟩
      | _ => cases e
  | _ => cases e
theorem je_dget (hu : X.A.units + 1 < cLine) (ho : JE X T E o go) (ha : JE X T E a ga) (m1 : M1 X o "get" apos a pos) : JE X T E (.Call (.Attribute o "get" apos) [a] [] pos) (gDget go ga) :=
  PE.le (pe_dget1 hu ho ha m1) fun σ H Q ⟨ρ, m, h, s, q⟩ => stepE s q fun ρ1 h1 H1 x v s1 e1 r1 q1 => by
    by_cases d : isD h1 x = true
    · rw [if_pos d] at q1
      obtain ⟨ad, rfl, hd⟩ := isD_ok s1.hr r1 d
      refine ⟨ad, rfl, hd, stepE s1 q1 fun ρ2 h2 H2 y w s2 e2 r2 q2 => ?_⟩
      cases k : dGet h2 x y with
      | none => rw [k] at q2; exact q2.elim
      | some oo =>
        rw [k] at q2
        obtain ⟨aa, o', ea, h3, h4⟩ := dGet_ok s2.hr (r1.ext e2) r2 k
        cases ea
        rcases h4 with ⟨rfl, rfl⟩ | ⟨z, u, rfl, rfl, h5⟩
        · exact ⟨none, h3, Post.ok (R := rV ⟨X.K, T⟩) (a := .non) q2 s2.hr .non⟩
        · exact ⟨some u, h3, Post.ok (R := rV ⟨X.K, T⟩) (a := z) q2 s2.hr h5⟩
    · rw [if_neg d] at q1; exact q1.elim
end
end MI
set_option Elab.async false
set_option linter.all false
set_option maxRecDepth 100000
set_option maxHeartbeats 4000000
namespace MI
open PySem PySem.Spec PyProof.Rows L2 JB
def allD (f : MV → Option PyData) : List MV → Option (List PyData)
  | [] => some []
  | x :: xs => match f x, allD f xs with
    | some d, some ds => some (d :: ds)
    | _, _ => none
/-- a value as data, to a depth -/
def toD (h : MH) : Nat → MV → Option PyData
  | 0, _ => none
  | n + 1, x => match x with
    | .non => some .none
    | .bl b => some (.bool b)
    | .int i => some (.int i)
    | .str s => some (.str ⟨s.toArray⟩)
    | .tup xs => (allD (toD h n) xs).map .tuple
    | .ktp xs => (allD (toD h n) xs).map .tuple
    | .fls xs => (allD (toD h n) xs).map .list
    | .ref i => match h.get i with
      | some (.lst xs) => (allD (toD h n) xs).map .list
      | _ => none
    | _ => none
section
variable {Z : Zt} {ρ : List Addr} {h : MH} {H : Hp}
theorem allD_ok {f : MV → Option PyData} (k : ∀ {x : MV} {v : V} {d : PyData}, RV Z ρ H x v → f x = some d → Dp Z.K H v d) : ∀ {xs : List MV} {vs : List V} {ds : List PyData}, RVs Z ρ H xs vs → allD f xs = some ds → DpAll Z.K H vs ds
  | _, _, ds, .nil, e => by cases e; exact .nil
  | _, _, ds, .cons (x := x) (xs := xs) a r, e => by
    dsimp only [allD] at e
    cases k1 : f x with
    | none => rw [k1] at e; cases e
    | some d =>
      cases k2 : allD f xs with
      | none => rw [k1, k2] at e; cases e
      | some ds' =>
        rw [k1, k2] at e
        cases e
        exact .cons (k a k1) (allD_ok k r k2)
theorem toD_ok (R : HR Z ρ h H) : ∀ (n : Nat) {x : MV} {v : V} {d : PyData}, RV Z ρ H x v → toD h n x = some d → Dp Z.K H v d
  | 0, _, _, _, _, e => by cases e
  | n + 1, _, _, d, r, e => by
    have ih := fun {x : MV} {v : V} {d : PyData} (r : RV Z ρ H x v) (e : toD h n x = some d) => toD_ok R n r e
    cases r with
    | non => cases e; exact .non
    | bl b => cases e; exact .bl b
    | int i => cases e; exact .int i
    | str s => cases e; exact .str _
    | tup h1 r1 =>
      obtain ⟨ds, e1, rfl⟩ := Option.map_eq_some_iff.mp (show (allD (toD h n) _).map PyData.tuple = some d from e)
      exact .tup (.inl (.inl h1)) (allD_ok ih r1 e1)
    | ktp h1 r1 =>
      obtain ⟨ds, e1, rfl⟩ := Option.map_eq_some_iff.mp (show (allD (toD h n) _).map PyData.tuple = some d from e)
      exact .tup (ktp_sq h1) (allD_ok ih r1 e1)
    | fls h1 r1 =>
      obtain ⟨ds, e1, rfl⟩ := Option.map_eq_some_iff.mp (show (allD (toD h n) _).map PyData.list = some d from e)
      exact .lst h1.sq (allD_ok ih r1 e1)
    | @ref i a hi =>
      dsimp only [toD] at e
      cases g : h.get i with
      | none => rw [g] at e; cases e
      | some ob =>
        rw [g] at e
        cases ob with
        | lst xs =>
          obtain ⟨vs, h1, h2⟩ := R.obj g hi
          obtain ⟨ds, e1, rfl⟩ := Option.map_eq_some_iff.mp (show (allD (toD h n) xs).map PyData.list = some d from e)
          exact .lst (.inl (.inl h1)) (allD_ok ih h2 e1)
        | _ => cases e
    | _ => cases e
end
def isRow : MV → Bool
  | .tup _ => true
  | .ktp _ => true
  | .fls _ => true
  | .ref _ => true
  | _ => false
def mRepr (x : MV) (h : MH) : Out MV := if isRow x = true then match toD h 61 x with
  | some d => if d.showable = true ∧ d.hasDict = false ∧ d.depth ≤ 60 ∧ d.shown.length ≤ 16777216 then .ok (.str d.shown.cps.toList) h else .bad
  | none => .bad
  else .bad
theorem mc_repr {Z : Zt} {E : XK} : CallM Z E (f1 mRepr) (rShow Z.K) := .one fun ρ h H x v Q R r q => by
  unfold mRepr at q
  by_cases c : isRow x = true
  · rw [if_pos c] at q
    cases k : toD h 61 x with
    | none => rw [k] at q; exact q.elim
    | some d =>
      rw [k] at q
      dsimp only at q
      by_cases z : d.showable = true ∧ d.hasDict = false ∧ d.depth ≤ 60 ∧ d.shown.length ≤ 16777216
      · rw [if_pos z] at q
        obtain ⟨a, rfl⟩ : ∃ a, v = .ref a := by cases r <;> first | exact ⟨_, rfl⟩ | cases c
        have fin : Q (.str ⟨d.shown.cps.toList.toArray⟩) H := Post.ok (R := rV Z) (a := .str d.shown.cps.toList) q R (.str _)
        exact ⟨a, d, rfl, toD_ok R 61 r k, z.1, z.2.1, z.2.2.1, by rw [sizeLine_eq]; exact z.2.2.2, by simpa using fin⟩
      · rw [if_neg z] at q; exact q.elim
  · rw [if_neg c] at q; exact q.elim
end MI
set_option Elab.async false
set_option linter.all false
set_option maxRecDepth 100000
set_option maxHeartbeats 4000000
namespace MI
open PySem PySem.Spec PyProof PyProof.Rows L2 JB PySem.AutoSeq1
theorem ext_tup (l : Addr) (items : Array Value) (n : Nat) (b : Addr) (o : Obj) (items2 : Array Value) (n2 : Nat) (hc : o.cls = .type "tuple") (hd : o.data = .seq items2 n2)
    (h0 : ¬(!items.isEmpty && Builtin.List.listTooLong (items.size + items2.size)) = true) (h1 : items.size ≤ sizeLine) (h2 : items.size + items2.size ≤ sizeLine + 1) :
    Meets (Builtin.«list.extend» ⟨[.ref l, .ref b], []⟩) (fun _ R s => s.heap.get? l = some { cls := .type "list", data := .seq items n } ∧ s.heap.get? b = some o ∧
      R (.ok (.ret Value.none)) { s with heap := s.heap.update l (Obj.mapSeq fun x => x ++ items2) }) :=
  .of_wp fun prog w A R s h => by
    obtain ⟨c, dc, dt, sl⟩ := o
    obtain rfl : c = .type "tuple" := hc
    obtain rfl : dt = .seq items2 n2 := hd
    obtain ⟨hp, g, d, tk, os⟩ := s
    obtain ⟨hl, hb, h⟩ := h
    have f1 := AutoSeq1.idx_int
    have f4 := AutoSeq1.sub_tuple_list
    have f2 := AutoSeq1.sub_tuple_tuple
    have f3 := AutoSeq1.sub_list_list
    have f5 := AutoSeq1.sub_list_tuple
    have hz' : (items ++ items2).size ≤ sizeLine + 1 := by rw [Array.size_append]; exact h2
    wp_walk using (wpAny_updateSeq hl rfl (hz := h1) (_hz' := hz')), wpAny_loadPart' hl, wpAny_loadPart' hb
    exact ⟨_, rfl, h⟩
def rExtT (K : PySem.W.Frag) : V → List V → Hp → VK → Prop := fun x vs H Q => ∃ l b xs zs, x = .ref l ∧ vs = [.ref b] ∧
  H l = some (.lst xs) ∧ SqT K H b zs ∧ xs.length + zs.length ≤ sizeLine ∧ Q .non (upd H l (.lst (xs ++ zs)))
section
variable {X : Cx}
theorem mt_extT : MtR X "list.extend" (rExtT X.K) := by
  intro pins s σ H x vs v us Q I rx rv h
  obtain ⟨l, b, xs, zs, rfl, rfl, hH, hB, hz, q⟩ := h
  cases rx
  obtain ⟨u, rfl, ru⟩ := rv.one
  cases ru
  obtain ⟨z, its, n, r, hl, e⟩ := I.lstM hH
  obtain ⟨its2, r2, ⟨ob, eb, cb, nb, db⟩, hz2⟩ := I.tuple hB
  have hl2 := r2.length
  have hsz : its.toArray.size + its2.toArray.size ≤ sizeLine := by
    rw [List.size_toArray, List.size_toArray, ← hl2, ← hl]; exact hz
  have hlong : ¬ (!its.toArray.isEmpty && Builtin.List.listTooLong (its.toArray.size + its2.toArray.size)) = true := by
    rw [notLongL hsz, Bool.and_false]
    exact Bool.false_ne_true
  refine call_meets F.slot_list_extend ⟨_, e, rfl⟩ F.entry_list_extend (F.args_list_extend_2 _ _)
    (ext_tup l its.toArray n b ob its2.toArray nb cb db hlong (by rw [List.size_toArray]; omega) (by omega)) ⟨e, eb, ?_⟩
  refine ⟨.non, _, I.lset (its' := its ++ its2) hH e (by simp) (r.append r2) ?_, rfl, q⟩
  rw [List.length_append]
  omega
end
def lExtR (x : MV) (o : Option (List MV)) (t : Bool) (h : MH) : Out MV := match x, o with
  | .ref i, some r => if t = true then .bad else match h.get i with
    | some (.lst l) => if l.length + r.length < 1000000 then .ok .non (h.set i (.lst (l ++ r))) else .bad
    | _ => .bad
  | _, _ => .bad
/-- extend by any row -/
def lExtA (x : MV) (xs : List MV) (h : MH) : Out MV := match xs with
  | [.ref j] => lExt x [.ref j] h
  | [y] => lExtR x (seqOf h y) (isL y) h
  | _ => .bad
theorem mm_extA {Z : Zt} {E : XK} : MethM Z E lExtA (fun x vs H Q => rExtend x vs H Q ∨ rExtT Z.K x vs H Q) := fun ρ h H x v xs vs Q R r rs q => by
  by_cases c : ∃ j, xs = [.ref j]
  · obtain ⟨j, rfl⟩ := c
    exact .inl (mm_ext ρ h H x v [.ref j] vs Q R r rs q)
  · cases rs with
    | nil => exact q.elim
    | @cons y w xs vs ry rs =>
      cases rs with
      | cons _ _ => cases ry <;> exact q.elim
      | nil =>
        have q' : Post Z (rV Z) ρ H Q E (lExtR x (seqOf h y) (isL y) h) := by
          cases y <;> first
            | exact absurd ⟨_, rfl⟩ c
            | exact q
        cases r with
        | @ref i a hi =>
          cases k : seqOf h y with
          | none => rw [k] at q'; exact q'.elim
          | some zs =>
            rw [k] at q'
            dsimp only [lExtR] at q'
            by_cases z : isL y = true
            · rw [if_pos z] at q'; exact q'.elim
            · rw [if_neg z] at q'
              obtain ⟨b, ws, rfl, r2, hq⟩ := seqOf_ok R ry k
              rw [if_neg z] at hq
              cases g : h.get i with
              | none => rw [g] at q'; exact q'.elim
              | some ob =>
                rw [g] at q'
                cases ob with
                | lst l =>
                  dsimp only at q'
                  obtain ⟨ls, h1, h2⟩ := R.obj g hi
                  by_cases y2 : l.length + zs.length < 1000000
                  · rw [if_pos y2] at q'
                    have x1 : Ext ρ H ρ (upd H a (.lst (ls ++ ws))) := R.grow g hi _
                    exact .inr ⟨a, b, ls, ws, rfl, rfl, h1, hq, by rw [← h2.length, ← r2.length, sizeLine_eq]; omega, q' ρ _ .non x1 (R.set g hi ⟨_, upd_same, (RVs.app r2 h2).ext x1⟩) .non⟩
                  · rw [if_neg y2] at q'; exact q'.elim
                | _ => exact q'.elim
        | _ => exact q'.elim
end MI
set_option Elab.async false
set_option linter.all false
set_option maxRecDepth 100000
set_option maxHeartbeats 4000000
namespace MI
open PySem PySem.Spec PyProof.Rows L2 JB
def allEq (f : PyData → PyData → Bool) : List PyData → List PyData → Bool
  | [], [] => true
  | a :: l, b :: r => f a b && allEq f l r
  | _, _ => false
def dEq : Nat → PyData → PyData → Bool
  | 0, _, _ => false
  | n + 1, a, b => match a, b with
    | .none, .none => true
    | .bool x, .bool y => x == y
    | .int x, .int y => decide (x = y)
    | .str x, .str y => leq x.cps.toList y.cps.toList
    | .list xs, .list ys => allEq (dEq n) xs ys
    | .tuple xs, .tuple ys => allEq (dEq n) xs ys
    | _, _ => false
theorem allEq_eq {f : PyData → PyData → Bool} (k : ∀ {a b}, f a b = true → a = b) : ∀ {l r : List PyData}, allEq f l r = true → l = r
  | [], [], _ => rfl
  | a :: l, b :: r, e => by
    simp only [allEq, Bool.and_eq_true] at e
    rw [k e.1, allEq_eq k e.2]
  | [], _ :: _, e => by cases e
  | _ :: _, [], e => by cases e
theorem dEq_eq : ∀ (n : Nat) {a b : PyData}, dEq n a b = true → a = b
  | 0, _, _, e => by cases e
  | n + 1, a, b, e => by
    have ih := fun {a b : PyData} (e : dEq n a b = true) => dEq_eq n e
    cases a <;> cases b <;> first
      | rfl
      | (cases e; done)
      | (rename_i x y; exact congrArg _ (by simpa [dEq] using e))
      | (rename_i x y
         have e' := leq_iff.mp (show leq x.cps.toList y.cps.toList = true from e)
         obtain ⟨x⟩ := x
         obtain ⟨y⟩ := y
         have : x = y := by simpa using e'
         rw [this])
      | (rename_i x y; exact congrArg _ (allEq_eq ih e))
/-- data whose text is surely short enough -/
def dOk (d : PyData) : Bool := d.showable && !d.hasDict && decide (d.depth ≤ 60) && d.leavesShort 13 && decide (d.bulk ≤ 1048576)
def gSame (g1 g2 : ME) : ME := fun m h => (g1 m h).bind fun x h1 => if isRow x = true then match toD h1 61 x with
    | some d => if dOk d = true then (g2 m h1).bind fun y h2 => if isRow y = true then match toD h2 61 y with
        | some e => if dOk e = true ∧ dEq 61 d e = true then .ok (.bl true) h2 else .bad
        | none => .bad
      else .bad
      else .bad
    | none => .bad
  else .bad
section
variable {P : Program} {w : World} {K : PySem.W.Frag} {mg : Str → Option Value} {base : Heap} {T : Nat → Addr}
theorem row_ref {Z : Zt} {ρ : List Addr} {H : Hp} {x : MV} {v : V} (r : RV Z ρ H x v) (c : isRow x = true) : ∃ a, v = .ref a := by cases r <;> first | exact ⟨_, rfl⟩ | cases c
theorem fine_of {d : PyData} (h : dOk d = true) : d.showable = true ∧ d.hasDict = false ∧ d.depth ≤ 60 ∧ d.shown.length ≤ sizeLine := by
  simp only [dOk, Bool.and_eq_true, Bool.not_eq_true', decide_eq_true_eq] at h
  obtain ⟨⟨⟨⟨h1, h2⟩, h3⟩, h4⟩, h5⟩ := h
  exact ⟨h1, h2, h3, PyData.shown_fits_bulk (by decide) (by decide) h4 h5⟩
/-- repr(x) == repr(y), where it is so -/
theorem je_same {X : Cx} {E : XK} {e1 e2 : Expr} {p1 p2 q1 q2 c1 : Pos} {g1 g2 : ME} (hs : JB.Still X.A) (hu : X.A.units + 64 < cLine) (hg : Gl X "repr") (hm : X.mg "repr" = none)
    (ha : JE X T E e1 g1) (hb : JE X T E e2 g2) (h1 : starEach [e1] X.env = (false, eval e1 X.env) :: starEach [] X.env := by rfl) (h2 : starEach [e2] X.env = (false, eval e2 X.env) :: starEach [] X.env := by rfl)
    (k1 : (backTo p2 (starEach ([] : List Expr) X.env)).any (·.1) = false := by rfl) (k2 : (backTo q2 (starEach ([] : List Expr) X.env)).any (·.1) = false := by rfl)
    (hbm : behindInMarks .Eq (.Call (.Name "repr" q1) [e2] [] q2) = false := by rfl) :
    JE X T E (.Compare (.Call (.Name "repr" p1) [e1] [] p2) [.Eq] [.Call (.Name "repr" q1) [e2] [] q2] c1) (gSame g1 g2) :=
  PE.le (pe_cmpR op_eq (pe_callB (call_show hs hu) hg hm (by decide +kernel) (pa_cons ha pa_nil h1) (by decide) (by decide) h1 k1) (pe_callB (call_show hs hu) hg hm (by decide +kernel) (pa_cons hb pa_nil h2) (by decide) (by decide) h2 k2) hbm)
    fun σ H Q ⟨ρ, m, h, s, q⟩ => stepE s q fun ρ1 h1 H1 x v s1 e1 r1 q1 => by
      by_cases c : isRow x = true
      · rw [if_pos c] at q1
        cases t : toD h1 61 x with
        | none => rw [t] at q1; exact q1.elim
        | some d =>
          rw [t] at q1
          dsimp only at q1
          by_cases o : dOk d = true
          · rw [if_pos o] at q1
            obtain ⟨a, rfl⟩ := row_ref r1 c
            obtain ⟨f1, f2, f3, f4⟩ := fine_of o
            refine ⟨a, d, rfl, toD_ok s1.hr 61 r1 t, f1, f2, f3, f4, stepE s1 q1 fun ρ2 h2 H2 y w s2 e2 r2 q2 => ?_⟩
            by_cases c2 : isRow y = true
            · rw [if_pos c2] at q2
              cases t2 : toD h2 61 y with
              | none => rw [t2] at q2; exact q2.elim
              | some e =>
                rw [t2] at q2
                dsimp only at q2
                by_cases o2 : dOk e = true ∧ dEq 61 d e = true
                · rw [if_pos o2] at q2
                  obtain ⟨b, rfl⟩ := row_ref r2 c2
                  obtain ⟨i1, i2, i3, i4⟩ := fine_of o2.1
                  have de := dEq_eq 61 o2.2
                  refine ⟨b, e, rfl, toD_ok s2.hr 61 r2 t2, i1, i2, i3, i4, rfl, ?_⟩
                  rw [decide_eq_true (by rw [de])]
                  exact q2.ok s2.hr (.bl true)
                · rw [if_neg o2] at q2; exact q2.elim
            · rw [if_neg c2] at q2; exact q2.elim
          · rw [if_neg o] at q1; exact q1.elim
      · rw [if_neg c] at q1; exact q1.elim
end
end MI
set_option Elab.async false
set_option linter.all false
set_option maxRecDepth 100000
set_option maxHeartbeats 4000000
namespace MI
open PySem PySem.Spec PyProof.Rows L2 JB
def strsOf : List MV → Option (List (List Nat))
  | [] => some []
  | .str s :: r => (strsOf r).map fun l => s :: l
  | _ => none
def S1 (l : List Nat) : Str := ⟨l.toArray⟩
theorem strs_ok {Z : Zt} {ρ : List Addr} {H : Hp} : ∀ {xs : List MV} {vs : List V} {l : List (List Nat)}, RVs Z ρ H xs vs → strsOf xs = some l → vs = (l.map S1).map V.str
  | _, _, l, .nil, e => by cases e; rfl
  | _, _, l, .cons (x := x) (xs := xs) a r, e => by
    cases a with
    | str s =>
      obtain ⟨l', e1, rfl⟩ := Option.map_eq_some_iff.mp (show (strsOf xs).map (fun l => s :: l) = some l from e)
      rw [strs_ok r e1]; rfl
    | _ => cases e
def sumLen : List (List Nat) → Nat
  | [] => 0
  | x :: r => x.length + sumLen r
theorem sumLen_ok : ∀ l : List (List Nat), ((l.map S1).map (·.length)).sum = sumLen l
  | [] => rfl
  | x :: r => by
    rw [List.map_cons, List.map_cons, List.sum_cons, sumLen_ok r]
    show x.toArray.size + _ = _
    simp [sumLen]
theorem join_ok (a : List Nat) (l : List (List Nat)) : Txt.join (S1 a) (l.map S1) = S1 (TL.joinL a l) := by
  have h := TL.tl_join (S1 a) (l.map S1)
  have e : (l.map S1).map TL.tl = l := by
    rw [List.map_map]
    conv => rhs; rw [← List.map_id l]
    apply List.map_congr_left
    intro x _
    rfl
  rw [e] at h
  have t : Txt.join (S1 a) (l.map S1) = Str.join (S1 a) (l.map S1) := eq_of_beq (join_closes rfl)
  rw [t]
  have h' : (Str.join (S1 a) (l.map S1)).cps.toList = TL.joinL a l := h
  show _ = Str.mk _
  rw [← h']
def mJoin (x : MV) (xs : List MV) (h : MH) : Out MV := match x, xs with
  | .str a, [y] => match (seqOf h y).bind strsOf with
    | some l => if sumLen l + l.length * a.length ≤ 1000000 then .ok (.str (TL.joinL a l)) h else .bad
    | none => .bad
  | _, _ => .bad
theorem mm_join {Z : Zt} {E : XK} : MethM Z E mJoin (fun x xs H Q => ∃ a p, ∃ ys : List Str, x = .str a ∧ xs = [.ref p] ∧ (SqL Z.K H p (ys.map V.str) ∨ SqT Z.K H p (ys.map V.str)) ∧
    (ys.map (·.length)).sum + ys.length * a.length ≤ 16777216 ∧ Q (.str (Txt.join a ys)) H) := fun ρ h H x v xs vs Q R r rs q => by
  cases r with
  | str a =>
    cases rs with
    | nil => exact q.elim
    | @cons y w xs vs ry rs =>
      cases rs with
      | cons _ _ => exact q.elim
      | nil =>
        have q' : Post Z (rV Z) ρ H Q E (match (seqOf h y).bind strsOf with
          | some l => if sumLen l + l.length * a.length ≤ 1000000 then .ok (.str (TL.joinL a l)) h else .bad
          | none => .bad) := q
        cases k : seqOf h y with
        | none => rw [k] at q'; exact q'.elim
        | some zs =>
          rw [k] at q'
          dsimp only [Option.bind] at q'
          cases k2 : strsOf zs with
          | none => rw [k2] at q'; exact q'.elim
          | some l =>
            rw [k2] at q'
            dsimp only at q'
            obtain ⟨b, ws, rfl, r2, hq⟩ := seqOf_or R ry k
            have hw := strs_ok r2 k2
            subst hw
            by_cases z : sumLen l + l.length * a.length ≤ 1000000
            · rw [if_pos z] at q'
              refine ⟨S1 a, b, l.map S1, rfl, rfl, hq, ?_, ?_⟩
              · rw [sumLen_ok, List.length_map]
                show _ + l.length * a.toArray.size ≤ _
                rw [List.size_toArray]; omega
              · rw [join_ok]
                exact q'.ok R (.str _)
            · rw [if_neg z] at q'; exact q'.elim
  | _ => exact q.elim
end MI
set_option Elab.async false
set_option linter.all false
set_option maxRecDepth 100000
set_option maxHeartbeats 4000000
namespace MI
open PySem PySem.Spec PyProof.Rows L2 JB
def gBadE : ME := fun _ _ => .bad
def gBadA : MA := fun _ _ => .bad
def gBadT : MT := fun _ _ => .bad
def gBadS : MS := fun _ _ => .bad
section
variable {X : Cx} {T : Nat → Addr} {E : XK} {e : Expr} {es : List Expr} {st : Stmt}
theorem je_bad : JE X T E e gBadE := ⟨fun pins s σ H Q I ⟨ρ, m, h, _, q⟩ => q.elim⟩
theorem ja_bad : JA X T E es gBadA := ⟨fun po pins s σ H Q I ⟨ρ, m, h, _, q⟩ => q.elim⟩
theorem jt_bad : JT X T E e gBadT := ⟨fun pins s σ H Q I ⟨ρ, m, h, _, q⟩ => q.elim⟩
theorem js_bad : JS X T E st gBadS := ⟨fun pins s σ H D I ⟨ρ, m, h, _, q⟩ => q.elim⟩
end
mutual
def noRef : MV → Bool
  | .ref _ => false
  | .tup xs => noRefs xs
  | .ktp xs => noRefs xs
  | .fls xs => noRefs xs
  | _ => true
def noRefs : List MV → Bool
  | [] => true
  | x :: xs => noRef x && noRefs xs
end
mutual
theorem RV.move {Z : Zt} {ρ ρ' : List Addr} {H : Hp} {x : MV} {v : V} : RV Z ρ H x v → noRef x = true → RV Z ρ' H x v
  | .non, _ => .non
  | .bl b, _ => .bl b
  | .int n, _ => .int n
  | .str s, _ => .str s
  | .ty s, _ => .ty s
  | .adr a, _ => .adr a
  | .ref h, c => nomatch c
  | .tup h r, c => .tup h (RVs.move r c)
  | .ktp h r, c => .ktp h (RVs.move r c)
  | .fls h r, c => .fls h (RVs.move r c)
theorem RVs.move {Z : Zt} {ρ ρ' : List Addr} {H : Hp} {x : List MV} {v : List V} : RVs Z ρ H x v → noRefs x = true → RVs Z ρ' H x v
  | .nil, _ => .nil
  | .cons a r, c => by
    have c' := Bool.and_eq_true_iff.mp (show (noRef _ && noRefs _) = true from c)
    exact .cons (RV.move a c'.1) (RVs.move r c'.2)
end
section
variable {Z : Zt} {ρ ρ' : List Addr} {h : MH} {H H' : Hp}
theorem HR.nil : HR Z [] .empty H := ⟨List.nodup_nil, rfl, fun i o e => (by rw [MH.get_none (h := MH.empty) (Nat.zero_le _)] at e; cases e), fun i hi => absurd hi (Nat.not_lt_zero i)⟩
theorem Ext.frame (e : Ext [] H ρ' H') : Ext ρ H ρ H' := ⟨⟨[], by simp⟩, fun a o q _ => e.hold a o q (.inr (by simp)), e.mono⟩
theorem HR.frame (R : HR Z ρ h H) (e : Ext [] H ρ' H') : HR Z ρ h H' :=
  ⟨R.nodup, R.len, fun i o q => by
    obtain ⟨a, h1, h2⟩ := R.all i o q
    obtain ⟨u, hu⟩ := h2.some
    exact ⟨a, h1, h2.ext (Ext.frame e) (by rw [hu]; exact e.hold a u hu (.inr (by simp)))⟩, R.has⟩
/-- what a call on an empty heap gives, if neither it nor what it gives holds anything -/
def clo (g : MF) (as : List MV) (h : MH) : Out MV := if noRefs as = true then match g as .empty with
  | .ok v _ => if noRef v = true then .ok v h else .bad
  | _ => .bad else .bad
theorem clo_post {g : MF} {Q : VK} {E : XK} {as : List MV} {vs : List V} (R : HR Z ρ h H) (a : RVs Z ρ H as vs) (p : Post Z (rV Z) ρ H Q E (clo g as h)) : Post Z (rV Z) [] H Q E (g as .empty) := by
  unfold clo at p
  by_cases c : noRefs as = true
  · rw [if_pos c] at p
    generalize g as .empty = o at p ⊢
    cases o with
    | bad => exact p
    | er _ _ => exact p.elim
    | ok v h' =>
      intro ρ' H' b e r q
      dsimp only at p
      by_cases c2 : noRef v = true
      · rw [if_pos c2] at p
        exact p ρ H' b (Ext.frame e) (R.frame e) (q.move c2)
      · rw [if_neg c2] at p; exact p.elim
  · rw [if_neg c] at p; exact p.elim
theorem spM_clo {n : Nat} {g : MF} {vs : List V} {Q : VK} {E : XK} (p : spM Z n (clo g) vs H Q E) : spM Z n g vs H Q E := by
  obtain ⟨ρ, h, as, r, a, l, q⟩ := p
  by_cases c : noRefs as = true
  · exact ⟨[], .empty, as, HR.nil, a.move c, l, clo_post r a q⟩
  · unfold clo at q
    rw [if_neg c] at q
    exact q.elim
end
section
variable {P : Program} {w : World} {K : PySem.W.Frag} {mg : Str → Option Value} {base : Heap} {T : Nat → Addr} {k : Nat} {f : Addr}
theorem FM.clo {n : Nat} {dm : List MV} {g : MF} (F : FM P w K mg base T k f n dm g) : FM P w K mg base T k f n dm (MI.clo g) := by
  obtain ⟨fd, ps, ds, dvs, h0, h1, h2⟩ := F.ex
  exact ⟨fd, ps, ds, dvs, h0, h1.less fun _ _ _ _ p => spM_clo p, h2⟩
/-- one mirror for another that says no more -/
def Sub (g' g : MF) : Prop := ∀ as h, g' as h = .bad ∨ g' as h = g as h
theorem FM.less {n : Nat} {dm : List MV} {g g' : MF} (F : FM P w K mg base T k f n dm g) (s : Sub g' g) : FM P w K mg base T k f n dm g' := by
  obtain ⟨fd, ps, ds, dvs, h0, h1, h2⟩ := F.ex
  refine ⟨fd, ps, ds, dvs, h0, h1.less fun vs H Q E ⟨ρ, h, as, r, a, l, q⟩ => ⟨ρ, h, as, r, a, l, ?_⟩, h2⟩
  rcases s as h with e | e
  · rw [e] at q; exact q.elim
  · rw [e] at q; exact q
end
end MI
set_option Elab.async false
set_option linter.all false
set_option maxRecDepth 100000
set_option maxHeartbeats 4000000
namespace MI
open PySem PySem.Spec PyProof.Rows L2 JB
def itoaN (n : Nat) : List Nat := (Nat.toDigits 10 n).map Char.toNat
def itoa : Int → List Nat
  | .ofNat n => itoaN n
  | .negSucc n => 45 :: itoaN (n + 1)
theorem ofS (s : String) : Str.ofString s = ⟨(s.toList.map Char.toNat).toArray⟩ := by
  rw [Str.ofString_eq_byList]; rfl
theorem itoa_ok (i : Int) : Str.ofString (toString i) = ⟨(itoa i).toArray⟩ := by
  rw [ofS]
  cases i with
  | ofNat n =>
    show Str.mk ((toString n).toList.map Char.toNat).toArray = _
    have : (toString n).toList = Nat.toDigits 10 n := by
      show (Nat.repr n).toList = _
      unfold Nat.repr
      simp
    rw [this]; rfl
  | negSucc n =>
    show Str.mk (("-" ++ toString (n + 1)).toList.map Char.toNat).toArray = _
    have : (toString (n + 1)).toList = Nat.toDigits 10 (n + 1) := by
      show (Nat.repr (n + 1)).toList = _
      unfold Nat.repr
      simp
    rw [String.toList_append, this]; rfl
def iSmall (i : Int) : Bool := decide (i.natAbs < 1606938044258990275541962092341162602522202993782792835301376)
theorem iSmall_ok {i : Int} (h : iSmall i = true) : i.natAbs.log2 < 1920 := by
  have h' : i.natAbs < 2 ^ 200 := by
    have := of_decide_eq_true h
    have e : (2 : Nat) ^ 200 = 1606938044258990275541962092341162602522202993782792835301376 := by decide
    omega
  by_cases z : i.natAbs = 0
  · rw [z]; decide
  · exact Nat.lt_trans ((Nat.log2_lt z).mpr h') (by decide)
/-- {x} in a written text -/
def mFmt (x : MV) (h : MH) : Out MV := match x with
  | .str s => if s.length ≤ 1000000 then .ok (.str s) h else .bad
  | .int i => if iSmall i = true then .ok (.str (itoa i)) h else .bad
  | _ => .bad
/-- str(x) -/
def mStr (x : MV) (h : MH) : Out MV := match x with
  | .int i => if iSmall i = true then .ok (.str (itoa i)) h else .bad
  | _ => .bad
def gFs : List ME → List Nat → ME
  | [], acc, _, h => .ok (.str acc) h
  | g :: gs, acc, m, h => (g m h).bind fun x h1 => match x with
    | .str s => if acc.length + s.length ≤ 1000000 then gFs gs (acc ++ s) m h1 else .bad
    | _ => .bad
section
variable {X : Cx} {T : Nat → Addr} {E : XK} {e a b : Expr} {es : List Expr} {ga gb : ME} {gr : MA} {pos : Pos}
theorem je_fmt (ha : JE X T E e ga) : JE X T E (.FormattedValue e (-1) none pos) (gUn mFmt ga) :=
  PE.le (pe_fmt ha) fun σ H Q ⟨ρ, m, h, s, q⟩ => stepE s q fun ρ1 h1 H1 x v s1 e1 r1 q1 => by
    cases r1 with
    | str z =>
      have q' : Post ⟨X.K, T⟩ (rV ⟨X.K, T⟩) ρ1 H1 Q E (if z.length ≤ 1000000 then .ok (.str z) h1 else .bad) := q1
      by_cases c : z.length ≤ 1000000
      · rw [if_pos c] at q'
        exact .inl ⟨_, rfl, by show z.toArray.size ≤ sizeLine; rw [sizeLine_eq]; simp; omega, q'.ok s1.hr (.str z)⟩
      · rw [if_neg c] at q'; exact q'.elim
    | int i =>
      have q' : Post ⟨X.K, T⟩ (rV ⟨X.K, T⟩) ρ1 H1 Q E (if iSmall i = true then .ok (.str (itoa i)) h1 else .bad) := q1
      by_cases c : iSmall i = true
      · rw [if_pos c] at q'
        exact .inr ⟨i, rfl, iSmall_ok c, by rw [itoa_ok]; exact q'.ok s1.hr (.str _)⟩
      · rw [if_neg c] at q'; exact q'.elim
    | _ => exact q1.elim
theorem mc_str {Z : Zt} : CallM Z E (f1 mStr) (fun xs H Q => ∃ i, xs = [.int i] ∧ i.natAbs.log2 < 1920 ∧ Q (.str (toString i)) H) := .one fun ρ h H x v Q R r q => by
  cases r with
  | int i =>
    have q' : Post Z (rV Z) ρ H Q E (if iSmall i = true then .ok (.str (itoa i)) h else .bad) := q
    by_cases c : iSmall i = true
    · rw [if_pos c] at q'
      exact ⟨i, rfl, iSmall_ok c, by rw [itoa_ok]; exact q'.ok R (.str _)⟩
    · rw [if_neg c] at q'; exact q'.elim
  | _ => exact q.elim
theorem fs_ok {Z : Zt} : ∀ (gs : List ME) (acc : List Nat) {ρ : List Addr} {m : ML} {h : MH} {σ : L2.St} {H : Hp} {Q : VK}, SR Z ρ m h σ H → Post Z (rV Z) ρ H Q E (gFs gs acc m h) →
    tJs (gs.map (tE Z E)) ⟨acc.toArray⟩ σ H fun out H1 => Q (.str out) H1
  | [], acc, ρ, m, h, σ, H, Q, s, q => Post.ok (R := rV Z) (a := .str acc) q s.hr (.str acc)
  | g :: gs, acc, ρ, m, h, σ, H, Q, s, q => by
    have q' : Post Z (rV Z) ρ H Q E ((g m h).bind fun x h1 => match x with
      | .str s => if acc.length + s.length ≤ 1000000 then gFs gs (acc ++ s) m h1 else .bad
      | _ => .bad) := q
    refine stepE s q' fun ρ1 h1 H1 x v s1 e1 r1 q1 => ?_
    cases r1 with
    | str z =>
      have q2 : Post Z (rV Z) ρ1 H1 Q E (if acc.length + z.length ≤ 1000000 then gFs gs (acc ++ z) m h1 else .bad) := q1
      by_cases c : acc.length + z.length ≤ 1000000
      · rw [if_pos c] at q2
        refine ⟨_, rfl, ?_, ?_⟩
        · rw [str_app]
          show (acc ++ z).toArray.size ≤ sizeLine
          rw [sizeLine_eq]; simp; omega
        · rw [str_app]
          exact fs_ok gs (acc ++ z) s1 q2
      · rw [if_neg c] at q2; exact q2.elim
    | _ => exact q1.elim
theorem je_fs {v1 v2 : Expr} {rest : List Expr} {gs : List ME} (h : PJ X (v1 :: v2 :: rest) (gs.map (tE ⟨X.K, T⟩ E))) : JE X T E (.JoinedStr (v1 :: v2 :: rest) pos) (gFs gs []) :=
  PE.le (pe_joined h) fun σ H Q ⟨ρ, m, h, s, q⟩ => fs_ok gs [] s q
theorem je_fs1 (ha : JE X T E e ga) : JE X T E (.JoinedStr [e] pos) ga := pe_joined1 ha
def gStar (a : ME) (r : MA) : MA := fun m h => (a m h).bind fun x h1 => match seqOf h1 x with
  | some xs => (r m h1).bind fun ys h2 => .ok (xs ++ ys) h2
  | none => .bad
theorem ja_star {p : Pos} (ha : JE X T E e ga) (hr : JA X T E es gr) (hs : starEach (.Starred e p :: es) X.env = (true, eval e X.env) :: starEach es X.env := by rfl) : JA X T E (.Starred e p :: es) (gStar ga gr) :=
  PA.le (StX.pa_star ha hr hs) fun σ H Q ⟨ρ, m, h, s, q⟩ => stepE s q fun ρ1 h1 H1 x v s1 e1 r1 q1 => by
    cases k : seqOf h1 x with
    | none => rw [k] at q1; exact q1.elim
    | some xs =>
      rw [k] at q1
      obtain ⟨a, vs, rfl, r2, hq⟩ := seqOf_or s1.hr r1 k
      exact ⟨a, vs, rfl, hq.symm, stepA s1 q1 fun ρ2 h2 H2 ys ws s2 e2 r3 q2 => Post.ok (R := rVs ⟨X.K, T⟩) (a := xs ++ ys) q2 s2.hr (RVs.app r3 (r2.ext e2))⟩
def reps {α : Type} (xs : List α) : Nat → List α
  | 0 => []
  | n + 1 => xs ++ reps xs n
theorem reps_eq {α : Type} (xs : List α) : ∀ n, (List.replicate n xs).flatten = reps xs n
  | 0 => rfl
  | n + 1 => by rw [List.replicate_succ, List.flatten_cons, reps_eq xs n]; rfl
theorem RVs.reps {Z : Zt} {ρ : List Addr} {H : Hp} {xs : List MV} {vs : List V} (r : RVs Z ρ H xs vs) : ∀ n, RVs Z ρ H (reps xs n) (reps vs n)
  | 0 => .nil
  | n + 1 => RVs.app (r.reps n) r
def mRepL (x y : MV) (h : MH) : Out MV := match x, y with
  | .ref i, .int k => match h.get i with
    | some (.lst xs) => if k ≤ 10000 ∧ -10000 ≤ k ∧ xs.length ≤ 100 then .ok (.ref h.n) (h.push (.lst (reps xs k.toNat))) else .bad
    | _ => .bad
  | _, _ => .bad
theorem om_repL {Z : Zt} : OpM Z E mRepL rRep := fun ρ h H x y v w Q R r q p => by
  cases r with
  | @ref i a hi =>
    cases q with
    | int k =>
      have p' : Post Z (rV Z) ρ H Q E (match h.get i with
        | some (.lst xs) => if k ≤ 10000 ∧ -10000 ≤ k ∧ xs.length ≤ 100 then .ok (.ref h.n) (h.push (.lst (reps xs k.toNat))) else .bad
        | _ => .bad) := p
      cases g : h.get i with
      | none => rw [g] at p'; exact p'.elim
      | some ob =>
        rw [g] at p'
        cases ob with
        | lst xs =>
          dsimp only at p'
          obtain ⟨vs, h1, h2⟩ := R.obj g hi
          by_cases c : k ≤ 10000 ∧ -10000 ≤ k ∧ xs.length ≤ 100
          · rw [if_pos c] at p'
            refine ⟨a, k, vs, rfl, rfl, h1, by omega, by omega, ?_, fun pp hp => ?_⟩
            · rw [← h2.length, sizeLine_eq]
              have : xs.length * k.toNat ≤ 100 * 10000 := Nat.mul_le_mul c.2.2 (by omega)
              omega
            · rw [reps_eq]
              exact p' (ρ ++ [pp]) _ _ (Ext.push hp) (R.push hp ⟨_, upd_same, (h2.ext (Ext.push hp)).reps _⟩) (.ref (by rw [← R.len]; simp))
          · rw [if_neg c] at p'; exact p'.elim
        | _ => exact p'.elim
    | _ => exact p.elim
  | _ => exact p.elim
/-- a * b -/
def isRep : MV → Bool
  | .ref _ => true
  | _ => false
def mMulV (x y : MV) (h : MH) : Out MV := if isRep x = true then mRepL x y h else mMul x y h
theorem je_mulV (ha : JE X T E a ga) (hb : JE X T E b gb) : JE X T E (.BinOp a .Mult b pos) (gBin mMulV ga gb) :=
  je_bin_or (je_op op_rep om_repL ha hb) (je_mul ha hb) fun x y h => by
    unfold mMulV
    split
    · exact .inl rfl
    · exact .inr rfl
def ins1 (x : Int) : List Int → List Int
  | [] => [x]
  | y :: l => if x ≤ y then x :: y :: l else y :: ins1 x l
def isort : List Int → List Int
  | [] => []
  | x :: l => ins1 x (isort l)
theorem ins1_perm (x : Int) : ∀ l, (ins1 x l).Perm (x :: l)
  | [] => .refl _
  | y :: l => by
    unfold ins1
    split
    · exact .refl _
    · exact ((ins1_perm x l).cons y).trans (.swap x y l)
theorem isort_perm : ∀ l, (isort l).Perm l
  | [] => .refl _
  | x :: l => (ins1_perm x (isort l)).trans ((isort_perm l).cons x)
theorem ins1_mem {x z : Int} {l : List Int} (h : z ∈ ins1 x l) : z = x ∨ z ∈ l := by
  have := (ins1_perm x l).mem_iff.mp h
  simpa using this
theorem ins1_pw (x : Int) : ∀ l : List Int, l.Pairwise (· ≤ ·) → (ins1 x l).Pairwise (· ≤ ·)
  | [], _ => by simp [ins1]
  | y :: l, h => by
    obtain ⟨h1, h2⟩ := List.pairwise_cons.mp h
    unfold ins1
    split
    · rename_i c
      refine List.pairwise_cons.mpr ⟨fun z hz => ?_, h⟩
      rcases List.mem_cons.mp hz with rfl | hz
      · exact c
      · exact Int.le_trans c (h1 z hz)
    · rename_i c
      refine List.pairwise_cons.mpr ⟨fun z hz => ?_, ins1_pw x l h2⟩
      rcases ins1_mem hz with rfl | hz
      · omega
      · exact h1 z hz
theorem isort_pw : ∀ l : List Int, (isort l).Pairwise (· ≤ ·)
  | [] => List.Pairwise.nil
  | x :: l => ins1_pw x _ (isort_pw l)
theorem isort_uniq {ys ks : List Int} (p : ys.Perm ks) (s : ys.Pairwise (· ≤ ·)) : ys = isort ks := PySem.W.ksm_same (p.trans (isort_perm ks).symm) s (isort_pw ks)
def intsOf : List MV → Option (List Int)
  | [] => some []
  | .int i :: r => (intsOf r).map fun l => i :: l
  | _ => none
theorem intsOf_ok {Z : Zt} {ρ : List Addr} {H : Hp} : ∀ {xs : List MV} {vs : List V} {l : List Int}, RVs Z ρ H xs vs → intsOf xs = some l → vs = l.map V.int
  | _, _, l, .nil, e => by cases e; rfl
  | _, _, l, .cons (x := x) (xs := xs) a r, e => by
    cases a with
    | int i =>
      obtain ⟨l', e1, rfl⟩ := Option.map_eq_some_iff.mp (show (intsOf xs).map (fun l => i :: l) = some l from e)
      rw [intsOf_ok r e1]; rfl
    | _ => cases e
theorem RVs.ints {Z : Zt} {ρ : List Addr} {H : Hp} : ∀ l : List Int, RVs Z ρ H (l.map MV.int) (l.map V.int)
  | [] => .nil
  | i :: l => .cons (.int i) (RVs.ints l)
def keysOf : List (MK × MV) → Option (List Int)
  | [] => some []
  | (.inl i, _) :: r => (keysOf r).map fun l => i :: l
  | _ => none
theorem keysOf_ok {Z : Zt} {ρ : List Addr} {H : Hp} {xs : List (MK × MV)} {vs : List (Key × V)} (r : RKs kOf Z ρ H xs vs) : ∀ {l : List Int}, keysOf xs = some l → vs.map (·.1) = l.map Sum.inl := by
  induction r with
  | nil => intro l e; cases e; rfl
  | @cons k x v xs vs a r ih =>
    intro l e
    cases k with
    | inl i =>
      obtain ⟨l', e1, rfl⟩ := Option.map_eq_some_iff.mp (show (keysOf xs).map (fun l => i :: l) = some l from e)
      rw [List.map_cons, ih e1]; rfl
    | inr s => cases e
def mSorted (x : MV) (h : MH) : Out MV := match x with
  | .ref i => match h.get i with
    | some (.lst xs) => match intsOf xs with
      | some l => .ok (.ref h.n) (h.push (.lst ((isort l).map MV.int)))
      | none => .bad
    | some (.dic kvs) => match keysOf kvs with
      | some l => if l.length < 64 then .ok (.ref h.n) (h.push (.lst ((isort l).map MV.int))) else .bad
      | none => .bad
    | _ => .bad
  | _ => .bad
abbrev rSortM (K : PySem.W.Frag) : List V → Hp → VK → Prop := fun xs H Q => rSortedI K xs H Q ∨ ∃ (a : Addr) (kvs : List (Key × V)) (ks : List Int), xs = [.ref a] ∧ Rd H a (.dK kvs) ∧ kvs.map (·.1) = ks.map Sum.inl ∧ ks.length < 64 ∧
    ∀ (ys : List Int) (p : Addr), ys.Perm ks → ys.Pairwise (· ≤ ·) → H p = none → Q (.ref p) (upd H p (.lst (ys.map V.int)))
theorem call_sortM (hc : X.calm = true) : CallR X (.builtin "sorted") (rSortM X.K) := CallR.or cr_sortedI (call_sortedDI hc)
theorem mc_sorted {Z : Zt} : CallM Z E (f1 mSorted) (rSortM Z.K) := .one fun ρ h H x v Q R r q => by
  cases r with
  | @ref i a hi =>
    have q' : Post Z (rV Z) ρ H Q E (match h.get i with
      | some (.lst xs) => match intsOf xs with
        | some l => .ok (.ref h.n) (h.push (.lst ((isort l).map MV.int)))
        | none => .bad
      | some (.dic kvs) => match keysOf kvs with
        | some l => if l.length < 64 then .ok (.ref h.n) (h.push (.lst ((isort l).map MV.int))) else .bad
        | none => .bad
      | _ => .bad) := q
    have fin : ∀ (l ys : List Int) (p : Addr), Post Z (rV Z) ρ H Q E (.ok (.ref h.n) (h.push (.lst ((isort l).map MV.int)))) → ys.Perm l → ys.Pairwise (· ≤ ·) → H p = none → Q (.ref p) (upd H p (.lst (ys.map V.int))) := by
      intro l ys p q2 p1 p2 hp
      rw [isort_uniq p1 p2]
      exact q2 (ρ ++ [p]) _ _ (Ext.push hp) (R.push hp ⟨_, upd_same, RVs.ints _⟩) (.ref (by rw [← R.len]; simp))
    cases g : h.get i with
    | none => rw [g] at q'; exact q'.elim
    | some ob =>
      rw [g] at q'
      cases ob with
      | lst xs =>
        dsimp only at q'
        obtain ⟨vs, h1, h2⟩ := R.obj g hi
        cases k : intsOf xs with
        | none => rw [k] at q'; exact q'.elim
        | some l =>
          rw [k] at q'
          exact .inl ⟨a, l, rfl, by rw [← intsOf_ok h2 k]; exact .inl (.inl h1), fun ys p p1 p2 hp => fin l ys p q' p1 p2 hp⟩
      | dic kvs =>
        dsimp only at q'
        obtain ⟨vs, h1, h2⟩ := R.obj g hi
        cases k : keysOf kvs with
        | none => rw [k] at q'; exact q'.elim
        | some l =>
          rw [k] at q'
          dsimp only at q'
          by_cases z : l.length < 64
          · rw [if_pos z] at q'
            exact .inr ⟨a, vs, l, rfl, .of h1, keysOf_ok h2 k, z, fun ys p p1 p2 hp => fin l ys p q' p1 p2 hp⟩
          · rw [if_neg z] at q'; exact q'.elim
      | _ => exact q'.elim
  | _ => exact q.elim
def boolsOf : List MV → Option (List Bool)
  | [] => some []
  | .bl i :: r => (boolsOf r).map fun l => i :: l
  | _ => none
theorem boolsOf_ok {Z : Zt} {ρ : List Addr} {H : Hp} : ∀ {xs : List MV} {vs : List V} {l : List Bool}, RVs Z ρ H xs vs → boolsOf xs = some l → vs = l.map V.bl
  | _, _, l, .nil, e => by cases e; rfl
  | _, _, l, .cons (x := x) (xs := xs) a r, e => by
    cases a with
    | bl i =>
      obtain ⟨l', e1, rfl⟩ := Option.map_eq_some_iff.mp (show (boolsOf xs).map (fun l => i :: l) = some l from e)
      rw [boolsOf_ok r e1]; rfl
    | _ => cases e
def mAll (x : MV) (h : MH) : Out MV := match x with
  | .ref i => match h.get i with
    | some (.lst xs) => match boolsOf xs with
      | some l => .ok (.bl (l.all id)) h
      | none => .bad
    | _ => .bad
  | _ => .bad
theorem mc_all {Z : Zt} : CallM Z E (f1 mAll) (rAll Z.K) := .one fun ρ h H x v Q R r q => by
  cases r with
  | @ref i a hi =>
    have q' : Post Z (rV Z) ρ H Q E (match h.get i with
      | some (.lst xs) => match boolsOf xs with
        | some l => .ok (.bl (l.all id)) h
        | none => .bad
      | _ => .bad) := q
    cases g : h.get i with
    | none => rw [g] at q'; exact q'.elim
    | some ob =>
      rw [g] at q'
      cases ob with
      | lst xs =>
        dsimp only at q'
        obtain ⟨vs, h1, h2⟩ := R.obj g hi
        cases k : boolsOf xs with
        | none => rw [k] at q'; exact q'.elim
        | some l =>
          rw [k] at q'
          exact ⟨a, l, rfl, by rw [← boolsOf_ok h2 k]; exact .inl (.inl h1), Post.ok (R := rV Z) (a := .bl (l.all id)) q' R (.bl _)⟩
      | _ => exact q'.elim
  | _ => exact q.elim
end
end MI
set_option Elab.async false
set_option linter.all false
set_option maxRecDepth 100000
set_option maxHeartbeats 4000000
namespace MI
open PySem PySem.Spec PyProof.Rows L2 JB
def ddrop {κ : Type} (e : κ → κ → Bool) (k : κ) : List (κ × MV) → List (κ × MV)
  | [] => []
  | (g, x) :: r => if e g k = true then ddrop e k r else (g, x) :: ddrop e k r
theorem ddrop_ok {κ κ' : Type} [DecidableEq κ'] {e : κ → κ → Bool} {f : κ → κ'} {Z : Zt} {ρ : List Addr} {H : Hp} (he : ∀ a b, e a b = true ↔ f a = f b) {xs : List (κ × MV)} {vs : List (κ' × V)} (r : RKs f Z ρ H xs vs) {k : κ} :
    RKs f Z ρ H (ddrop e k xs) (dropK vs (f k)) := by
  induction r with
  | nil => exact .nil
  | @cons g x v xs vs a r ih =>
    show RKs f Z ρ H (if e g k = true then ddrop e k xs else (g, x) :: ddrop e k xs) (dropK ((f g, v) :: vs) (f k))
    by_cases z : e g k = true
    · rw [if_pos z, dropK_pos ((he _ _).mp z)]; exact ih
    · rw [if_neg z, dropK_neg (fun q => z ((he _ _).mpr q))]; exact .cons a ih
def gDel (d i : ME) : MS := fun m h => (d m h).bindS fun x h1 => (i m h1).bindS fun y h2 => match x, mkey y with
  | .ref j, some k => match h2.get j with
    | some (.dic kvs) => if (dval keq kvs k).isSome = true then .nx m (h2.set j (.dic (ddrop keq k kvs))) else .bad
    | _ => .bad
  | _, _ => .bad
section
variable {X : Cx} {T : Nat → Addr} {E : XK} {o i e f a b : Expr} {go gi ge gf ga gb : ME} {pos tpos apos cpos : Pos}
theorem js_del (ho : JE X T E o go) (hi : JE X T E i gi) : JS X T E (.Delete [.Subscript o i tpos] pos) (gDel go gi) :=
  PS.le (ps_ddel ho hi) fun D σ H ⟨ρ, m, h, s, q⟩ => sE s q fun ρ1 h1 H1 x v s1 e1 r1 q1 => sE s1 q1 fun ρ2 h2 H2 y w s2 e2 r2 q2 => by
    have r1' := r1.ext e2
    cases r1' with
    | @ref j a hj =>
      cases k : mkey y with
      | none => rw [k] at q2; exact q2.elim
      | some k' =>
        rw [k] at q2
        have q' : PostS ⟨X.K, T⟩ ρ2 H2 D E (match h2.get j with
          | some (.dic kvs) => if (dval keq kvs k').isSome = true then .nx m (h2.set j (.dic (ddrop keq k' kvs))) else .bad
          | _ => .bad) := q2
        cases g : h2.get j with
        | none => rw [g] at q'; exact q'.elim
        | some ob =>
          rw [g] at q'
          cases ob with
          | dic kvs =>
            dsimp only at q'
            obtain ⟨vs, h3, h4⟩ := s2.hr.obj g hj
            by_cases z : (dval keq kvs k').isSome = true
            · rw [if_pos z] at q'
              have x1 := s2.hr.grow g hj (.dK (dropK vs (kOf k')))
              refine ⟨a, vs, kOf k', rfl, h3, mkey_ok r2 k, ?_, q' ρ2 _ _ x1 (s2.to x1 (s2.hr.set g hj ⟨_, upd_same, (ddrop_ok (e := keq) (fun a b => keq_iff) h4).ext x1⟩))⟩
              rcases dval_ok (e := keq) (f := kOf) (fun a b => keq_iff) h4 k' with ⟨l, _⟩ | ⟨y, w, l1, l2, _⟩
              · rw [l] at z; cases z
              · rw [l2]; rfl
            · rw [if_neg z] at q'; exact q'.elim
          | _ => exact q'.elim
    | _ => exact q2.elim
def gSetd (d k x : ME) : ME := fun m h => (d m h).bind fun z h1 => if isD h1 z = true then (k m h1).bind fun y h2 => (x m h2).bind fun u h3 => match z, mkey y with
  | .ref j, some k => match h3.get j with
    | some (.dic kvs) => if kvs.length < 1000000 then match dval keq kvs k with
        | some v => .ok v h3
        | none => .ok u (h3.set j (.dic (dput keq kvs k u)))
      else .bad
    | _ => .bad
  | _, _ => .bad
  else .bad
theorem je_setd (ho : JE X T E o go) (he : JE X T E e ge) (hf : JE X T E f gf) (m2 : M2 X o "setdefault" apos e f cpos) : JE X T E (.Call (.Attribute o "setdefault" apos) [e, f] [] cpos) (gSetd go ge gf) :=
  PE.le (pe_dsetd ho he hf m2) fun σ H Q ⟨ρ, m, h, s, q⟩ => stepE s q fun ρ1 h1 H1 x v s1 e1 r1 q1 => by
    by_cases d : isD h1 x = true
    · rw [if_pos d] at q1
      obtain ⟨a, rfl, hd⟩ := isD_ok s1.hr r1 d
      refine ⟨a, rfl, hd, stepE s1 q1 fun ρ2 h2 H2 y w s2 e2 r2 q2 => stepE s2 q2 fun ρ3 h3 H3 u z s3 e3 r3 q3 => ?_⟩
      have r1' := (r1.ext e2).ext e3
      cases r1' with
      | @ref j a hj =>
        cases k : mkey y with
        | none => rw [k] at q3; exact q3.elim
        | some k' =>
          rw [k] at q3
          have q' : Post ⟨X.K, T⟩ (rV ⟨X.K, T⟩) ρ3 H3 Q E (match h3.get j with
            | some (.dic kvs) => if kvs.length < 1000000 then match dval keq kvs k' with
                | some v => .ok v h3
                | none => .ok u (h3.set j (.dic (dput keq kvs k' u)))
              else .bad
            | _ => .bad) := q3
          cases g : h3.get j with
          | none => rw [g] at q'; exact q'.elim
          | some ob =>
            rw [g] at q'
            cases ob with
            | dic kvs =>
              dsimp only at q'
              obtain ⟨vs, h4, h5⟩ := s3.hr.obj g hj
              by_cases c : kvs.length < 1000000
              · rw [if_pos c] at q'
                refine ⟨vs, kOf k', h4, mkey_ok (r2.ext e3) k, by rw [← h5.length, sizeLine_eq]; omega, fun v' l => ?_, fun l => ?_⟩
                · rcases dval_ok (e := keq) (f := kOf) (fun a b => keq_iff) h5 k' with ⟨l1, l2⟩ | ⟨y', w', l1, l2, l3⟩
                  · rw [l] at l2; cases l2
                  · rw [l] at l2; cases l2
                    rw [l1] at q'
                    exact q'.ok s3.hr l3
                · rcases dval_ok (e := keq) (f := kOf) (fun a b => keq_iff) h5 k' with ⟨l1, l2⟩ | ⟨y', w', l1, l2, l3⟩
                  · rw [l1] at q'
                    have x1 := s3.hr.grow g hj (.dK (putK vs (kOf k') z))
                    exact q' ρ3 _ _ x1 (s3.hr.set g hj ⟨_, upd_same, dput_ok (e := keq) (f := kOf) (fun a b => keq_iff) (h5.ext x1) (r3.ext x1)⟩) (r3.ext x1)
                  · rw [l] at l2; cases l2
              · rw [if_neg c] at q'; exact q'.elim
            | _ => exact q'.elim
      | _ => exact q3.elim
    · rw [if_neg d] at q1; exact q1.elim
def okD (d : PyData) : Bool := SeqAt.shaped d
def mEqD (b : Bool) (x y : MV) (h : MH) : Out MV := match toD h 61 x, toD h 61 y with
  | some d, some e => if dEq 61 d e = true ∧ okD d = true then .ok (.bl b) h else .bad
  | _, _ => .bad
theorem eqD_ok {Z : Zt} {E : XK} {b : Bool} {ρ : List Addr} {h : MH} {H : Hp} {x y : MV} {v w : V} {Q : VK} (R : HR Z ρ h H) (r : RV Z ρ H x v) (q : RV Z ρ H y w) (p : Post Z (rV Z) ρ H Q E (mEqD b x y h)) :
    ∃ d e, Dp Z.K H v d ∧ Dp Z.K H w e ∧ SeqAt.shaped d = true ∧ SeqAt.shaped e = true ∧ PyData.eqv d e = true ∧ Q (.bl b) H := by
  unfold mEqD at p
  cases t1 : toD h 61 x with
  | none => rw [t1] at p; exact p.elim
  | some d =>
    cases t2 : toD h 61 y with
    | none => rw [t1, t2] at p; exact p.elim
    | some e =>
      rw [t1, t2] at p
      dsimp only at p
      by_cases c : dEq 61 d e = true ∧ okD d = true
      · rw [if_pos c] at p
        obtain ⟨c1, c2⟩ := c
        have c2' : SeqAt.shaped d = true := c2
        have de := dEq_eq 61 c1
        refine ⟨d, e, toD_ok R 61 r t1, toD_ok R 61 q t2, c2', by rw [← de]; exact c2', ?_, p.ok R (.bl b)⟩
        rw [← de]
        exact SeqAt.eqv_refl d (SeqAt.canLay_of_shaped c2')
      · rw [if_neg c] at p; exact p.elim
theorem om_eqD {Z : Zt} : OpM Z E (mEqD true) (rEqD Z.K) := fun ρ h H x y v w Q R r q p => by
  obtain ⟨d, e, h1, h2, h3, h4, h5, h6⟩ := eqD_ok R r q p
  exact ⟨d, e, h1, h2, h3, h4, by rw [h5]; exact h6⟩
theorem om_neD {Z : Zt} : OpM Z E (mEqD false) (rNeD Z.K) := fun ρ h H x y v w Q R r q p => by
  obtain ⟨d, e, h1, h2, h3, h4, h5, h6⟩ := eqD_ok R r q p
  exact ⟨d, e, h1, h2, h3, h4, by rw [h5]; exact h6⟩
def mEqA (x y : MV) (h : MH) : Out MV := if isRow x = true then mEqD true x y h else mEqV x y h
def mNeA (x y : MV) (h : MH) : Out MV := if isRow x = true then mEqD false x y h else mNeV x y h
theorem mEqA_or (x y : MV) (h : MH) : mEqA x y h = mEqD true x y h ∨ mEqA x y h = mEqV x y h := by unfold mEqA; split; exact .inl rfl; exact .inr rfl
theorem mNeA_or (x y : MV) (h : MH) : mNeA x y h = mEqD false x y h ∨ mNeA x y h = mNeV x y h := by unfold mNeA; split; exact .inl rfl; exact .inr rfl
theorem je_eqA (hu : X.A.units + 64 < cLine) (ha : JE X T E a ga) (hb : JE X T E b gb) : JE X T E (.Compare a [.Eq] [b] pos) (gBin mEqA ga gb) :=
  je_bin_or (je_cmp (op_eqD hu) om_eqD ha hb (nobehind _ (by decide) (by decide))) (je_eq ha hb) mEqA_or
theorem je_neA (hu : X.A.units + 64 < cLine) (ha : JE X T E a ga) (hb : JE X T E b gb) : JE X T E (.Compare a [.NotEq] [b] pos) (gBin mNeA ga gb) :=
  je_bin_or (je_cmp (op_neD hu) om_neD ha hb (nobehind _ (by decide) (by decide))) (je_ne ha hb) mNeA_or
theorem jt_eqA (hu : X.A.units + 64 < cLine) (ha : JE X T E a ga) (hb : JE X T E b gb) : JT X T E (.Compare a [.Eq] [b] pos) (gB (gBin mEqA ga gb)) :=
  jt_bin_or (jt_cmp (op_eqD hu) om_eqD ha hb (nobehind _ (by decide) (by decide))) (jt_eq ha hb) mEqA_or
theorem jt_neA (hu : X.A.units + 64 < cLine) (ha : JE X T E a ga) (hb : JE X T E b gb) : JT X T E (.Compare a [.NotEq] [b] pos) (gB (gBin mNeA ga gb)) :=
  jt_bin_or (jt_cmp (op_neD hu) om_neD ha hb (nobehind _ (by decide) (by decide))) (jt_ne ha hb) mNeA_or
def it1C (lo c : Int) (n : Nat) : It1 := ⟨fun _ => n, fun i _ => some (if i < n then some (.int (lo + (i : Nat) * c)) else none)⟩
theorem rI_rngC {Z : Zt} {ρ : List Addr} {H : Hp} {lo c : Int} {n : Nat} : rI Z ρ H (it1C lo c n) (Itc lo c n) := by
  intro i ρ' h' H' e R
  show match some (if i < n then some (MV.int (lo + (i : Nat) * c)) else none) with
    | none => True
    | some none => (Itc lo c n).stop i H'
    | some (some x) => (Itc lo c n).go i H' ∧ ∀ v H'', (Itc lo c n).yld i H' v H'' → ∃ ρ'', Ext ρ' H' ρ'' H'' ∧ HR Z ρ'' h' H'' ∧ RV Z ρ'' H'' x v
  by_cases hi : i < n
  · rw [if_pos hi]
    refine ⟨hi, fun w H'' y => ?_⟩
    obtain ⟨rfl, rfl⟩ := y
    exact ⟨ρ', .refl, R, .int _⟩
  · rw [if_neg hi]
    exact Nat.le_of_not_lt hi
def rngOk (i j c : Int) : Bool := decide (c ≠ 0) && decide (c.natAbs < 1073741824) && Builtin.Range.small i j c && decide (0 ≤ Builtin.Range.rangeSize i j c)
def gRng3 (a b c : ME) : MI1 := fun m h => (a m h).bind fun x h1 => (b m h1).bind fun y h2 => (c m h2).bind fun z h3 => match x, y, z with
  | .int i, .int j, .int k => if rngOk i j k = true then .ok (it1C i k (Builtin.Range.rangeSize i j k).toNat) h3 else .bad
  | _, _, _ => .bad
theorem ji_range3 {tg c : Expr} {gc : ME} {p : Pos} (hg : Gl X "range") (hm : X.mg "range" = none) (ha : JE X T E a ga) (hb : JE X T E b gb) (hc : JE X T E c gc)
    (hs : starEach [a, b, c] X.env = (false, eval a X.env) :: starEach [b, c] X.env := by rfl) (hs2 : starEach [b, c] X.env = (false, eval b X.env) :: starEach [c] X.env := by rfl) (hs3 : starEach [c] X.env = (false, eval c X.env) :: starEach [] X.env := by rfl)
    (hpl : (backTo pos (starEach [b, c] X.env)).any (·.1) = false := by rfl) :
    JI X T E tg (.Call (.Name "range" p) [a, b, c] [] pos) (gRng3 ga gb gc) :=
  PI.le (pi_range3 hg hm (pa_cons ha (pa_cons hb (pa_cons hc pa_nil hs3) hs2) hs) hs hpl) fun σ H R ⟨ρ, m, h, s, q⟩ => stepI s q fun ρ1 h1 H1 x v s1 e1 r1 q1 => stepI s1 q1 fun ρ2 h2 H2 y w s2 e2 r2 q2 => stepI s2 q2 fun ρ3 h3 H3 z u s3 e3 r3 q3 => by
    cases r1 with
    | int i =>
      cases r2 with
      | int j =>
        cases r3 with
        | int k =>
          have q' : Post ⟨X.K, T⟩ (rI ⟨X.K, T⟩) ρ3 H3 R E (if rngOk i j k = true then .ok (it1C i k (Builtin.Range.rangeSize i j k).toNat) h3 else .bad) := q3
          by_cases c : rngOk i j k = true
          · rw [if_pos c] at q'
            simp only [rngOk, Bool.and_eq_true, decide_eq_true_eq] at c
            exact ⟨i, j, k, _, rfl, ⟨c.1.1.1, c.1.1.2, c.1.2, (Int.toNat_of_nonneg c.2).symm⟩, q'.ok s3.hr rI_rngC⟩
          · rw [if_neg c] at q'; exact q'.elim
        | _ => exact q3.elim
      | _ => exact q3.elim
    | _ => exact q3.elim
theorem je_glI {x : Str} {i : Int} (hg : Gl X x) (hm : ∃ t, X.mg x = some (.int i t)) (hd : (x == ("__debug__" : Str)) = false := by decide) (hcd : (x == ("__classdict__" : Str)) = false := by decide) : JE X T E (.Name x pos) (gC (.int i)) := by
  obtain ⟨t, hm⟩ := hm
  exact je_c (w := .int i) (pe_glob hg hm ⟨t, rfl⟩ hd) fun _ _ => .int _
theorem je_glS {x : Str} {l : List Nat} (hg : Gl X x) (hm : ∃ t, X.mg x = some (.str ⟨l.toArray⟩ t)) (hd : (x == ("__debug__" : Str)) = false := by decide) (hcd : (x == ("__classdict__" : Str)) = false := by decide) : JE X T E (.Name x pos) (gC (.str l)) := by
  obtain ⟨t, hm⟩ := hm
  exact je_c (w := .str ⟨l.toArray⟩) (pe_glob hg hm ⟨t, rfl⟩ hd) fun _ _ => .str _
end
end MI
set_option Elab.async false
set_option linter.all false
set_option maxRecDepth 100000
set_option maxHeartbeats 4000000
namespace ET
open PySem PySem.Spec PyProof.Rows L2
section
variable {prog : Program} {w : World} {A : Around} {E : Value → Shared → Prop} {s : Shared}
theorem next_item {j t : Addr} {i : Nat} {its : Array Value} {v : Value} {Q : Value → Shared → Prop} (a1 : s.heap.IsTupleIter j t i) (a2 : s.heap.IsTuple t its) (a3 : its[i]? = some v)
    (k : ∀ h', h'.IsTupleIter j t (i + 1) → Heap.SameBut j s.heap h' → Q v { s with heap := h' }) : wpAny (model prog w) A (Builtin.SmallTypes.nextOf (.ref j)) Q E s := by
  obtain ⟨o, b1, b2, b3⟩ := id a1
  obtain ⟨u, c1, _, m, c2⟩ := a2
  unfold Builtin.SmallTypes.nextOf
  refine wpAny_bind (wpAny_callSpecial?_slot (name := Str.ofString "__next__") a1.typeIs F.slot_tuple_iterator_next
    (wpAny_call_entry F.slot_tuple_iterator_next a1.typeIs F.entry_tuple_iterator_next ?_ (F.args_tuple_iterator_next_1 _)))
  show wpAny _ _ (field (.ref j) 0 >>= _) _ _ s
  refine wpAny_bind (wpAny_field b1 b3 (x := .ref t) rfl ?_)
  show wpAny _ _ (if (Value.ref t == Value.none) = true then _ else _) _ _ s
  rw [if_neg (show ¬ (Value.ref t == Value.none) = true from fun z => nomatch z)]
  show wpAny _ _ (field (.ref j) 1 >>= _) _ _ s
  refine wpAny_bind (wpAny_field b1 b3 (x := .int i 0) rfl ?_)
  show wpAny _ _ (seqItems? (.ref t) >>= _) _ _ s
  refine wpAny_bind (wpAny_seqItems c1 c2 ?_)
  simp only [Int.toNat_natCast, a3]
  refine wpAny_bind (wpAny_setField b1 b3 (by simp) (wpAny_pure ⟨_, rfl, wpAny_pure (k _ ?_ (Heap.SameBut.update ..))⟩))
  exact ⟨_, Heap.get?_update_self _ b1 (Obj.isFreed_of_fields (Obj.data_mapFields b3 _)), (Obj.cls_mapFields ..).trans b2, by rw [Obj.data_mapFields b3]; simp [rawInt]⟩
theorem next_end {j t : Addr} {i : Nat} {its : Array Value} {Q : Value → Shared → Prop} (hn : A.handled = none) (a1 : s.heap.IsTupleIter j t i) (a2 : s.heap.IsTuple t its) (a3 : its[i]? = none)
    (k : ∀ h' e, Heap.ExtBut j s.heap h' → (∃ o, h'.get? e = some o ∧ o.cls = .type "StopIteration") → E (.ref e) { s with heap := h' }) : wpAny (model prog w) A (Builtin.SmallTypes.nextOf (.ref j)) Q E s := by
  obtain ⟨o, b1, b2, b3⟩ := id a1
  obtain ⟨u, c1, _, m, c2⟩ := a2
  unfold Builtin.SmallTypes.nextOf
  refine wpAny_bind (wpAny_callSpecial?_slot (name := Str.ofString "__next__") a1.typeIs F.slot_tuple_iterator_next
    (wpAny_call_entry F.slot_tuple_iterator_next a1.typeIs F.entry_tuple_iterator_next ?_ (F.args_tuple_iterator_next_1 _)))
  show wpAny _ _ (field (.ref j) 0 >>= _) _ _ s
  refine wpAny_bind (wpAny_field b1 b3 (x := .ref t) rfl ?_)
  show wpAny _ _ (if (Value.ref t == Value.none) = true then _ else _) _ _ s
  rw [if_neg (show ¬ (Value.ref t == Value.none) = true from fun z => nomatch z)]
  show wpAny _ _ (field (.ref j) 1 >>= _) _ _ s
  refine wpAny_bind (wpAny_field b1 b3 (x := .int i 0) rfl ?_)
  show wpAny _ _ (seqItems? (.ref t) >>= _) _ _ s
  refine wpAny_bind (wpAny_seqItems c1 c2 ?_)
  simp only [Int.toNat_natCast, a3]
  refine wpAny_bind (wpAny_rule (wpAny_bind (wpAny_setField b1 b3 (by simp) ?_)))
  show wpAny _ _ (newExc (.type "StopIteration") [] >>= _) _ _ _
  refine wpAny_bind ?_
  simp only [newExc, newTuple]
  refine wpAny_bind (wpAny_newObj_type ?_ (by size_fits))
  refine wpAny_bind (m := firstArgMember _ _) (wpAny_of_eq (a := Value.none) (by first | rfl | (simp only [firstArgMember]; rfl)) ?_)
  refine wpAny_newObj_type ?_ (by size_fits)
  simp only [raiseNew]
  refine wpAny_bind (wpAny_handled ?_)
  first | rw [show A.in1.handled = none from hn] | rw [hn]
  refine wpAny_bind (wpAny_pure (wpAny_throw ?_))
  exact k _ _ (((Heap.SameBut.update ..).extBut.push _).push _) ⟨_, Heap.get?_push_size _ rfl, rfl⟩
end
theorem draws {prog : Program} {w : World} {A : Around} (hn : A.handled = none) (j t : Addr) (d : t ≠ j) (its : Array Value) :
    Draws prog w A j [j, t] its.size (fun i v => its[i]? = some v) (fun i h => h.IsTupleIter j t i ∧ h.IsTuple t its) where
  live := fun _ _ st => let ⟨o, ho, _⟩ := st.1; ⟨o, ho⟩
  frame := fun _ _ _ st hk => ⟨let ⟨o, ho, r⟩ := st.1; ⟨o, hk j (by simp) o ho, r⟩, let ⟨o, ho, r⟩ := st.2; ⟨o, hk t (by simp) o ho, r⟩⟩
  item := fun i s Q E hi st hQ => by
    refine next_item st.1 st.2 (v := its[i]) (by simp [hi]) fun h' q1 q2 => ?_
    exact hQ _ h' s.toks (by simp [hi]) ⟨q1, st.2.extBut q2.extBut d⟩ q2
  done := fun s Q E st hE => next_end hn st.1 st.2 (by simp) hE
theorem newT (t : Addr) (its : Array Value) (n : Nat) (dd : Option Addr) (sl : Array (Option Value)) :
    Meets (Builtin.«enumerate.__new__» ⟨[.type "enumerate", .ref t], []⟩) (fun _ R s => s.heap.get? t = some { cls := .type "tuple", dict := dd, data := .seq its n, slots := sl } ∧
      R (.ok (.ret (.ref (s.heap.push { cls := .type "tuple_iterator", data := .fields #[.ref t, .int 0 0] }).objs.size)))
        { s with heap := (s.heap.push { cls := .type "tuple_iterator", data := .fields #[.ref t, .int 0 0] }).push { cls := .type "enumerate", data := .fields #[.none, .bool false, .ref s.heap.objs.size, rawInt 0, .none, .none] } }) :=
  .of_wp fun prog w A R s h => by
    obtain ⟨hp, g, d, tk, os⟩ := s; obtain ⟨hl, h⟩ := h
    have q0 := sub_enumerate
    have hL : Heap.IsTuple (Shared.heap ⟨hp, g, d, tk, os⟩) t its := ⟨_, hl, rfl, n, rfl⟩
    wp_walk using wpAny_loadPart' hl
    refine wpAny_stack_any fun st => wpAny_pure ?_
    split
    · rename_i c _ _ _ _ _
      cases (c == Value.type "enumerate")
      · wp_walk using wpAny_loadPart' hl, wpAny_pyIter_tuple hL
        exact ⟨_, rfl, h⟩
      · wp_walk using wpAny_loadPart' hl, wpAny_pyIter_tuple hL
        exact ⟨_, rfl, h⟩
    · wp_walk using wpAny_loadPart' hl, wpAny_pyIter_tuple hL
      exact ⟨_, rfl, h⟩
section
variable {prog : Program} {w : World} {A : Around} {E : Value → Shared → Prop} {s : Shared}
theorem make {t : Addr} {its : Array Value} {Q : Value → Shared → Prop} (hL : s.heap.IsTuple t its)
    (h : ∀ h', IsEnum h' (s.heap.objs.size + 1) s.heap.objs.size 0 .none → h'.IsTupleIter s.heap.objs.size t 0 → h'.objs.size = s.heap.objs.size + 2 →
      (∀ b o, s.heap.get? b = some o → h'.get? b = some o) → Q (.ref (s.heap.objs.size + 1)) { s with heap := h' }) : wpAny (model prog w) A (call (.type "enumerate") [.ref t]) Q E s := by
  obtain ⟨⟨c, dct, dt, sl⟩, hl, hc, n, hd⟩ := hL
  replace hc : c = .type "tuple" := hc
  replace hd : dt = .seq its n := hd
  subst hc hd
  refine callType_new F.called_enumerate (by decide) (F.typeCall_enumerate_1 _) (F.newCall_enumerate_1 _) (fun obj => F.args_object_init_2 obj _) F.entry_enumerate_new (newT t its n dct sl) ⟨hl, ?_⟩
  have z1 : (s.heap.push { cls := .type "tuple_iterator", data := .fields #[.ref t, .int 0 0] }).objs.size = s.heap.objs.size + 1 := Heap.size_push ..
  show _ ∧ _
  rw [z1]
  have e1 : IsEnum ((s.heap.push { cls := .type "tuple_iterator", data := .fields #[.ref t, .int 0 0] }).push
      { cls := .type "enumerate", data := .fields #[.none, .bool false, .ref s.heap.objs.size, rawInt 0, .none, .none] }) (s.heap.objs.size + 1) s.heap.objs.size 0 .none := by
    have q := Heap.get?_push_size (s.heap.push { cls := .type "tuple_iterator", data := .fields #[.ref t, .int 0 0] })
      (o := { cls := .type "enumerate", data := .fields #[.none, .bool false, .ref s.heap.objs.size, rawInt 0, .none, .none] }) rfl
    rw [z1] at q; exact q
  exact ⟨⟨_, e1, rfl⟩, h _ e1 ⟨_, Heap.get?_push_of_some _ (Heap.get?_push_size _ rfl), rfl, rfl⟩ (by rw [Heap.size_push, z1]) fun b o x => Heap.get?_push_of_some _ (Heap.get?_push_of_some _ x)⟩
end
/-- the tuple at a, each item in a new pair -/
def Itet (K : PySem.W.Frag) (a : Addr) : It :=
  ⟨fun i H => ∃ (xs : List V) (x : V), SqT K H a xs ∧ xs[i]? = some x, fun i H v H' => ∃ T x, v = .ref T ∧ H T = none ∧ H' = upd H T (.tup [.int (i : Nat), x]) ∧ ∀ xs, SqT K H a xs → xs[i]? = some x,
    fun i H => ∃ xs : List V, SqT K H a xs ∧ xs.length ≤ i⟩
theorem turn {P : Program} {w : World} {K : PySem.W.Frag} {elts : List Expr} {kk : Nat} {tpos : Pos} (a e it : Addr) :
    Turn P w K (.Tuple elts kk tpos) (Itet K a) [e, it] e (fun i h => (∃ old, IsEnum h e it ((i : Nat) : Int) old) ∧ h.IsTupleIter it a i ∧ e ≠ it ∧ e ≠ a ∧ a ≠ it) where
  mem := by simp
  obj := fun i h st b hb => by
    obtain ⟨⟨old, he⟩, ⟨o, ho, hc, hd⟩, _⟩ := st
    rcases (by simpa using hb : b = e ∨ b = it) with z | z
    · rw [z]; exact ⟨_, he, fun v q => nomatch q⟩
    · rw [z]; exact ⟨o, ho, fun v q => by rw [hd] at q; cases q⟩
  keep := fun i h h' st k => by
    obtain ⟨⟨old, he⟩, ⟨o, ho, r⟩, hne⟩ := st
    exact ⟨⟨old, k e (by simp) _ he⟩, ⟨o, k it (by simp) o ho, r⟩, hne⟩
  item := by
    intro X hP hw hK hc i pins s σ H E I hf st hg
    subst hP hw hK
    obtain ⟨⟨old, he⟩, hit, n1, n2, n3⟩ := st
    obtain ⟨xs, x, hq, hx⟩ := hg
    obtain ⟨its, rv, p, hz⟩ := I.tuple hq
    obtain ⟨u, hu, ru⟩ := rv.get hx
    have hu' : its.toArray[i]? = some u := by simpa using hu
    have lt1 : e < s.heap.objs.size := Heap.lt_size he
    have lt2 : it < s.heap.objs.size := by obtain ⟨_, q, _⟩ := hit; exact Heap.lt_size q
    refine wpAny_pyNext_enum_itemD (draws (A := X.A.in1) (I.ok.hd hc) it a n3 its.toArray) he ⟨hit, p⟩ (by have := (Array.getElem?_eq_some_iff.mp hu').1; exact this) n1 (by simp [n1, n2]) fun x' h' tk hP ho hst hT hsz hk => ?_
    have ex : x' = u := by
      have hP' : its.toArray[i]? = some x' := hP
      rw [hu'] at hP'; exact (Option.some.inj hP').symm
    subst ex
    refine ⟨_, rfl, wpAny_letOwnedTupleGo_enum (s := { s with heap := h', toks := tk + 1 }) ho fun h'' he' sb => ?_⟩
    have hT2 : h''.get? s.heap.objs.size = some { cls := .type "tuple", data := .seq #[.int i tk, x'] } := (sb.2 _ (Nat.ne_of_gt lt1)).trans hT
    have new : ObjOk X.prog X.w (upd H s.heap.objs.size (.tup [.int (i : Nat), x])) h'' s.heap.objs.size (.tup [.int (i : Nat), x]) :=
      ⟨by show 2 ≤ sizeLine; decide, [.int i tk, x'], .cons ⟨_, rfl⟩ (.cons ru .nil), ⟨_, hT2, rfl, _, rfl⟩⟩
    have I1 : Inv X pins σ (upd H s.heap.objs.size (.tup [.int (i : Nat), x])) { s with heap := h'', toks := tk + 1 } :=
      I.turnedNew (ch := [e, it]) (fun b ob hb q => (sb.2 b (fun z => hb (by simp [z]))).trans (hk b ob (fun z => hb (by simp [z])) (fun z => hb (by simp [z])) q)) hf (Nat.le_refl _) new
    refine ⟨.ref s.heap.objs.size, _, I1, rfl, ⟨_, x, rfl, I.hok.fresh (Nat.le_refl _), rfl, fun ys hy => by rw [I.tuple_inj hy hq]; exact hx⟩, ⟨⟨x', ?_⟩, ?_, n1, n2, n3⟩, fun b hb => ?_⟩
    · have e1 : ((i + 1 : Nat) : Int) = (i : Int) + 1 := by omega
      rw [e1]; exact he'
    · obtain ⟨o, ho2, r⟩ := hst.1
      exact ⟨o, (sb.2 it (Ne.symm n1)).trans ho2, r⟩
    · have hb' : b < s.heap.objs.size := by
        rcases (by simpa using hb : b = e ∨ b = it) with z | z
        · rw [z]; exact lt1
        · rw [z]; exact lt2
      rw [upd_ne (Nat.ne_of_lt hb')]
      exact (hf b hb).1
  done := by
    intro X hP hw hK hc i pins s σ H E I hf st hg
    subst hP hw hK
    obtain ⟨⟨old, he⟩, hit, n1, n2, n3⟩ := st
    obtain ⟨xs, hq, hx⟩ := hg
    obtain ⟨its, rv, p, hz⟩ := I.tuple hq
    obtain ⟨f0, f1, f2, f3, f4, f5⟩ := hf it (by simp)
    have hl := rv.length
    have hend : its.toArray[i]? = none := by simp; omega
    have hT : s.TypeIs (.ref e) "enumerate" := ⟨_, he, rfl⟩
    unfold pyNext
    refine wpAny_bind (wpAny_attempt (wpAny_callSpecial?_slot (name := Str.ofString "__next__") hT F.slot_enumerate_next
      (wpAny_call_entry F.slot_enumerate_next hT F.entry_enumerate_next ?_ (F.args_enumerate_next_1 _))))
    show wpAny _ _ (field (.ref e) 2 >>= _) _ _ s
    refine wpAny_bind (wpAny_field he rfl (x := .ref it) rfl ?_)
    refine wpAny_bind (next_end (A := X.A.in1) (I.ok.hd hc) hit p hend fun h' x q1 q2 => ?_)
    obtain ⟨o, ho, hcl⟩ := q2
    refine wpAny_bind (wpAny_isInstance (T := "StopIteration") (b := true) ⟨o, ho, hcl⟩ isSubtype_stop ?_)
    exact wpAny_pure ⟨rfl, I.turned (t' := s.toks) (fun b o hb q => q1 b o hb q) f0 f1 f3 f4 f5⟩
  self := fun A i s Q E st h => let ⟨⟨_, he⟩, _⟩ := st; wpAny_pyIter_enum he h
def iEnumT (K : PySem.W.Frag) (ta : TA) : TI := fun σ H R => ta σ H fun vs H1 => ∃ a xs, vs = [.ref a] ∧ SqT K H1 a xs ∧ R (Itet K a) H1
theorem pi_enumT {X : Cx} {e : Expr} {ta : TA} {p pos tpos : Pos} {elts : List Expr} {kk : Nat} (hg : Gl X "enumerate") (hm : X.mg "enumerate" = none) (ha : PA X [e] ta) (hs : starEach [e] X.env = [(false, eval e X.env)] := by rfl) :
    PI X (.Tuple elts kk tpos) (.Call (.Name "enumerate" p) [e] [] pos) (iEnumT X.K ta) := by
  refine ⟨fun pins s σ H R I h => ?_⟩
  refine Call_ (ld_blt I hg hm boot_enumerate (PyProof.Rows.callWith_type1 (thn (ha.run pos pins s σ H _ I h) fun us s1 ⟨vs, H1, I1, r1, q1⟩ => ?_) hs rfl))
  obtain ⟨a, xs, ex, hq, q⟩ := q1
  subst ex
  cases r1 with
  | cons r rr =>
    cases rr
    cases r
    obtain ⟨its, rv, p', hz⟩ := I1.tuple hq
    have lta : a < s1.heap.objs.size := by obtain ⟨_, q, _⟩ := p'; exact Heap.lt_size q
    refine make p' fun h' he hit hsz hk => wpAny_pyIter_enum he ?_
    have I2 : Inv X pins σ H1 { s1 with heap := h' } := I1.kept (t' := s1.toks) hk
    refine ⟨s1.heap.objs.size + 1, [s1.heap.objs.size + 1, s1.heap.objs.size], _, _, H1, rfl, I2, turn a (s1.heap.objs.size + 1) s1.heap.objs.size, ⟨⟨.none, he⟩, hit, Nat.succ_ne_self _, Nat.ne_of_gt (Nat.lt_succ_of_lt lta), Nat.ne_of_lt lta⟩, fun b hb => ?_, q⟩
    have hle : s1.heap.objs.size ≤ b := by
      rcases (by simpa using hb : b = s1.heap.objs.size + 1 ∨ b = s1.heap.objs.size) with z | z
      · rw [z]; exact Nat.le_add_right _ _
      · rw [z]; exact Nat.le_refl _
    exact I1.fpOk hle (I1.hok.fresh hle)
end ET
namespace MI
open PySem PySem.Spec PyProof.Rows L2 JB
/-- enumerate of a list or a tuple -/
def gEnumA (a : ME) : MI1 := fun m h => (a m h).bind fun x h1 => match x with
  | .fls xs => .ok (it1E xs) h1
  | .tup xs => .ok (it1E xs) h1
  | .ktp xs => .ok (it1E xs) h1
  | .ref j => match h1.get j with
    | some (.lst _) => .ok (it1EL j) h1
    | _ => .bad
  | _ => .bad
section
variable {X : Cx} {T : Nat → Addr} {E : XK} {e a : Expr} {ga : ME} {pos p : Pos}
theorem rI_enumT {Z : Zt} {ρ ρ' : List Addr} {h' : MH} {H H' : Hp} {a : Addr} {i : Nat} {xs : List MV} {vs : List V} (R : HR Z ρ' h' H') (sq : SqT Z.K H' a vs) (r : RVs Z ρ' H' xs vs) :
    match some (xs[i]?.map fun x => MV.tup [.int (i : Nat), x]) with
    | none => True
    | some none => (ET.Itet Z.K a).stop i H'
    | some (some x) => (ET.Itet Z.K a).go i H' ∧ ∀ v H'', (ET.Itet Z.K a).yld i H' v H'' → ∃ ρ'', Ext ρ' H' ρ'' H'' ∧ HR Z ρ'' h' H'' ∧ RV Z ρ'' H'' x v := by
  cases g : xs[i]? with
  | none => exact ⟨vs, sq, r.none g⟩
  | some x =>
    obtain ⟨v, h1, h2⟩ := r.get g
    refine ⟨⟨vs, v, sq, h1⟩, fun w H'' y => ?_⟩
    obtain ⟨t, x', rfl, ht, rfl, y⟩ := y
    have z := y vs sq
    rw [h1] at z
    cases z
    exact ⟨ρ', Ext.still1 ht, R.still1 ht, .tup upd_same (.cons (.int _) (.cons (h2.ext (Ext.still1 ht)) .nil))⟩
theorem ji_enumT {elts : List Expr} {kk : Nat} {tpos : Pos} (hg : Gl X "enumerate") (hm : X.mg "enumerate" = none) (ha : JE X T E a ga) (hs : starEach [a] X.env = [(false, eval a X.env)] := by rfl) :
    JI X T E (.Tuple elts kk tpos) (.Call (.Name "enumerate" p) [a] [] pos) (gEnumA ga) := by
  refine PI.le (PI.or (ET.pi_enumT hg hm (pa_cons ha pa_nil hs) hs) (ji_enum hg hm ha hs)) fun σ H R ⟨ρ, m, h, s, q⟩ => ?_
  by_cases c : ∀ x h1, ga m h = .ok x h1 → isL x = false
  · refine .inl (show tE ⟨X.K, T⟩ E ga σ H _ from ⟨ρ, m, h, s, ?_⟩)
    have q' : Post ⟨X.K, T⟩ (rI ⟨X.K, T⟩) ρ H R E ((ga m h).bind fun x h1 => match x with
      | .fls xs => .ok (it1E xs) h1
      | .tup xs => .ok (it1E xs) h1
      | .ktp xs => .ok (it1E xs) h1
      | .ref j => match h1.get j with
        | some (.lst _) => .ok (it1EL j) h1
        | _ => .bad
      | _ => .bad) := q
    generalize ga m h = o at q' c ⊢
    cases o with
    | bad => exact q'
    | er x h1 => exact q'
    | ok x h1 =>
      intro ρ1 H1 v e1 r1 rv
      have c' := c x h1 rfl
      cases rv with
      | @tup ad xs vs h2 r2 =>
        have q2 : Post ⟨X.K, T⟩ (rI ⟨X.K, T⟩) ρ H R E (.ok (it1E xs) h1) := q'
        exact ⟨ad, vs, rfl, .inl (.inl h2), q2 ρ1 H1 _ e1 r1 fun i ρ' h' H' e R' => rI_enumT (ρ := ρ1) (H := H1) R' (.inl (.inl (e.still _ _ h2 trivial))) (r2.ext e)⟩
      | @ktp ad xs vs h2 r2 =>
        have q2 : Post ⟨X.K, T⟩ (rI ⟨X.K, T⟩) ρ H R E (.ok (it1E xs) h1) := q'
        exact ⟨ad, vs, rfl, ktp_sq h2, q2 ρ1 H1 _ e1 r1 fun i ρ' h' H' e R' => rI_enumT (ρ := ρ1) (H := H1) R' (ktp_sq h2) (r2.ext e)⟩
      | _ => cases c'
  · refine .inr ⟨ρ, m, h, s, ?_⟩
    have q' : Post ⟨X.K, T⟩ (rI ⟨X.K, T⟩) ρ H R E (gEnumA ga m h) := q
    unfold gEnumA at q'
    unfold gEnum
    generalize ga m h = o at q' c ⊢
    cases o with
    | bad => exact q'
    | er x h1 => exact q'
    | ok x h1 =>
      cases x with
      | tup xs => exact absurd (fun x h2 z => by cases z; rfl) c
      | ktp xs => exact absurd (fun x h2 z => by cases z; rfl) c
      | _ => exact q'
end
end MI
set_option Elab.async false
set_option linter.all false
set_option maxRecDepth 100000
set_option maxHeartbeats 400000
namespace MX
open PySem PySem.Spec PyProof.Rows L2
section
variable {prog : Program} {w : World} {A : Around} {R : Result → Shared → Prop} {I : Addr} {fp wr : List Addr} {n : Nat} {P : Nat → Value → Prop} {St : Nat → Heap → Prop} {z : Value}
theorem nm2 : (toString "max" ++ toString ".loop" : String) = "max.loop" := by decide
theorem again (W : Walks prog w A.in1 I fp wr n P St) (bt : Nat → Nat → Bool) (cm : CmpOf prog w A.in1 .Gt P bt) (S : Addr) (nS : S ∉ fp) :
    ∀ (k j : Nat) (s : Shared) (b : Value) (c : Nat), n - (j + 1) = k → j + 1 ≤ n → St (j + 1) s.heap → P (argBest bt j) b → s.heap.get? S = some { cls := .type "list", dict := none, data := .seq #[b, b] c, slots := #[] } →
    (∀ v h' tk, P (argBest bt (n - 1)) v → (∀ a o, a ∉ wr → a ≠ S → s.heap.get? a = some o → h'.get? a = some o) → R (.ok (.ret v)) { s with heap := h', toks := tk }) →
    codeAny (model prog w) A (.builtin "max.loop" ⟨[.ref I, .none, .ref S], [("default", z)]⟩) R s := by
  have nW : S ∉ wr := fun h => nS (W.sub _ h)
  intro k
  induction k with
  | zero =>
    intro j s b c hk hj st hP hS hR
    have hin : n = j + 1 := by omega
    subst hin
    refine codeAny_builtin F.entry_max_loop ?_
    rw [Around.under_plainId F.plain_max_loop _]
    show wpAny _ A.in1 (seqItems? (.ref S) >>= _) _ _ s
    refine wpAny_bind (wpAny_seqItems hS rfl ?_)
    show wpAny _ A.in1 (tryCatch (pyNext (.ref I)) _ >>= _) _ _ s
    refine wpAny_bind (wpAny_tryCatch (W.done s _ _ st fun h' tk q => ?_))
    have hS' := q S _ nW hS
    show wpAny _ A.in1 (updateSeq S (fun _ => #[]) >>= _) _ _ _
    refine wpAny_bind (wpAny_updateSeq hS' rfl (wpAny_bind (wpAny_letGo (wpAny_pure ?_))))
    exact hR b _ tk hP fun a o a1 a2 e => (Heap.get?_update_other _ _ (Ne.symm a2)).trans (q a o a1 e)
  | succ k ih =>
    intro j s b c hk hj st hP hS hR
    have lt : j + 1 < n := by omega
    refine codeAny_builtin F.entry_max_loop ?_
    rw [Around.under_plainId F.plain_max_loop _]
    show wpAny _ A.in1 (seqItems? (.ref S) >>= _) _ _ s
    refine wpAny_bind (wpAny_seqItems hS rfl ?_)
    show wpAny _ A.in1 (tryCatch (pyNext (.ref I)) _ >>= _) _ _ s
    refine wpAny_bind (wpAny_tryCatch (W.item (j + 1) s _ _ lt st fun v h' tk p st' q => ?_))
    have hS' := q S _ nW hS
    show wpAny _ A.in1 (tryCatch (holding [v, v] (richCompare .Gt v b >>= _)) _ >>= _) _ _ _
    refine wpAny_bind (wpAny_tryCatch (wpAny_holding (wpAny_bind (cm (j + 1) (argBest bt j) v b _ _ _ p hP ?_))))
    refine wpAny_bind (wpAny_holding (wpAny_truthy_bool ?_))
    refine wpAny_bind (wpAny_letGo (wpAny_pure ?_))
    cases hb : bt (j + 1) (argBest bt j) with
    | true =>
      simp only [if_true]
      refine wpAny_bind (wpAny_updateSeq hS' rfl (wpAny_bind (wpAny_letGo ?_)))
      rw [nm2]
      refine wpAny_pure ⟨plainId_quiet F.plain_max_loop _, ih (j + 1) _ v _ (by omega) lt (W.frame _ _ _ st' fun a ha o e => ?_) (by simp only [argBest, hb, if_true]; exact p) (Heap.get?_update_self _ hS' rfl) fun v' h'' tk'' p' q' => ?_⟩
      · exact (Heap.get?_update_other _ _ (fun h : S = a => nS (by rw [h]; exact ha))).trans e
      · exact hR v' h'' tk'' p' fun a o a1 a2 e => q' a o a1 a2 ((Heap.get?_update_other _ _ (Ne.symm a2)).trans (q a o a1 e))
    | false =>
      simp only [Bool.false_eq_true, if_false]
      refine wpAny_bind (wpAny_letGo ?_)
      rw [nm2]
      refine wpAny_pure ⟨plainId_quiet F.plain_max_loop _, ih (j + 1) _ b c (by omega) lt st' (by simp only [argBest, hb, Bool.false_eq_true, if_false]; exact hP) hS' fun v' h'' tk'' p' q' => ?_⟩
      exact hR v' h'' tk'' p' fun a o a1 a2 e => q' a o a1 a2 (q a o a1 e)
theorem first (W : Walks prog w A.in1 I fp wr n P St) (bt : Nat → Nat → Bool) (cm : CmpOf prog w A.in1 .Gt P bt) (S : Addr) (nS : S ∉ fp) {s : Shared} {c : Nat} (st : St 0 s.heap)
    (hS : s.heap.get? S = some { cls := .type "list", dict := none, data := .seq #[] c, slots := #[] })
    (h0 : n = 0 → ∀ h' tk, (∀ a o, a ∉ wr → a ≠ S → s.heap.get? a = some o → h'.get? a = some o) → R (.ok (.ret z)) { s with heap := h', toks := tk })
    (hR : 0 < n → ∀ v h' tk, P (argBest bt (n - 1)) v → (∀ a o, a ∉ wr → a ≠ S → s.heap.get? a = some o → h'.get? a = some o) → R (.ok (.ret v)) { s with heap := h', toks := tk }) :
    codeAny (model prog w) A (.builtin "max.loop" ⟨[.ref I, .none, .ref S], [("default", z)]⟩) R s := by
  have nW : S ∉ wr := fun h => nS (W.sub _ h)
  refine codeAny_builtin F.entry_max_loop ?_
  rw [Around.under_plainId F.plain_max_loop _]
  show wpAny _ A.in1 (seqItems? (.ref S) >>= _) _ _ s
  refine wpAny_bind (wpAny_seqItems hS rfl ?_)
  show wpAny _ A.in1 (tryCatch (pyNext (.ref I)) _ >>= _) _ _ s
  rcases Nat.eq_zero_or_pos n with hn | hn
  · subst hn
    refine wpAny_bind (wpAny_tryCatch (W.done s _ _ st fun h' tk q => ?_))
    show wpAny _ A.in1 (rule _ >>= _) _ _ _
    refine wpAny_bind (wpAny_rule (wpAny_pure ?_))
    exact h0 rfl h' tk fun a o a1 a2 e => q a o a1 e
  · refine wpAny_bind (wpAny_tryCatch (W.item 0 s _ _ hn st fun v h' tk p st' q => ?_))
    have hS' := q S _ nW hS
    show wpAny _ A.in1 (updateSeq S (fun _ => #[v, v]) >>= _) _ _ _
    refine wpAny_bind (wpAny_updateSeq hS' rfl ?_)
    rw [nm2]
    refine wpAny_pure ⟨plainId_quiet F.plain_max_loop _, again W bt cm S nS _ 0 _ v _ rfl hn (W.frame _ _ _ st' fun a ha o e => ?_) p (Heap.get?_update_self _ hS' rfl) fun v' h'' tk'' p' q' => ?_⟩
    · exact (Heap.get?_update_other _ _ (fun h : S = a => nS (by rw [h]; exact ha))).trans e
    · exact hR hn v' h'' tk'' p' fun a o a1 a2 e => q' a o a1 a2 ((Heap.get?_update_other _ _ (Ne.symm a2)).trans (q a o a1 e))
end
theorem args1 (a z : Value) : argsOk "max" ⟨[a], [("default", z)]⟩ := by unfold argsOk; kernel_rfl
section
variable {prog : Program} {w : World} {A : Around} {E : Value → Shared → Prop} {s : Shared} {z : Value}
theorem kwcall {id : String} {b : Builtin} {args : List Value} {kw : List (Str × Value)} {Q : Value → Shared → Prop} (q0 : builtinKind id = none) (q1 : plainId id = true) (q2 : entryFor table id = some b) (q3 : argsOk id ⟨args, kw⟩)
    (q4 : wpAny (model prog w) A.in1 (b ⟨args, kw⟩) (fun fin s' => match fin with
      | .done f => (match (Except.ok f : Result) with | .ok (.ret v) => Q v s' | .ok _ => False | .error e => E e s')
      | .again c' => c'.quiet = true ∧ codeAny (model prog w) A c' (fun r s' => match r with | .ok (.ret v) => Q v s' | .ok _ => False | .error e => E e s') s') E s) :
    wpAny (model prog w) A (PySem.call (.builtin id) args kw) Q E s := by
  refine wpAny_call (codeAny_call_builtin q1 q2 ?_)
  simp only [checkBuiltinCall, q0]
  cases sg : Manifest.signature? id with
  | none => exact wpAny_pure q4
  | some sig =>
    simp only [argsOk, sg] at q3
    have z2 : Bind.checkArgs id sig ⟨args, kw⟩ = pure () := q3
    show wpAny _ A.in1 (Bind.checkArgs id sig ⟨args, kw⟩) _ _ s
    rw [z2]; exact wpAny_pure q4
theorem call {x : Value} {Q : Value → Shared → Prop}
    (h : wpAny (model prog w) A.in1 (pyIter x) (fun it s₂ => ∃ I fp wr n P St bt, it = .ref I ∧ Walks prog w A.in1 I fp wr n P St ∧ St 0 s₂.heap ∧ (∀ b ∈ fp, b < s₂.heap.objs.size) ∧ CmpOf prog w A.in1 .Gt P bt ∧
      (n = 0 → ∀ h' tk, (∀ a o, a ∉ wr → s₂.heap.get? a = some o → h'.get? a = some o) → Q z { s₂ with heap := h', toks := tk }) ∧
      (0 < n → ∀ v h' tk, P (argBest bt (n - 1)) v → (∀ a o, a ∉ wr → s₂.heap.get? a = some o → h'.get? a = some o) → Q v { s₂ with heap := h', toks := tk })) E s) :
    wpAny (model prog w) A (PySem.call (.builtin "max") [x] [("default", z)]) Q E s := by
  refine kwcall F.kind_max F.plain_max F.entry_max (args1 x z) ?_
  show wpAny _ A.in1 (Builtin.Builtins.bindParams "max" ["key", "default"] 0 ⟨[], [("default", z)]⟩ >>= _) _ _ s
  refine wpAny_bind (wpAny_of_eq (show Builtin.Builtins.bindParams "max" ["key", "default"] 0 ⟨[], [("default", z)]⟩ = pure [none, some z] from rfl) ?_)
  refine wpAny_bind (wpAny_pure ?_)
  refine wpAny_bind (wpAny_mono h (fun it s₂ h₂ => ?_) fun _ _ e => e)
  obtain ⟨I, fp, wr, n, P, St, bt, rfl, W, st, hfp, cm, q0, q1⟩ := h₂
  refine wpAny_bind (wpAny_newObj_type ?_)
  have nS : s₂.heap.objs.size ∉ fp := fun hm => Nat.lt_irrefl _ (hfp _ hm)
  rw [nm2]
  refine wpAny_pure ⟨plainId_quiet F.plain_max_loop _, first W bt cm s₂.heap.objs.size nS (W.frame _ _ _ st fun b _ o e => Heap.get?_push_of_some _ e) (Heap.get?_push_size _ rfl) (fun hn h' tk k => ?_) fun hn v h' tk p k => ?_⟩
  · exact q0 hn h' tk fun a o a1 e => k a o a1 (Nat.ne_of_lt (Heap.lt_size e)) (Heap.get?_push_of_some _ e)
  · exact q1 hn v h' tk p fun a o a1 e => k a o a1 (Nat.ne_of_lt (Heap.lt_size e)) (Heap.get?_push_of_some _ e)
end
end MX
set_option Elab.async false
set_option linter.all false
set_option maxRecDepth 100000
set_option maxHeartbeats 4000000
namespace MX
open PySem PySem.Spec PyProof.Rows L2
/-- max over a dict's int keys, with a default -/
def rMaxD (xs zs : List V) (H : Hp) (Q : VK) : Prop := ∃ (a : Addr) (kvs : List (Key × V)) (ks : List Int) (z : V), xs = [.ref a] ∧ zs = [z] ∧ Rd H a (.dK kvs) ∧ kvs.map (·.1) = ks.map Sum.inl ∧
  (ks = [] → Q z H) ∧ ∀ m, m ∈ ks → (∀ y, y ∈ ks → y ≤ m) → Q (.int m) H
theorem cr_maxD {X : Cx} (hcalm : X.calm = true) : CallRK X (.builtin "max") [Str.ofString "default"] rMaxD := by
  intro pins s σ H xs zs us ws Q I r rz q
  obtain ⟨a, kvs, ks, zd, rfl, rfl, hd, hks, q0, q1⟩ := q
  obtain ⟨u, rfl, rx⟩ := vals1 r
  cases rx
  obtain ⟨w1, rfl, rw1⟩ := vals1 rz
  obtain ⟨z, lo, vs, rel, dd⟩ := dk_rd I.hok hd
  obtain ⟨ep, hat⟩ := dd.dictAt
  have hkeys : vs.map (·.1) = ks.map Sum.inl := rel.keys.symm.trans hks
  have hl : vs.length = ks.length := by
    have e := congrArg List.length hkeys
    rw [List.length_map, List.length_map] at e
    exact e
  have lta : a < s.heap.objs.size := by obtain ⟨o, es, ho, _⟩ := hat; exact Heap.lt_size ho
  have keyAt : ∀ (i : Nat) (v : Value), (∃ k x, vs[i]? = some (k, x) ∧ (mixKind X.prog X.w).is k v = true) → ∃ t, v = .int (ks.getD i 0) t := by
    rintro i v ⟨k, x, e1, e2⟩
    have e3 : (vs.map (·.1))[i]? = some k := by rw [List.getElem?_map, e1]; rfl
    rw [hkeys, List.getElem?_map] at e3
    cases e4 : ks[i]? with
    | none => rw [e4] at e3; cases e3
    | some y =>
      rw [e4] at e3
      have e5 : Sum.inl y = k := Option.some.inj e3
      subst e5
      rcases keyIs_shape (show keyIs (Sum.inl y) v = true from e2) with ⟨i', t, ek, ev⟩ | ⟨z', t, ek, ev⟩
      · cases ek
        exact ⟨t, by rw [ev, List.getD_eq_getElem?_getD, e4]; rfl⟩
      · cases ek
  refine call (wpAny_pyIter_dict (knd := mixKind X.prog X.w) lo hat ?_)
  refine ⟨s.heap.objs.size, _, _, _, _, _, fun i j => decide (ks.getD i 0 > ks.getD j 0), rfl, Walks.dictKeys (knd := mixKind X.prog X.w) (A := X.A.in1) (I.ok.hd hcalm) s.heap.objs.size a (Nat.ne_of_lt lta) vs ep, ?_, ?_, CmpOf.ints_gt (fun i => ks.getD i 0) keyAt, ?_, ?_⟩
  · exact ⟨⟨_, Heap.get?_push_size _ rfl, rfl, rfl⟩, hat.push _⟩
  · intro b hb
    show b < (s.heap.push _).objs.size
    rw [Heap.size_push]
    rcases (by simpa using hb : b = s.heap.objs.size ∨ b = a) with e | e
    · rw [e]; exact Nat.lt_succ_self _
    · rw [e]; exact Nat.lt_succ_of_lt lta
  · intro hn h' tk k
    have nil : ks = [] := List.length_eq_zero_iff.mp (by omega)
    refine ⟨zd, H, I.kept (t' := tk) fun b o e => k b o (fun hm => ?_) (Heap.get?_push_of_some _ e), rw1, q0 nil⟩
    have : b = s.heap.objs.size := by simpa using hm
    exact absurd (Heap.lt_size e) (by rw [this]; exact Nat.lt_irrefl _)
  · intro hn v h' tk p k
    obtain ⟨t, rfl⟩ := keyAt _ _ p
    have hb := argBest_gt (fun i => ks.getD i 0) (vs.length - 1)
    have hlt : argBest (fun i j => decide (ks.getD i 0 > ks.getD j 0)) (vs.length - 1) < ks.length := by have := hb.1; omega
    have at_ : ∀ i, i < ks.length → ks.getD i 0 ∈ ks := fun i hi => by
      rw [List.getD_eq_getElem?_getD, List.getElem?_eq_getElem hi]; exact List.getElem_mem hi
    refine ⟨.int _, H, I.kept (t' := tk) fun b o e => k b o (fun hm => ?_) (Heap.get?_push_of_some _ e), ⟨t, rfl⟩, q1 _ (at_ _ hlt) fun y hy => ?_⟩
    · have : b = s.heap.objs.size := by simpa using hm
      exact absurd (Heap.lt_size e) (by rw [this]; exact Nat.lt_irrefl _)
    · obtain ⟨j, hj, rfl⟩ := List.getElem_of_mem hy
      have := hb.2 j (by omega)
      rw [List.getD_eq_getElem?_getD, List.getElem?_eq_getElem hj] at this
      exact this
end MX
namespace MI
open PySem PySem.Spec PyProof.Rows L2 JB
def lmax : Int → List Int → Int
  | m, [] => m
  | m, x :: l => lmax (if m < x then x else m) l
theorem lmax_ge : ∀ (l : List Int) (m : Int), m ≤ lmax m l ∧ ∀ y ∈ l, y ≤ lmax m l
  | [], m => ⟨Int.le_refl _, fun _ h => nomatch h⟩
  | x :: l, m => by
    obtain ⟨h1, h2⟩ := lmax_ge l (if m < x then x else m)
    refine ⟨?_, fun y hy => ?_⟩
    · show m ≤ lmax (if m < x then x else m) l
      split at h1 <;> rename_i c
      · rw [if_pos c]; omega
      · rw [if_neg c]; exact h1
    · show y ≤ lmax (if m < x then x else m) l
      rcases List.mem_cons.mp hy with rfl | hy
      · split at h1 <;> rename_i c
        · rw [if_pos c]; exact h1
        · rw [if_neg c]; omega
      · exact h2 y hy
theorem lmax_mem : ∀ (l : List Int) (m : Int), lmax m l = m ∨ lmax m l ∈ l
  | [], m => .inl rfl
  | x :: l, m => by
    show lmax (if m < x then x else m) l = m ∨ lmax (if m < x then x else m) l ∈ x :: l
    rcases lmax_mem l (if m < x then x else m) with h | h
    · rw [h]; split
      · exact .inr List.mem_cons_self
      · exact .inl rfl
    · exact .inr (List.mem_cons_of_mem _ h)
theorem lmax_uniq {x : Int} {l : List Int} {m : Int} (h1 : m ∈ x :: l) (h2 : ∀ y, y ∈ x :: l → y ≤ m) : m = lmax x l := by
  obtain ⟨g1, g2⟩ := lmax_ge l x
  have a : m ≤ lmax x l := by
    rcases List.mem_cons.mp h1 with rfl | h
    · exact g1
    · exact g2 m h
  have b : lmax x l ≤ m := by
    rcases lmax_mem l x with h | h
    · rw [h]; exact h2 x List.mem_cons_self
    · exact h2 _ (List.mem_cons_of_mem _ h)
  omega
def mMaxD (x z : MV) (h : MH) : Out MV := match x with
  | .ref i => match h.get i with
    | some (.dic kvs) => match keysOf kvs with
      | some [] => .ok z h
      | some (y :: l) => .ok (.int (lmax y l)) h
      | none => .bad
    | _ => .bad
  | _ => .bad
def gMaxD (a z : ME) : ME := gBin mMaxD a z
section
variable {X : Cx} {T : Nat → Addr} {E : XK} {e z a b : Expr} {ge gz ga gb : ME} {pos p kp : Pos} {k : Str}
theorem je_maxD (hc : X.calm = true) (hg : Gl X "max") (hm : X.mg "max" = none) (he : JE X T E e ge) (hz : JE X T E z gz)
    (hs : starEach [e] X.env = (false, eval e X.env) :: starEach [] X.env := by rfl) (h1 : backTo pos (starEach [e] X.env) = (false, eval e X.env) :: backTo pos (starEach [] X.env) := by rfl) (h2 : (backTo pos (starEach [e] X.env)).any (·.1) = false := by rfl)
    (h3 : (backToKw pos (keywordEach [⟨some "default", z, kp⟩] X.env)).all (·.1.isSome) = true := by rfl) (h4 : (backToKw pos (keywordEach [⟨some "default", z, kp⟩] X.env)).any (·.1.isNone) = false := by rfl) (h5 : (backToKw pos (keywordEach [⟨some "default", z, kp⟩] X.env)).filterMap (·.1) = [Str.ofString "default"] := by rfl) :
    JE X T E (.Call (.Name "max" p) [e] [⟨some "default", z, kp⟩] pos) (gMaxD ge gz) :=
  PE.le (pe_callBK (MX.cr_maxD hc) hg hm (by decide +kernel) (pa_cons he pa_nil hs) (pk_cons hz pk_nil) (by decide) (by decide) h1 h2 h3 h4 h5) fun σ H Q ⟨ρ, m, h, s, q⟩ => stepE s q fun ρ1 h1 H1 x v s1 e1 r1 q1 => stepE s1 q1 fun ρ2 h2 H2 y w s2 e2 r2 q2 => by
    have r1' := r1.ext e2
    cases r1' with
    | @ref i a hi =>
      have q' : Post ⟨X.K, T⟩ (rV ⟨X.K, T⟩) ρ2 H2 Q E (match h2.get i with
        | some (.dic kvs) => match keysOf kvs with
          | some [] => .ok y h2
          | some (y :: l) => .ok (.int (lmax y l)) h2
          | none => .bad
        | _ => .bad) := q2
      cases g : h2.get i with
      | none => rw [g] at q'; exact q'.elim
      | some ob =>
        rw [g] at q'
        cases ob with
        | dic kvs =>
          dsimp only at q'
          obtain ⟨vs, h3, h4⟩ := s2.hr.obj g hi
          cases k : keysOf kvs with
          | none => rw [k] at q'; exact q'.elim
          | some l =>
            rw [k] at q'
            refine ⟨a, vs, l, w, rfl, rfl, .of h3, keysOf_ok h4 k, fun nil => ?_, fun m1 hm1 hm2 => ?_⟩
            · subst nil
              exact Post.ok (R := rV ⟨X.K, T⟩) (a := y) q' s2.hr r2
            · cases l with
              | nil => cases hm1
              | cons y0 l0 =>
                rw [lmax_uniq hm1 hm2]
                exact Post.ok (R := rV ⟨X.K, T⟩) (a := .int (lmax y0 l0)) q' s2.hr (.int _)
        | _ => exact q'.elim
    | _ => exact q2.elim
def mMaxL (x : MV) (h : MH) : Out MV := match (seqOf h x).bind intsOf with
  | some (y :: l) => if isL x = true then .ok (.int (lmax y l)) h else .bad
  | _ => .bad
theorem mc_maxL {Z : Zt} : CallM Z E (f1 mMaxL) (rMax Z.K) := .one fun ρ h H x v Q R r q => by
  unfold mMaxL at q
  cases g : seqOf h x with
  | none => rw [g] at q; exact q.elim
  | some xs =>
    rw [g] at q
    obtain ⟨a, vs, rfl, r2, hq⟩ := seqOf_ok R r g
    cases k : intsOf xs with
    | none =>
      have q' : Post Z (rV Z) ρ H Q E (match intsOf xs with
        | some (y :: l) => if isL x = true then .ok (.int (lmax y l)) h else .bad
        | _ => .bad) := q
      rw [k] at q'; exact q'.elim
    | some l =>
      have q' : Post Z (rV Z) ρ H Q E (match intsOf xs with
        | some (y :: l) => if isL x = true then .ok (.int (lmax y l)) h else .bad
        | _ => .bad) := q
      rw [k] at q'
      cases l with
      | nil => exact q'.elim
      | cons y l =>
        dsimp only at q'
        by_cases c : isL x = true
        · rw [if_pos c] at q' hq
          refine ⟨a, y :: l, rfl, by rw [← intsOf_ok r2 k]; exact hq, Nat.succ_pos _, fun m h1 h2 => ?_⟩
          rw [lmax_uniq h1 h2]
          exact q'.ok R (.int _)
        · rw [if_neg c] at q'; exact q'.elim
end
end MI
set_option Elab.async false
set_option linter.all false
set_option maxRecDepth 100000
set_option maxHeartbeats 4000000
namespace MI
open PySem PySem.Spec PyProof.Rows L2 JB
def gAug (i : Nat) (f : Int → Int → Int) (a : ME) : MS := fun m h => match m[i]? with
  | some (some (.int p)) => (a m h).bindS fun y h1 => match y with
    | .int q => .nx (m.set i (some (.int (f p q)))) h1
    | _ => .bad
  | _ => .bad
section
variable {X : Cx} {T : Nat → Addr} {E : XK} {e o a f : Expr} {ge go ga gf : ME} {pos pos' apos cpos : Pos} {x : Str} {i : Nat}
theorem js_aug {op : Operator} {g : Int → Int → Int} (ho : PIp X op (ipI g)) (hN : X.N.Nodup) (hi : X.N[i]? = some x) (hx : Loc X.env.scope x) (he : JE X T E e ge)
    (hf : X.fn x = true ∨ X.env.scope.names.lookup x = some .local := by first | exact .inl rfl | exact .inr rfl | assumption) : JS X T E (.AugAssign (.Name x pos') op e pos) (gAug i g ge) :=
  PS.le (ps_aug hN hi hx he ho hf) fun D σ H ⟨ρ, m, h, s, q⟩ => by
    unfold gAug at q
    cases k : m[i]? with
    | none => rw [k] at q; exact q.elim
    | some ov =>
      cases ov with
      | none => rw [k] at q; exact q.elim
      | some xv =>
        rw [k] at q
        obtain ⟨v, k1, k2⟩ := s.slot i xv k
        cases k2 with
        | int p =>
          refine ⟨_, k1, sE s q fun ρ1 h1 H1 y w s1 e1 r1 q1 => ?_⟩
          cases r1 with
          | int j => exact ⟨p, j, rfl, rfl, q1 ρ1 H1 _ .refl (s1.set i (.int _))⟩
          | _ => exact q1.elim
        | _ => exact q.elim
def gDget2 (d k x : ME) : ME := fun m h => (d m h).bind fun z h1 => if isD h1 z = true then (k m h1).bind fun y h2 => (x m h2).bind fun u h3 => match dGet h3 z y with
  | some (some v) => .ok v h3
  | some none => .ok u h3
  | none => .bad
  else .bad
theorem je_dget2 (hu : X.A.units + 1 < cLine) (ho : JE X T E o go) (ha : JE X T E a ga) (hf : JE X T E f gf) (m2 : M2 X o "get" apos a f cpos) : JE X T E (.Call (.Attribute o "get" apos) [a, f] [] cpos) (gDget2 go ga gf) :=
  PE.le (pe_dget2 hu ho ha hf m2) fun σ H Q ⟨ρ, m, h, s, q⟩ => stepE s q fun ρ1 h1 H1 x v s1 e1 r1 q1 => by
    by_cases d : isD h1 x = true
    · rw [if_pos d] at q1
      obtain ⟨a, rfl, hd⟩ := isD_ok s1.hr r1 d
      refine ⟨a, rfl, hd, stepE s1 q1 fun ρ2 h2 H2 y w s2 e2 r2 q2 => stepE s2 q2 fun ρ3 h3 H3 u z s3 e3 r3 q3 => ?_⟩
      cases k : dGet h3 x y with
      | none => rw [k] at q3; exact q3.elim
      | some oo =>
        rw [k] at q3
        obtain ⟨aa, o', ea, h4, h5⟩ := dGet_ok s3.hr ((r1.ext e2).ext e3) (r2.ext e3) k
        cases ea
        rcases h5 with ⟨rfl, rfl⟩ | ⟨y', w', rfl, rfl, h6⟩
        · exact ⟨none, h4, Post.ok (R := rV ⟨X.K, T⟩) (a := u) q3 s3.hr r3⟩
        · exact ⟨some w', h4, Post.ok (R := rV ⟨X.K, T⟩) (a := y') q3 s3.hr h6⟩
    · rw [if_neg d] at q1; exact q1.elim
end
theorem pass_E00 {P : Program} {w : World} {X : Cx} : Passes (L2.CX P w) X E00 := fun _ _ _ _ _ _ _ ⟨_, _, _, _, _, _, _, _, _, _, _, _, f⟩ => f.elim
section
variable {X : Cx} {T : Nat → Addr} {E : XK} {c : Expr} {gc : MT}
theorem PTs.le {es : List Expr} {t t' : TT} (p : PTs X es t) (k : ∀ σ H Q, t' σ H Q → t σ H Q) : PTs X es t' := ⟨fun pins s σ H Q I h => p.run pins s σ H Q I (k σ H Q h)⟩
theorem jts_nil : PTs X [] (tT ⟨X.K, T⟩ E gYes) := PTs.le pts_nil fun σ H Q ⟨ρ, m, h, s, q⟩ => Post.ok (R := rB) (a := true) q s.hr rfl
theorem jts_one (h : JT X T E c gc) : PTs X [c] (tT ⟨X.K, T⟩ E gc) := pts_one h
end
section
variable {X : Cx} {T : Nat → Addr} {E : XK} {elt tg iter : Expr} {ifs : List Expr} {scope : Scope} {pos : Pos} {gi : MI1} {c : CT} {gt : MT} {ge : ME} {ow : List Nat}
theorem je_lcA (own : List (Str × Nat)) (how : own.map (·.2) = ow) (hc : X.calm = true) (hN : X.N.Nodup) (hi : JI X T E tg iter gi) (ok : BlkOk X.N X.env.scope scope own)
    (hg : ∀ (s : Shared) (H : Hp) (C : Addr) (cl : List (Str × Addr)) (fp : List Addr), PG (X.blk s H scope (compEnvC scope cl C X.env) fp) tg (tCT X.K c))
    (ht : ∀ (s : Shared) (H : Hp) (C : Addr) (cl : List (Str × Addr)) (fp : List Addr), PTs (X.blk s H scope (compEnvC scope cl C X.env) fp) ifs (tT ⟨X.K, T⟩ E00 gt))
    (he : ∀ (s : Shared) (H : Hp) (C : Addr) (cl : List (Str × Addr)) (fp : List Addr), JE (X.blk s H scope (compEnvC scope cl C X.env) fp) T E00 elt ge)
    (hv : ∀ i ∈ c.slots, i ∈ ow) (hs : ∀ x, foldedSetIterable iter X.env x = pure x := by intro _; rfl) :
    JE X T E (.ListComp elt [⟨tg, iter, ifs, 0⟩] scope pos) (gLc gi c gt ge ow) := by
  subst how
  exact je_lc hc hN hi ok hg ht he hv hs
theorem js_setLcA {i : Nat} {y : Str} {py spos : Pos} (own : List (Str × Nat)) (how : own.map (·.2) = ow) (hy : X.N[i]? = some y) (hyl : X.env.scope.names.lookup y = some .local) (hc : X.calm = true) (hN : X.N.Nodup)
    (hsw : swapsWith (.ListComp elt [⟨tg, iter, ifs, 0⟩] scope pos) (some (.Name y py)) spos.line X.env = pure true) (hi : JI X T E tg iter gi) (ok : BlkOk X.N X.env.scope scope own)
    (hg : ∀ (s : Shared) (H : Hp) (C : Addr) (cl : List (Str × Addr)) (fp : List Addr), PG (X.blk s H scope (compEnvC scope cl C X.env) fp) tg (tCT X.K c))
    (ht : ∀ (s : Shared) (H : Hp) (C : Addr) (cl : List (Str × Addr)) (fp : List Addr), PTs (X.blk s H scope (compEnvC scope cl C X.env) fp) ifs (tT ⟨X.K, T⟩ E00 gt))
    (he : ∀ (s : Shared) (H : Hp) (C : Addr) (cl : List (Str × Addr)) (fp : List Addr), JE (X.blk s H scope (compEnvC scope cl C X.env) fp) T E00 elt ge)
    (hv : ∀ i ∈ c.slots, i ∈ ow) (hs : ∀ x, foldedSetIterable iter X.env x = pure x := by intro _; rfl) :
    JS X T E (.Assign [.Name y py] (.ListComp elt [⟨tg, iter, ifs, 0⟩] scope pos) spos) (gAsg (gLc gi c gt ge ow) (tgName i)) := by
  subst how
  exact js_setLc hy hyl hc hN hsw hi ok hg ht he hv hs
end
section
variable {P : Program} {w : World} {K : PySem.W.Frag} {mg : Str → Option Value} {base : Heap} {T : Nat → Addr} {k : Nat} {f : Addr}
variable {x qual : Str} {params : Arguments} {body : List Stmt} {scope : Scope} {dvs : List V} {kws : List (Str × V)} {fd : FuncData} {N ps : List Str}
theorem def_MD (F : FunD K x qual params body scope dvs kws f fd) (S : FnScope N ps scope) (gs : MS)
    (hb : ∀ (cdv : Value) (A : Around) (outer : List Env) (s : Shared) (H : Hp) (E : XK),
      JB.Still (A.deeper (envOfC qual scope s.heap.objs.size f cdv)) → Room k (A.deeper (envOfC qual scope s.heap.objs.size f cdv)) →
      JSs (cxOf (L2.CX P w) P w K mg base N qual scope f cdv A outer s H E) T E body gs) :
    FnG P w K mg base (L2.CX P w) (k + 1) f fd ps (spM ⟨K, T⟩ ps.length (gBody N.length gs)) := by
  obtain ⟨oc, od, dV, kV, doc, pm, an, cdv, ct, osl, rfl, lk, hcd, _, _⟩ := F.ex
  refine fn_g lk hcd S (fun _ _ _ _ ⟨_, _, _, _, _, h, _⟩ => h) fun A outer s H vs Q E hst hr ⟨ρ, h, as, r, a, hl, p⟩ => ?_
  exact ⟨_, hb cdv A outer s H E hst hr, ρ, _, h, start_M r a, body_M p⟩
theorem FM.of0 {n : Nat} {g : MF} (F : FunD K x qual params body scope [] kws f fd) (G : FnG P w K mg base (L2.CX P w) k f fd ps (spM ⟨K, T⟩ ps.length g)) (hn : ps.length = n)
    (hb : ∀ (kV doc pm : Value) (an : Option Addr) (cdv ct : Value) (us : List Value), us.length = ps.length → bindArgs (PySem.W.fnOf x qual params body scope .none kV doc pm an cdv ct) ⟨us, []⟩ = pure (ps.zip us)) : FM P w K mg base T k f n [] g :=
  ⟨fd, ps, [], [], hn, G, F.kp, F.bindsN hb, .nil, fun _ _ => .nil⟩
theorem FM.ofD {n j m : Nat} {g : MF} {dm : List MV} (F : FunD K x qual params body scope dvs kws f fd) (G : FnG P w K mg base (L2.CX P w) k f fd ps (spM ⟨K, T⟩ ps.length g)) (hn : ps.length = n) (hd : dvs ≠ []) (hm : m + (dvs.length - j) = ps.length)
    (hb : ∀ (T : Addr) (kV doc pm : Value) (an : Option Addr) (cdv ct : Value) (us its : List Value), us.length = m → its.length = dvs.length →
      ∃ k, bindArgs (PySem.W.fnOf x qual params body scope (.ref T) kV doc pm an cdv ct) ⟨us, []⟩ = seqItems? (.ref T) >>= k ∧ k (some its.toArray) = pure (ps.zip (us ++ its.drop j)))
    (hr : ∀ ρ H, RVs ⟨K, T⟩ ρ H dm (dvs.drop j)) : FM P w K mg base T k f n dm g := by
  obtain ⟨ds, h1, h2⟩ := F.binds1 m j hd hm hb
  exact ⟨fd, ps, ds, dvs.drop j, hn, G, F.kp, h2, h1, hr⟩
end
theorem mt_extA {X : Cx} : MtR X "list.extend" (fun x vs H Q => rExtend x vs H Q ∨ rExtT X.K x vs H Q) := by
  intro pins s σ H x xs v us Q I r1 r2 h
  rcases h with h | h
  · exact mt_extend pins s σ H x xs v us Q I r1 r2 h
  · exact mt_extT pins s σ H x xs v us Q I r1 r2 h
/-- the i-th default of a def is an empty tuple -/
inductive Fc where
  | etup (p : Str × Option Str) (i : Nat)
def etupB (K : PySem.W.Frag) (a : Addr) : Bool := match K.lookup a with
  | some ⟨.type c, _, .seq its _, _⟩ => decide (c = "tuple") && its.isEmpty
  | _ => false
theorem etupB_ok {K : PySem.W.Frag} {a : Addr} (h : etupB K a = true) (H : Hp) : SqT K H a [] := by
  unfold etupB at h
  cases q : K.lookup a with
  | none => rw [q] at h; cases h
  | some o =>
    obtain ⟨oc, od, dt, osl⟩ := o
    rw [q] at h
    cases oc with
    | type c =>
      cases dt with
      | seq its n =>
        obtain ⟨h1, h2⟩ := He.ba (show (decide (c = "tuple") && its.isEmpty) = true from h)
        have e : its = #[] := Array.isEmpty_iff.mp h2
        subst e
        exact .inr ⟨_, _, n, q, congrArg Value.type (of_decide_eq_true h1), rfl, Nat.zero_le _, .nil⟩
      | _ => cases h
    | _ => cases dt <;> cases h
def Fc.ok (K : PySem.W.Frag) : Fc → Bool
  | .etup p i => etupB K (He.dflAt p i K)
def hookM (n : Nat) (fa : List He.Fa) (fn : List He.DefD) (fc : List Fc) : PySem.W.Hook where
  α := He.AlD × Bool
  obs := fun s => (He.obsD fa fn (He.frG s.heap.get? (He.asD s.heap.get? n)), fc.all fun f => f.ok (He.frG s.heap.get? (He.asD s.heap.get? n)))
  val := fun _ => (He.valD fn, true)
  says := fun _ h => ∃ K : PySem.W.Frag, K.In h ∧ He.SaysD fa fn K ∧ fc.all (fun f => f.ok K) = true
  of := fun _ _ e => ⟨_, He.frG_in, congrArg Prod.fst e, congrArg Prod.snd e⟩
  keeps := fun _ _ _ ⟨K, hK, c⟩ k => ⟨K, PySem.W.Frag.In.keeps hK k, c⟩
def obM (n : Nat) (fa : List He.Fa) (fn : List He.DefD) (fc : List Fc) (g : Addr → Option Obj) : He.AlD × Bool := (He.obsD fa fn (He.frG g (He.asD g n)), fc.all fun f => f.ok (He.frG g (He.asD g n)))
theorem obM_eq {n : Nat} {fa : List He.Fa} {fn : List He.DefD} {fc : List Fc} {g : Addr → Option Obj} {s : Shared} (h : ∀ a, g a = s.heap.get? a) : obM n fa fn fc g = (hookM n fa fn fc).obs s := by
  have e : g = s.heap.get? := funext h
  rw [e] <;> rfl
/-- what a proof leans on -/
structure Fx (fa : List He.Fa) (fn : List He.DefD) (fc : List Fc) (K : PySem.W.Frag) (mg : Str → Option Value) : Prop where
  ex : ∃ h : Heap, K.In h ∧ h.Ns mainGlobals mg
  c : He.SaysD fa fn K
  x : fc.all (fun f => f.ok K) = true
section
variable {fa : List He.Fa} {fn : List He.DefD} {fc : List Fc} {K : PySem.W.Frag} {mg : Str → Option Value}
theorem Fx.glo (F : Fx fa fn fc K mg) (i : Nat) {x : Str} (h : fa[i]? = some (.glo x) := by rfl) : mg x = some (.ref (He.ga K x)) := by
  obtain ⟨_, X, G⟩ := F.ex; exact He.glo_ok X G (F.c.fact i h)
theorem Fx.free (F : Fx fa fn fc K mg) (i : Nat) {x : Str} (h : fa[i]? = some (.free x) := by rfl) : mg x = none := by
  obtain ⟨_, X, G⟩ := F.ex; exact He.free_ok X G (F.c.fact i h)
theorem Fx.int (F : Fx fa fn fc K mg) (i : Nat) {x : Str} {n : Int} (h : fa[i]? = some (.int x n) := by rfl) : ∃ t, mg x = some (.int n t) := by
  obtain ⟨_, X, G⟩ := F.ex; exact He.int_ok X G (F.c.fact i h)
theorem Fx.str (F : Fx fa fn fc K mg) (i : Nat) {x z : Str} (h : fa[i]? = some (.str x z) := by rfl) : ∃ t, mg x = some (.str z t) := by
  obtain ⟨_, X, G⟩ := F.ex; exact He.str_ok X G (F.c.fact i h)
theorem Fx.cls (F : Fx fa fn fc K mg) (i : Nat) {x : Str} (h : fa[i]? = some (.cls x) := by rfl) : Cls K (He.ga K x) := He.cls_ok (F.c.fact i h)
theorem Fx.noat (F : Fx fa fn fc K mg) (i : Nat) {x f : Str} (h : fa[i]? = some (.noat x f) := by rfl) : NoAttr K (He.ga K x) f := He.noat_ok (F.c.fact i h)
theorem Fx.meth (F : Fx fa fn fc K mg) (i : Nat) {x m : Str} (h : fa[i]? = some (.meth x m) := by rfl) : Meth K (He.ga K x) m (He.ma K (He.ga K x) m) := He.meth_ok (F.c.fact i h)
theorem Fx.mkr (F : Fx fa fn fc K mg) (i : Nat) {x : Str} (h : fa[i]? = some (.mkr x) := by rfl) : Mk K (He.ga K x) (He.ma K (He.ga K x) "__init__") := He.mkr_ok (F.c.fact i h)
theorem Fx.extra (F : Fx fa fn fc K mg) (i : Nat) {f : Fc} (h : fc[i]? = some f := by rfl) : f.ok K = true := List.all_eq_true.mp F.x f (List.mem_of_getElem? h)
end
theorem walk_GE {l : PySem.W.OpenLaw} {n k : Nat} {q : Program} {loose : List Str} {XP : (Str → Option Value) → Heap → Prop} {YP : World → Heap → Prop} {d : DefRec} {x : Str}
    (hn : l.most = some n) (hn2 : n ≤ sizeLine) (hdf : d.params.defaults = []) (hr : Room k callerA)
    (F : ∀ (w : World) (mg : Str → Option Value) (fa : Addr) (h : Heap), YP w h → h.Ns mainGlobals mg → mg d.name = some (.ref fa) →
      ∃ (K : PySem.W.Frag) (fd : FuncData) (sp : Sp), K.In h ∧ (∀ (s : Shared) (u : Value), BindsTo s fd ⟨[u], []⟩ [(x, u)]) ∧
        (∀ (H : Hp) (a : Addr) (ns : List Int), ns.length ≤ n → Only H → SqL K H a (ns.map V.int) → sp [.ref a] H (fun v _ => v = .bl true) fun _ _ _ => False) ∧
        ∀ base : Heap, K.In base → base.Ns mainGlobals mg → FnG l.prog w K mg base (L2.CX l.prog w) k fa fd [x] sp) :
    PySem.W.WalkO q loose XP YP l.row.toRowW d [] (fun f vs => PySem.call f vs) := by
  refine Att.attach_call hn hdf fun w s₀ s₁ mg mb fa o pm cd doc a vs ns G Y ho hd hcd hmg hobj hints hlen hg => ?_
  obtain ⟨K, fd, sp, KX, hb, hsp, hF⟩ := F w mg fa _ Y G.T.g hmg
  exact law_callG KX G.T.g G.T.b G.T.builtins G.T.nolimit hg hobj hints (Nat.le_trans hlen hn2) hr hF hb (fun H hO hS => hsp H a ns hlen hO hS)
    fun _ _ _ ⟨_, _, _, _, _, _, _, _, _, _, _, _, f⟩ => f
theorem fz_of {K : PySem.W.Frag} {H : Hp} {a : Addr} {vs : List V} (o : Only H) (h : SqL K H a vs) : FzL K H a vs := by
  rcases h with (h | ⟨ob, h⟩) | h
  · rcases o a with z | ⟨ob, xs, z⟩
    · rw [h] at z; cases z
    · rw [h] at z; cases z
  · exact .inl ⟨ob, h⟩
  · exact .inr (.inr h)
theorem law_sp {Z : Zt} {g : MF} {H : Hp} {a : Addr} {ns : List Int} {h' : MH} {E : XK} (o : Only H) (s : SqL Z.K H a (ns.map V.int)) (e : g [.fls (ns.map .int)] .empty = .ok (.bl true) h') : spM Z 1 g [.ref a] H (fun v _ => v = .bl true) E :=
  ⟨[], .empty, [.fls (ns.map .int)], HR.nil, .cons (.fls (fz_of o s) (RVs.ints ns)) .nil, rfl, by
    rw [e]
    intro ρ' H' b e r q
    cases q
    rfl⟩
end MI
set_option Elab.async false
set_option linter.all false
set_option maxRecDepth 100000
set_option maxHeartbeats 4000000
namespace TM
open PySem PySem.Spec PyProof.Rows L2
theorem mul1 (l : Addr) (its : Array Value) (n : Nat) (dd : Option Addr) (sl : Array (Option Value)) (x : Int) (u : Tok) (q0 : (decide (x < -(2 ^ 63)) || decide (x ≥ 2 ^ 63)) = false) (q1 : (its.isEmpty || x == 1) = true) :
    Meets (Builtin.«tuple.__mul__» ⟨[.ref l, .int x u], []⟩) (fun _ R s => s.heap.get? l = some { cls := .type "tuple", dict := dd, data := .seq its n, slots := sl } ∧ R (.ok (.ret (Value.ref l))) s) :=
  .of_wp fun prog w A R s h => by
    obtain ⟨hp, g, d, tk, os⟩ := s
    obtain ⟨hl, h⟩ := h
    have f1 := AutoSeq1.idx_int
    wp_walk using wpAny_loadPart' hl
    repeat (first
      | (refine wpAny_ite_false (decide_eq_false (by rw [q0]; exact Bool.false_ne_true)) ?_; wp_walk using wpAny_loadPart' hl)
      | (refine wpAny_ite_true (decide_eq_true q1) ?_; wp_walk using wpAny_loadPart' hl))
    exact ⟨_, rfl, h⟩
theorem mul0 (l : Addr) (its : Array Value) (n : Nat) (dd : Option Addr) (sl : Array (Option Value)) (x : Int) (u : Tok) (q0 : (decide (x < -(2 ^ 63)) || decide (x ≥ 2 ^ 63)) = false) (q1 : (its.isEmpty || x == 1) = false) (q2 : (decide (x ≤ 0) || its.isEmpty) = true) :
    Meets (Builtin.«tuple.__mul__» ⟨[.ref l, .int x u], []⟩) (fun _ R s => s.heap.get? l = some { cls := .type "tuple", dict := dd, data := .seq its n, slots := sl } ∧
      R (.ok (.ret (Value.ref s.heap.objs.size))) { s with heap := s.heap.push { cls := Value.type "tuple", data := Data.seq #[] }, toks := s.toks }) :=
  .of_wp fun prog w A R s h => by
    obtain ⟨hp, g, d, tk, os⟩ := s
    obtain ⟨hl, h⟩ := h
    have f1 := AutoSeq1.idx_int
    wp_walk using wpAny_loadPart' hl
    repeat (first
      | (refine wpAny_ite_false (decide_eq_false (by rw [q0]; exact Bool.false_ne_true)) ?_; wp_walk using wpAny_loadPart' hl)
      | (refine wpAny_ite_false (decide_eq_false (by rw [q1]; exact Bool.false_ne_true)) ?_; wp_walk using wpAny_loadPart' hl)
      | (refine wpAny_ite_true (decide_eq_true q2) ?_; wp_walk using wpAny_loadPart' hl)
      | (refine wpAny_ite_false (decide_eq_false (by decide)) ?_; wp_walk using wpAny_loadPart' hl))
    exact ⟨_, rfl, h⟩
def rRep01 (K : PySem.W.Frag) : R2 := fun x y H Q => ∃ l k xs, x = .ref l ∧ y = .int k ∧ SqT K H l xs ∧ xs ≠ [] ∧ -1000 ≤ k ∧ k ≤ 1 ∧ (k = 1 → Q (.ref l) H) ∧ (k ≤ 0 → ∀ p, H p = none → Q (.ref p) (upd H p (.tup [])))
section
variable {X : Cx}
theorem op_rep01 : OpR X (binaryOp .Mult) (rRep01 X.K) := by
  intro pins s σ H x y v u Q I rx ry h
  obtain ⟨l, k, xs, rfl, rfl, hT, hne, h1, h2, qa, qb⟩ := h
  cases rx
  obtain ⟨t, rfl⟩ := ry
  obtain ⟨its, r, ⟨⟨cls, dd, data, sl⟩, ho, hc, n, hd⟩, hs⟩ := I.tuple hT
  simp only at hc hd
  subst hc hd
  have hle : its.length = xs.length := r.length.symm
  have hi : its.toArray.isEmpty = false := by
    cases its with
    | nil => exact absurd (List.eq_nil_of_length_eq_zero hle.symm) hne
    | cons a b => rfl
  have q0 : (decide (k < -(2 ^ 63)) || decide (k ≥ 2 ^ 63)) = false := by
    rw [decide_eq_false (by omega), decide_eq_false (by omega)] <;> rfl
  refine wpAny_binaryOp_repeat_ref (T := "tuple") (U := "int") (by decide) ⟨_, ho, rfl⟩ (fun s' => typeIs_int s' k t) noFill_tuple_mul F.fills_int_mul F.slot_int_rmul repeat_tuple F.slot_int_index.lookup
    (call_meets F.slot_int_rmul (typeIs_int s k t) F.entry_int_rmul (F.args_int_rmul_2 _ _) (int_rmul_tuple k t l its.toArray n dd sl) ⟨ho, rfl, ⟨_, ho, rfl⟩, ?_⟩)
  by_cases e : k = 1
  · subst e
    exact call_meets F.slot_tuple_mul ⟨_, ho, rfl⟩ F.entry_tuple_mul (F.args_tuple_mul_2 _ _) (mul1 l its.toArray n dd sl 1 t q0 (by rw [hi]; rfl)) ⟨ho, .ref l, H, I.tok _, rfl, qa rfl⟩
  · have e0 : k ≤ 0 := by omega
    refine call_meets F.slot_tuple_mul ⟨_, ho, rfl⟩ F.entry_tuple_mul (F.args_tuple_mul_2 _ _) (mul0 l its.toArray n dd sl k t q0 (by rw [hi, Bool.false_or]; exact beq_eq_false_iff_ne.mpr e) (by rw [decide_eq_true e0]; rfl)) ⟨ho, ?_⟩
    refine ⟨.ref s.heap.objs.size, _, I.laid (t' := s.toks) (o := .tup []) (fun b ob q => Heap.get?_push_of_some _ q) (Nat.le_refl _) ?_, rfl, qb e0 _ (I.hok.fresh (Nat.le_refl _))⟩
    exact ⟨Nat.zero_le _, [], .nil, IsTup.new _ _⟩
end
end TM
namespace MI
open PySem PySem.Spec PyProof.Rows L2 JB
def mRepT (x y : MV) (h : MH) : Out MV := match x, y with
  | .tup xs, .int k => if xs.isEmpty = false ∧ -1000 ≤ k ∧ k ≤ 1000 ∧ xs.length ≤ 1000 then (if k = 1 then .ok (.tup xs) h else .ok (.tup (reps xs k.toNat)) h) else .bad
  | .ktp xs, .int k => if xs.isEmpty = false ∧ -1000 ≤ k ∧ k ≤ 1000 ∧ xs.length ≤ 1000 then (if k = 1 then .ok (.ktp xs) h else .ok (.tup (reps xs k.toNat)) h) else .bad
  | _, _ => .bad
abbrev rRepTA (K : PySem.W.Frag) : R2 := fun x y H Q => rRepT K x y H Q ∨ TM.rRep01 K x y H Q
theorem repT_ok {Z : Zt} {E : XK} {ρ : List Addr} {h : MH} {H : Hp} {Q : VK} {a : Addr} {xs : List MV} {vs : List V} {k : Int} {t : MV} (R : HR Z ρ h H) (hs : SqT Z.K H a vs) (r : RVs Z ρ H xs vs) (rt : RV Z ρ H t (.ref a))
    (p : Post Z (rV Z) ρ H Q E (if xs.isEmpty = false ∧ -1000 ≤ k ∧ k ≤ 1000 ∧ xs.length ≤ 1000 then (if k = 1 then .ok t h else .ok (.tup (reps xs k.toNat)) h) else .bad)) : rRepTA Z.K (.ref a) (.int k) H Q := by
  by_cases c : xs.isEmpty = false ∧ -1000 ≤ k ∧ k ≤ 1000 ∧ xs.length ≤ 1000
  · rw [if_pos c] at p
    obtain ⟨c1, c2, c3, c4⟩ := c
    have ne : vs ≠ [] := by
      intro z
      have := r.nil_iff.mp z
      rw [this] at c1; cases c1
    by_cases e : k = 1
    · rw [if_pos e] at p
      exact .inr ⟨a, k, vs, rfl, rfl, hs, ne, c2, by omega, fun _ => p.ok R rt, fun z => by omega⟩
    · rw [if_neg e] at p
      by_cases e0 : k ≤ 0
      · refine .inr ⟨a, k, vs, rfl, rfl, hs, ne, c2, by omega, fun z => absurd z e, fun _ pp hp => ?_⟩
        have hz : k.toNat = 0 := by omega
        rw [hz] at p
        exact p ρ _ _ (Ext.still1 hp) (R.still1 hp) (.tup upd_same .nil)
      · refine .inl ⟨a, k, vs, rfl, rfl, hs, ne, by omega, c3, by rw [← r.length]; exact c4, fun pp hp => ?_⟩
        rw [reps_eq]
        exact p ρ _ _ (Ext.still1 hp) (R.still1 hp) (.tup upd_same ((r.ext (Ext.still1 hp)).reps _))
  · rw [if_neg c] at p; exact p.elim
theorem om_repT {Z : Zt} {E : XK} : OpM Z E mRepT (rRepTA Z.K) := fun ρ h H x y v w Q R r q p => by
  cases r with
  | tup h1 r1 =>
    cases q with
    | int k => exact repT_ok R (.inl (.inl h1)) r1 (.tup h1 r1) p
    | _ => exact p.elim
  | ktp h1 r1 =>
    cases q with
    | int k => exact repT_ok R (ktp_sq h1) r1 (.ktp h1 r1) p
    | _ => exact p.elim
  | _ => exact p.elim
theorem fold_reps (s : List Nat) : ∀ (n : Nat) (acc : Array Nat), (List.replicate n s.toArray).foldl (· ++ ·) acc = (acc.toList ++ reps s n).toArray
  | 0, acc => by simp [reps]
  | n + 1, acc => by
    rw [List.replicate_succ, List.foldl_cons, fold_reps s n]
    simp [reps]
def mRepS (x y : MV) (h : MH) : Out MV := match x, y with
  | .str s, .int k => if -1000 ≤ k ∧ k ≤ 1000 ∧ s.length ≤ 1000 then .ok (.str (reps s k.toNat)) h else .bad
  | _, _ => .bad
abbrev rRepS : R2 := fun x y H Q => ∃ (s : List Nat) (k : Int), x = .str (S1 s) ∧ y = .int k ∧ -1000 ≤ k ∧ k ≤ 1000 ∧ s.length ≤ 1000 ∧ Q (.str (S1 (reps s k.toNat))) H
theorem reps_nil {α : Type} : ∀ n, reps ([] : List α) n = []
  | 0 => rfl
  | n + 1 => by show [] ++ reps [] n = []; rw [reps_nil n]; rfl
theorem mul_txt (s : List Nat) (k : Int) : Txt.mul (S1 s) k = S1 (reps s k.toNat) := by
  unfold Txt.mul
  by_cases c : k < 1
  · rw [if_pos c]
    have : k.toNat = 0 := by omega
    rw [this]; rfl
  · rw [if_neg c]
    by_cases d : (k == 1 || (S1 s).length == 0) = true
    · rw [if_pos d]
      rcases Bool.or_eq_true_iff.mp d with e | e
      · have : k = 1 := by simpa using e
        subst this
        show S1 s = S1 (s ++ reps s 0)
        simp [reps]
      · have e' : s.toArray.size = 0 := by simpa [S1, Str.length] using e
        have : s = [] := by simpa using e'
        subst this
        rw [reps_nil]
    · rw [if_neg d]
      show Str.mk (List.foldl _ #[] (List.replicate k.toNat s.toArray)) = _
      rw [fold_reps]
      rfl
theorem op_repS {X : Cx} : OpR X (binaryOp .Mult) rRepS := by
  intro pins st σ H x y v u Q I rx ry h
  obtain ⟨s, k, rfl, rfl, h1, h2, h3, q⟩ := h
  obtain ⟨t, rfl⟩ := rx
  obtain ⟨t', rfl⟩ := ry
  have hl : (S1 s).length ≤ 1000 := by show s.toArray.size ≤ 1000; simpa using h3
  refine SB.mul ⟨by rw [decide_eq_false (by omega), decide_eq_false (by omega)] <;> rfl, fun c1 c2 => ?_, fun c1 c2 => ?_⟩ fun t'' tk => ⟨.str (S1 (reps s k.toNat)), H, I.tok _, ⟨_, by rw [mul_txt]⟩, q⟩
  · have : (2 ^ 63 - 1) / k ≥ (2 ^ 63 - 1) / 1000 := by
      refine Int.le_ediv_of_mul_le (by omega) ?_
      have : (2 ^ 63 - 1) / 1000 * k ≤ (2 ^ 63 - 1) / 1000 * 1000 := Int.mul_le_mul_of_nonneg_left h2 (by decide)
      omega
    omega
  · have : (S1 s).length * k.toNat ≤ 1000 * 1000 := Nat.mul_le_mul hl (by omega)
    show decide ((S1 s).length * k.toNat > sizeLine) = false
    exact decide_eq_false (by rw [sizeLine_eq]; omega)
theorem om_repS {Z : Zt} {E : XK} : OpM Z E mRepS rRepS := fun ρ h H x y v w Q R r q p => by
  cases r with
  | str s =>
    cases q with
    | int k =>
      have p' : Post Z (rV Z) ρ H Q E (if -1000 ≤ k ∧ k ≤ 1000 ∧ s.length ≤ 1000 then .ok (.str (reps s k.toNat)) h else .bad) := p
      by_cases c : -1000 ≤ k ∧ k ≤ 1000 ∧ s.length ≤ 1000
      · rw [if_pos c] at p'
        exact ⟨s, k, rfl, rfl, c.1, c.2.1, c.2.2, p'.ok R (.str _)⟩
      · rw [if_neg c] at p'; exact p'.elim
    | _ => exact p.elim
  | _ => exact p.elim
def isTup : MV → Bool
  | .tup _ => true
  | .ktp _ => true
  | _ => false
def isStr : MV → Bool
  | .str _ => true
  | _ => false
/-- a * b of any kind -/
def mMulA (x y : MV) (h : MH) : Out MV := if isTup x = true then mRepT x y h else if isStr x = true then mRepS x y h else mMulV x y h
section
variable {X : Cx} {T : Nat → Addr} {E : XK} {a b : Expr} {ga gb : ME} {pos : Pos}
theorem je_mulA (ha : JE X T E a ga) (hb : JE X T E b gb) : JE X T E (.BinOp a .Mult b pos) (gBin mMulA ga gb) :=
  je_bin_or (f2 := fun x y h => if isStr x = true then mRepS x y h else mMulV x y h) (je_op (OpR.or op_repT TM.op_rep01) om_repT ha hb)
    (je_bin_or (je_op op_repS om_repS ha hb) (je_mulV ha hb) fun x y h => by
      by_cases c : isStr x = true
      · exact .inl (if_pos c)
      · exact .inr (if_neg c)) fun x y h => by
    unfold mMulA
    by_cases c : isTup x = true
    · exact .inl (if_pos c)
    · exact .inr (if_neg c)
end
/-- it gives True -/
def okT (o : Out MV) : Bool := match o with
  | .ok (.bl true) _ => true
  | _ => false
theorem okT_ok {o : Out MV} (h : okT o = true) : ∃ h', o = .ok (.bl true) h' := by
  cases o with
  | ok v h' =>
    cases v with
    | bl b => cases b with
      | true => exact ⟨h', rfl⟩
      | false => cases h
    | _ => cases h
  | _ => cases h
/-- a closed call that gives True, wherever it stands -/
theorem clo_ok {g : MF} {as : List MV} {h : MH} (n : noRefs as = true) (e : okT (g as .empty) = true) : clo g as h = .ok (.bl true) h := by
  obtain ⟨h', e⟩ := okT_ok e
  unfold clo
  rw [if_pos n, e]
  rfl
end MI
set_option Elab.async false
set_option linter.all false
set_option maxRecDepth 100000
set_option maxHeartbeats 4000000
namespace MI
open PySem PySem.Spec PyProof.Rows L2 JB
/-- values put in another order: out of those by position, the defaults, the keywords' -/
def pick {α : Type} (idx : List (Nat × Nat)) (us its ws : List α) : List α := idx.filterMap fun q => match q.1 with
  | 0 => us[q.2]?
  | 1 => its[q.2]?
  | _ => ws[q.2]?
theorem vals_at {vs : List V} {us : List Value} (r : Vals vs us) : ∀ i : Nat, (vs[i]? = none ∧ us[i]? = none) ∨ ∃ v u, vs[i]? = some v ∧ us[i]? = some u ∧ RelV v u := by
  induction r with
  | nil => intro i; exact .inl ⟨by simp, by simp⟩
  | cons a r ih =>
    intro i
    cases i with
    | zero => exact .inr ⟨_, _, rfl, rfl, a⟩
    | succ i => simpa using ih i
theorem rvs_at {Z : Zt} {ρ : List Addr} {H : Hp} : ∀ {xs : List MV} {vs : List V}, RVs Z ρ H xs vs → ∀ i : Nat, (xs[i]? = none ∧ vs[i]? = none) ∨ ∃ v u, xs[i]? = some v ∧ vs[i]? = some u ∧ RV Z ρ H v u
  | _, _, .nil, i => .inl ⟨by simp, by simp⟩
  | _, _, .cons a r, 0 => .inr ⟨_, _, rfl, rfl, a⟩
  | _, _, .cons a r, i + 1 => by simpa using rvs_at r i
theorem pick_vals {vs ds zs : List V} {us its ws : List Value} (r : Vals vs us) (d : Vals ds its) (z : Vals zs ws) : ∀ idx, Vals (pick idx vs ds zs) (pick idx us its ws)
  | [] => .nil
  | q :: l => by
    have ih := pick_vals r d z l
    unfold pick at ih ⊢
    obtain ⟨a, i⟩ := q
    rw [List.filterMap_cons, List.filterMap_cons]
    match a with
    | 0 =>
      dsimp only
      rcases vals_at r i with ⟨e1, e2⟩ | ⟨v, u, e1, e2, e3⟩
      · rw [e1, e2]; exact ih
      · rw [e1, e2]; exact .cons e3 ih
    | 1 =>
      dsimp only
      rcases vals_at d i with ⟨e1, e2⟩ | ⟨v, u, e1, e2, e3⟩
      · rw [e1, e2]; exact ih
      · rw [e1, e2]; exact .cons e3 ih
    | n + 2 =>
      dsimp only
      rcases vals_at z i with ⟨e1, e2⟩ | ⟨v, u, e1, e2, e3⟩
      · rw [e1, e2]; exact ih
      · rw [e1, e2]; exact .cons e3 ih
theorem pick_rvs {Z : Zt} {ρ : List Addr} {H : Hp} {vs ds zs : List MV} {us its ws : List V} (r : RVs Z ρ H vs us) (d : RVs Z ρ H ds its) (z : RVs Z ρ H zs ws) : ∀ idx, RVs Z ρ H (pick idx vs ds zs) (pick idx us its ws)
  | [] => .nil
  | q :: l => by
    have ih := pick_rvs r d z l
    unfold pick at ih ⊢
    obtain ⟨a, i⟩ := q
    rw [List.filterMap_cons, List.filterMap_cons]
    match a with
    | 0 =>
      dsimp only
      rcases rvs_at r i with ⟨e1, e2⟩ | ⟨v, u, e1, e2, e3⟩
      · rw [e1, e2]; exact ih
      · rw [e1, e2]; exact .cons e3 ih
    | 1 =>
      dsimp only
      rcases rvs_at d i with ⟨e1, e2⟩ | ⟨v, u, e1, e2, e3⟩
      · rw [e1, e2]; exact ih
      · rw [e1, e2]; exact .cons e3 ih
    | n + 2 =>
      dsimp only
      rcases rvs_at z i with ⟨e1, e2⟩ | ⟨v, u, e1, e2, e3⟩
      · rw [e1, e2]; exact ih
      · rw [e1, e2]; exact .cons e3 ih
/-- a def that may be called with np values by position and the keywords ks -/
structure FK (P : Program) (w : World) (K : PySem.W.Frag) (mg : Str → Option Value) (base : Heap) (T : Nat → Addr) (k : Nat) (f : Addr) (n np : Nat) (ks : List Str) (idx : List (Nat × Nat)) (dm : List MV) (g : MF) : Prop where
  ex : ∃ fd ps its dvs, ps.length = n ∧ FnG P w K mg base (L2.CX P w) k f fd ps (spM ⟨K, T⟩ ps.length g) ∧ PySem.W.keepIn K (.ref f) = true ∧ KBn K fd ps np ks (fun us ws => pick idx us its ws) (fun vs zs => pick idx vs dvs zs) ∧ (∀ ρ H, RVs ⟨K, T⟩ ρ H dm dvs)
section
variable {P : Program} {w : World} {K : PySem.W.Frag} {mg : Str → Option Value} {base : Heap} {T : Nat → Addr} {k : Nat} {f : Addr}
variable {x qual : Str} {params : Arguments} {body : List Stmt} {scope : Scope} {dvs : List V} {kws : List (Str × V)} {fd : FuncData} {ps : List Str}
theorem FK.of0 {n np : Nat} {ks : List Str} {idx : List (Nat × Nat)} {g : MF} (F : FunD K x qual params body scope [] kws f fd) (G : FnG P w K mg base (L2.CX P w) k f fd ps (spM ⟨K, T⟩ ps.length g)) (hn : ps.length = n)
    (hb : ∀ (kV doc pm : Value) (an : Option Addr) (cdv ct : Value) (us ws : List Value), us.length = np → ws.length = ks.length → bindArgs (PySem.W.fnOf x qual params body scope .none kV doc pm an cdv ct) ⟨us, ks.zip ws⟩ = pure (ps.zip (pick idx us [] ws))) :
    FK P w K mg base T k f n np ks idx [] g := by
  obtain ⟨oc, od, dV, kV, doc, pm, an, cdv, ct, osl, rfl, lk, hcd, hD, hK⟩ := F.ex
  rcases hD with ⟨_, rfl⟩ | ⟨e, _⟩
  · exact ⟨_, ps, [], [], hn, G, F.kp, ⟨fun s us ws X l1 l2 => .of_eq (hb kV doc pm an cdv ct us ws l1 l2), fun r1 r2 => pick_vals r1 .nil r2 idx⟩, fun _ _ => .nil⟩
  · exact absurd rfl e
theorem FK.ofD {n np : Nat} {ks : List Str} {idx : List (Nat × Nat)} {dm : List MV} {g : MF} (F : FunD K x qual params body scope dvs kws f fd) (G : FnG P w K mg base (L2.CX P w) k f fd ps (spM ⟨K, T⟩ ps.length g)) (hn : ps.length = n) (hd : dvs ≠ [])
    (hb : ∀ (T : Addr) (kV doc pm : Value) (an : Option Addr) (cdv ct : Value) (us its ws : List Value), us.length = np → its.length = dvs.length → ws.length = ks.length →
      ∃ k, bindArgs (PySem.W.fnOf x qual params body scope (.ref T) kV doc pm an cdv ct) ⟨us, ks.zip ws⟩ = seqItems? (.ref T) >>= k ∧ k (some its.toArray) = pure (ps.zip (pick idx us its ws)))
    (hr : ∀ ρ H, RVs ⟨K, T⟩ ρ H dm dvs) : FK P w K mg base T k f n np ks idx dm g := by
  obtain ⟨its, h⟩ := F.kbindsD np ks (fun us its ws => pick idx us its ws) hd (fun r d z => pick_vals r d z idx) hb
  exact ⟨fd, ps, its, dvs, hn, G, F.kp, h, hr⟩
end
/-- the keywords' values -/
abbrev JK (X : Cx) (T : Nat → Addr) (E : XK) (kws : List Keyword) (g : MA) : Prop := PK X kws (tA ⟨X.K, T⟩ E g)
theorem PK.le {X : Cx} {kws : List Keyword} {t t' : TA} (p : PK X kws t) (k : ∀ σ H Q, t' σ H Q → t σ H Q) : PK X kws t' := ⟨fun po pins s σ H Q I h => p.run po pins s σ H Q I (k σ H Q h)⟩
def gCallK (g : MF) (dm : List MV) (n np nk : Nat) (idx : List (Nat × Nat)) (a ak : MA) : ME := fun m h => (a m h).bind fun as h1 => (ak m h1).bind fun zs h2 =>
  if as.length = np ∧ zs.length = nk ∧ (pick idx as dm zs).length = n then g (pick idx as dm zs) h2 else .bad
def gMethK (c : Nat) (f : Nat) (g : MF) (dm : List MV) (n np nk : Nat) (idx : List (Nat × Nat)) (o : ME) (a ak : MA) : ME := fun m h => (o m h).bind fun x h1 => match x with
  | .ref i => match h1.get i with
    | some (.ins c' fs) => if c' = c ∧ (fs.lookup f).isNone = true then (a m h1).bind fun as h2 => (ak m h2).bind fun zs h3 =>
        if as.length + 1 = np ∧ zs.length = nk ∧ (pick idx (x :: as) dm zs).length = n then g (pick idx (x :: as) dm zs) h3 else .bad else .bad
    | _ => .bad
  | _ => .bad
def gMakeK (c : Nat) (g : MF) (dm : List MV) (n np nk : Nat) (idx : List (Nat × Nat)) (a ak : MA) : ME := fun m h => (a m h).bind fun as h1 => (ak m h1).bind fun zs h2 =>
  if as.length + 1 = np ∧ zs.length = nk ∧ (pick idx (.ref h2.n :: as) dm zs).length = n then
  (g (pick idx (.ref h2.n :: as) dm zs) (h2.push (.ins c []))).bind fun r h3 => match r with
    | .non => .ok (.ref h2.n) h3
    | _ => .bad
  else .bad
section
variable {X : Cx} {T : Nat → Addr} {E : XK} {k : Nat} {f C : Addr} {dm : List MV} {g : MF} {n np : Nat} {x me : Str} {mi : Nat} {p pos apos kpos : Pos} {e o : Expr} {es : List Expr} {ga gk : MA} {go ge : ME} {kws : List Keyword} {ks : List Str} {idx : List (Nat × Nat)} {nm' : Option Str}
theorem jk_nil : JK X T E [] gNil := PK.le pk_nil fun σ H Q ⟨ρ, m, h, s, q⟩ => q.ok s.hr .nil
theorem jk_cons (ha : JE X T E e ge) (hr : JK X T E kws gk) : JK X T E (⟨nm', e, kpos⟩ :: kws) (gCons ge gk) :=
  PK.le (pk_cons ha hr) fun σ H Q ⟨ρ, m, h, s, q⟩ => stepE s q fun ρ1 h1 H1 x v s1 e1 r1 q1 => stepA s1 q1 fun ρ2 h2 H2 xs vs s2 e2 r2 q2 => q2.ok s2.hr (.cons (r1.ext e2) r2)
theorem run_gK {CX : CXT} {fd : FuncData} {ps : List Str} {sp : Sp} {G : List Value → List Value → List Value} {gV : List V → List V → List V} {pins : List (Addr × Obj)} {σ : L2.St} {H : Hp} {s : Shared} {Q : VK} {us ws : List Value} {vs zs : List V} (hs : JB.Still X.A)
    (F : FnG X.prog X.w X.K X.mg X.base CX k f fd ps sp) (hr : Room k X.A) (hb : KBn X.K fd ps np ks G gV) (hx : Passes CX X E)
    (I : Inv X pins σ H s) (r : Vals vs us) (rz : Vals zs ws) (l1 : vs.length = np) (l2 : zs.length = ks.length) (h : sp (gV vs zs) H Q E) : wpAny (model X.prog X.w) X.A (call (.ref f) us (ks.zip ws)) (EP X pins σ Q) X.xe s := by
  have r2 := hb.rel r rz
  refine wpAny_call (codeAny_mono (F.goes X.A X.stack s H ⟨us, ks.zip ws⟩ (G us ws) (gV vs zs) Q E hs hr I.env0 (hb.to s us ws I.kIn (r.length.symm.trans l1) (rz.length.symm.trans l2)) r2 h) fun r s' hq => ?_)
  cases r with
  | error e => exact hx pins σ H s e s' I hq
  | ok fl => cases fl <;> first | exact I.after hq | exact False.elim hq
theorem run_makeGK {CX : CXT} {fd : FuncData} {ps : List Str} {sp : Sp} {G : List Value → List Value → List Value} {gV : List V → List V → List V} {pins : List (Addr × Obj)} {σ : L2.St} {H : Hp} {s : Shared} {Q : VK} {us ws : List Value} {vs zs : List V} (hs : JB.Still X.A)
    (M : Mk X.K C f) (F : FnG X.prog X.w X.K X.mg X.base CX k f fd ps sp) (hr : Room (k + 1) X.A) (hb : KBn X.K fd ps np ks G gV) (hx : Passes CX X E)
    (I : Inv X pins σ H s) (r : Vals vs us) (rz : Vals zs ws) (l1 : vs.length + 1 = np) (l2 : zs.length = ks.length)
    (h : ∀ y dx, H y = none → H dx = none → dx ≠ y → sp (gV (.ref y :: vs) zs) (upd (upd H dx (.own y)) y (.ins C dx [])) (fun v H2 => v = .non ∧ Q (.ref y) H2) E) :
    wpAny (model X.prog X.w) X.A (call (.ref C) us (ks.zip ws)) (EP X pins σ Q) X.xe s := by
  have hq := h (s.heap.objs.size + 1) s.heap.objs.size (I.hok.fresh (Nat.le_succ _)) (I.hok.fresh (Nat.le_refl _)) (Nat.ne_of_lt (Nat.lt_succ_self _))
  have I2 := Inv.made (C := C) I
  have r1 : Vals (V.ref (s.heap.objs.size + 1) :: vs) (Value.ref (s.heap.objs.size + 1) :: us) := .cons rfl r
  have r2 := hb.rel r1 rz
  have n1 : (Value.ref (s.heap.objs.size + 1) :: us).length = np := by rw [List.length_cons, ← r.length, l1]
  refine wpAny_call (make_map (f := f) I.kIn M.makes M.init (beq_iff_eq.mp M.fn) (codeAny_mono (F.goes _ X.stack _ _ ⟨Value.ref (s.heap.objs.size + 1) :: us, ks.zip ws⟩ (G (Value.ref (s.heap.objs.size + 1) :: us) ws) _ _ E (still_make hs) (hr.make C us (ks.zip ws))
    (I2.env0.make C us (ks.zip ws)) (hb.to _ (Value.ref (s.heap.objs.size + 1) :: us) ws I2.kIn n1 (rz.length.symm.trans l2)) r2 hq) fun z s' hq' => ?_))
  cases z with
  | error er => exact hx pins σ _ _ er s' I2 hq'
  | ok fl =>
    cases fl with
    | ret u =>
      obtain ⟨v, H', I3, rv, ev, q3⟩ := I2.after hq'
      subst ev
      exact ⟨rv, ⟨V.ref (s.heap.objs.size + 1), H', I3, rfl, q3⟩⟩
    | _ => exact False.elim hq'
/-- the argument lists' bond -/
theorem go_spK {ρ : List Addr} {h : MH} {H : Hp} {Q : VK} {as : List MV} {vs : List V} {ps : List Str} (r : HR ⟨X.K, T⟩ ρ h H) (a : RVs ⟨X.K, T⟩ ρ H as vs) (hn : as.length = ps.length)
    (q : Post ⟨X.K, T⟩ (rV ⟨X.K, T⟩) ρ H Q E (g as h)) : spM ⟨X.K, T⟩ ps.length g vs H Q E :=
  ⟨ρ, h, as, r, a, (RVs.length a).symm.trans hn, q⟩
theorem argsK {ρ : List Addr} {m : ML} {h : MH} {H : Hp} {σ : L2.St} {Q : VK} {dvs : List V} {ps : List Str} (hdm : ∀ ρ H, RVs ⟨X.K, T⟩ ρ H dm dvs) (s0 : SR ⟨X.K, T⟩ ρ m h σ H) (q : Post ⟨X.K, T⟩ (rV ⟨X.K, T⟩) ρ H Q E (gCallK g dm ps.length np ks.length idx ga gk m h)) :
    tA ⟨X.K, T⟩ E ga σ H (fun vs H1 => tA ⟨X.K, T⟩ E gk σ H1 fun zs H2 => vs.length = np ∧ zs.length = ks.length ∧ spM ⟨X.K, T⟩ ps.length g (pick idx vs dvs zs) H2 Q E) := by
  refine stepA s0 q fun ρ1 h1 H1 xs vs s1 e1 r1 q1 => stepA s1 q1 fun ρ2 h2 H2 ys zs s2 e2 r2 q2 => ?_
  by_cases hn : xs.length = np ∧ ys.length = ks.length ∧ (pick idx xs dm ys).length = ps.length
  · rw [if_pos hn] at q2
    exact ⟨by rw [← hn.1]; exact (RVs.length r1).symm, by rw [← hn.2.1]; exact (RVs.length r2).symm, go_spK s2.hr (pick_rvs (r1.ext e2) (hdm _ _) r2 idx) hn.2.2 q2⟩
  · rw [if_neg hn] at q2
    exact q2.elim
theorem je_callK (F : FK X.prog X.w X.K X.mg X.base T k f n np ks idx dm g) (hs : JB.Still X.A) (hr : Room k X.A) (hx : Passes (L2.CX X.prog X.w) X E) (hg : Gl X x) (hm : X.mg x = some (.ref f)) (ha : JA X T E (e :: es) ga) (hkw : JK X T E kws gk)
    (hall : (backToKw pos (keywordEach kws X.env)).all (·.1.isSome) = true := by rfl) (hks : (backToKw pos (keywordEach kws X.env)).filterMap (·.1) = ks := by rfl)
    (hdb : (x == ("__debug__" : Str)) = false := by decide) (he : starEach (e :: es) X.env = (false, eval e X.env) :: starEach es X.env := by rfl)
    (hpl : ((backTo pos (starEach (e :: es) X.env)).any (·.1) || (backToKw pos (keywordEach kws X.env)).any (·.1.isNone)) = false := by rfl) :
    JE X T E (.Call (.Name x p) (e :: es) kws pos) (gCallK g dm n np ks.length idx ga gk) := by
  obtain ⟨fd, ps, its, dvs, rfl, F, hk, hb, hdm⟩ := F.ex
  refine ⟨fun pins s σ H Q I ⟨ρ, m, h, s0, q⟩ => ?_⟩
  refine wpAny_Call_Name_kw (ld_glob I hg hm ?_ hdb)
  refine PySem.W.callWith_KW (h₀ := X.base) I.ok.mod.kin hk hall (thn (ha.run pos pins s σ H (fun vs H1 => tA ⟨X.K, T⟩ E gk σ H1 fun zs H2 => vs.length = np ∧ zs.length = ks.length ∧ spM ⟨X.K, T⟩ ps.length g (pick idx vs dvs zs) H2 Q E) I
    (argsK (hdm · ·) s0 q)) fun us s1 ⟨vs, H1, I1, r, q1⟩ => ?_) hpl he
  refine thn (hkw.run pos pins s1 σ H1 _ I1 q1) fun ws s2 ⟨zs, H2, I2, rz, l1, l2, q2⟩ => ⟨I2.kIn, ?_⟩
  rw [hks]
  exact run_gK hs F hr hb hx I2 r rz l1 l2 q2
theorem je_callK0 (F : FK X.prog X.w X.K X.mg X.base T k f n 0 ks idx dm g) (hs : JB.Still X.A) (hr : Room k X.A) (hx : Passes (L2.CX X.prog X.w) X E) (hg : Gl X x) (hm : X.mg x = some (.ref f)) (hkw : JK X T E kws gk)
    (hall : (backToKw pos (keywordEach kws X.env)).all (·.1.isSome) = true := by rfl) (hks : (backToKw pos (keywordEach kws X.env)).filterMap (·.1) = ks := by rfl)
    (hdb : (x == ("__debug__" : Str)) = false := by decide)
    (hpl : ((backTo pos (starEach [] X.env)).any (·.1) || (backToKw pos (keywordEach kws X.env)).any (·.1.isNone)) = false := by rfl) :
    JE X T E (.Call (.Name x p) [] kws pos) (gCallK g dm n 0 ks.length idx gNil gk) := by
  obtain ⟨fd, ps, its, dvs, rfl, F, hk, hb, hdm⟩ := F.ex
  refine ⟨fun pins s σ H Q I ⟨ρ, m, h, s0, q⟩ => ?_⟩
  refine wpAny_Call_Name_kw (ld_glob I hg hm ?_ hdb)
  refine PySem.W.callWith_KW0 (h₀ := X.base) I.ok.mod.kin hk hall ?_ hpl
  obtain ⟨ρ1, m1, h1, s1, q1⟩ := argsK (np := 0) (ga := gNil) (hdm · ·) s0 q
  refine thn (hkw.run pos pins s σ H _ I (q1.ok s1.hr .nil)) fun ws s2 ⟨zs, H2, I2, rz, l1, l2, q2⟩ => ⟨I2.kIn, ?_⟩
  rw [hks]
  exact run_gK (us := []) (vs := []) hs F hr hb hx I2 .nil rz l1 l2 q2
theorem methK {ρ : List Addr} {m : ML} {h : MH} {σ : L2.St} {H : Hp} {Q : VK} {dvs : List V} {ps : List Str} {c : Nat} (hmi : me = nm mi) (hdm : ∀ ρ H, RVs ⟨X.K, T⟩ ρ H dm dvs)
    (s : SR ⟨X.K, T⟩ ρ m h σ H) (q : Post ⟨X.K, T⟩ (rV ⟨X.K, T⟩) ρ H Q E (gMethK c mi g dm ps.length np ks.length idx go ga gk m h)) :
    tE ⟨X.K, T⟩ E go σ H fun y H1 => ∃ a dx fs, y = .ref a ∧ H1 a = some (.ins (T c) dx fs) ∧ fs.lookup me = none ∧ tA ⟨X.K, T⟩ E ga σ H1 fun vs H2 => tA ⟨X.K, T⟩ E gk σ H2 fun zs H3 =>
      vs.length + 1 = np ∧ zs.length = ks.length ∧ spM ⟨X.K, T⟩ ps.length g (pick idx (.ref a :: vs) dvs zs) H3 Q E := by
  refine stepE s q fun ρ1 h1 H1 y v s1 e1 r1 q1 => ?_
  cases r1 with
  | @ref i a hi =>
    have q2 : Post _ (rV ⟨X.K, T⟩) ρ1 H1 Q E (match h1.get i with
      | some (.ins c' fs) => if c' = c ∧ (fs.lookup mi).isNone = true then (ga m h1).bind fun as h2 => (gk m h2).bind fun zs h3 =>
        if as.length + 1 = np ∧ zs.length = ks.length ∧ (pick idx (.ref i :: as) dm zs).length = ps.length then g (pick idx (.ref i :: as) dm zs) h3 else .bad else .bad
      | _ => .bad) := q1
    cases k : h1.get i with
    | none => rw [k] at q2; exact q2.elim
    | some ob =>
      rw [k] at q2
      obtain ⟨a', ha', ho⟩ := s1.hr.all i ob k
      rw [hi] at ha'
      cases ha'
      cases ob with
      | ins c' fs =>
        obtain ⟨dx, vs, h3, h4⟩ := ho
        dsimp only at q2
        by_cases z : c' = c ∧ (fs.lookup mi).isNone = true
        · obtain ⟨rfl, z⟩ := z
          rw [if_pos ⟨rfl, z⟩] at q2
          refine ⟨a, dx, vs, rfl, h3, ?_, stepA s1 q2 fun ρ2 h2 H2 xs ws s2 e2 r2 q3 => stepA s2 q3 fun ρ3 h3 H3 ys zs s3 e3 r3 q4 => ?_⟩
          · rw [hmi]; rcases h4.lookup mi with ⟨_, w⟩ | ⟨_, _, w, _⟩
            · exact w
            · rw [w] at z; cases z
          · by_cases hn : xs.length + 1 = np ∧ ys.length = ks.length ∧ (pick idx (.ref i :: xs) dm ys).length = ps.length
            · rw [if_pos hn] at q4
              exact ⟨by rw [← hn.1]; exact congrArg (· + 1) (RVs.length r2).symm, by rw [← hn.2.1]; exact (RVs.length r3).symm,
                go_spK s3.hr (pick_rvs (.cons (.ref ((e2.trans e3).at hi)) (r2.ext e3)) (hdm _ _) r3 idx) hn.2.2 q4⟩
            · rw [if_neg hn] at q4
              exact q4.elim
        · rw [if_neg z] at q2
          exact q2.elim
      | _ => exact q2.elim
  | _ => exact q1.elim
theorem je_methK {c : Nat} {pl : Sem Bool} (F : FK X.prog X.w X.K X.mg X.base T k f n np ks idx dm g) (cl : Cls X.K (T c)) (mt : Meth X.K (T c) me f) (hmi : me = nm mi) (hs : JB.Still X.A) (hr : Room k X.A) (hx : Passes (L2.CX X.prog X.w) X E)
    (ho : JE X T E o go) (ha : JA X T E (e :: es) ga) (hkw : JK X T E kws gk)
    (hall : (backToKw pos (keywordEach kws X.env)).all (·.1.isSome) = true := by rfl) (hks : (backToKw pos (keywordEach kws X.env)).filterMap (·.1) = ks := by rfl)
    (hst : starEach (e :: es) X.env = (false, eval e X.env) :: starEach es X.env := by rfl)
    (hpl : ((backTo pos (starEach (e :: es) X.env)).any (·.1) || (backToKw pos (keywordEach kws X.env)).any (·.1.isNone)) = false := by rfl)
    (ht : eval (.Call (.Attribute o me apos) (e :: es) kws pos) X.env = (do
      let ov ← eval o X.env
      standAt apos.atName
      let (f, first) ← holding [ov] (getMethod ov me pl)
      callWith pos f first (backTo pos (starEach (e :: es) X.env)) (backToKw pos (keywordEach kws X.env))) := by rfl) :
    JE X T E (.Call (.Attribute o me apos) (e :: es) kws pos) (gMethK c mi g dm n np ks.length idx go ga gk) := by
  obtain ⟨fd, ps, its, dvs, rfl, F, hk, hb, hdm⟩ := F.ex
  refine ⟨fun pins s σ H Q I ⟨ρ, m, h, s0, q⟩ => ?_⟩
  refine PySem.W.methodCall_KW (pl := pl) (thn (ho.run pins s σ H _ I (methK hmi hdm s0 q)) fun u s1 ⟨y, H1, I1, ry, a, dx, fs, ey, ea, l, q1⟩ => ?_) ht
  subst ey
  obtain rfl : u = Value.ref a := ry
  refine getmeth_ok I1 ea cl mt l (PySem.W.callWith_KW (first := [.ref a]) (h₀ := X.base) I.ok.mod.kin mt.kp hall
    (thn (ha.run pos pins s1 σ H1 _ I1 q1) fun us s2 ⟨vs, H2, I2, r, q2⟩ => ?_) hpl hst)
  refine thn (hkw.run pos pins s2 σ H2 _ I2 q2) fun ws s3 ⟨zs, H3, I3, rz, l1, l2, q3⟩ => ⟨I3.kIn, ?_⟩
  rw [hks]
  exact run_gK (us := .ref a :: us) (vs := .ref a :: vs) hs F hr hb hx I3 (.cons rfl r) rz l1 l2 q3
theorem je_methK0 {c : Nat} {pl : Sem Bool} (F : FK X.prog X.w X.K X.mg X.base T k f n np ks idx dm g) (cl : Cls X.K (T c)) (mt : Meth X.K (T c) me f) (hmi : me = nm mi) (hs : JB.Still X.A) (hr : Room k X.A) (hx : Passes (L2.CX X.prog X.w) X E)
    (ho : JE X T E o go) (hkw : JK X T E kws gk)
    (hall : (backToKw pos (keywordEach kws X.env)).all (·.1.isSome) = true := by rfl) (hks : (backToKw pos (keywordEach kws X.env)).filterMap (·.1) = ks := by rfl)
    (hpl : ((backTo pos (starEach [] X.env)).any (·.1) || (backToKw pos (keywordEach kws X.env)).any (·.1.isNone)) = false := by rfl)
    (ht : eval (.Call (.Attribute o me apos) [] kws pos) X.env = (do
      let ov ← eval o X.env
      standAt apos.atName
      let (f, first) ← holding [ov] (getMethod ov me pl)
      callWith pos f first (backTo pos (starEach [] X.env)) (backToKw pos (keywordEach kws X.env))) := by rfl) :
    JE X T E (.Call (.Attribute o me apos) [] kws pos) (gMethK c mi g dm n np ks.length idx go gNil gk) := by
  obtain ⟨fd, ps, its, dvs, rfl, F, hk, hb, hdm⟩ := F.ex
  refine ⟨fun pins s σ H Q I ⟨ρ, m, h, s0, q⟩ => ?_⟩
  refine PySem.W.methodCall_KW (pl := pl) (thn (ho.run pins s σ H _ I (methK hmi hdm s0 q)) fun u s1 ⟨y, H1, I1, ry, a, dx, fs, ey, ea, l, q1⟩ => ?_) ht
  subst ey
  obtain rfl : u = Value.ref a := ry
  obtain ⟨ρ1, m1, h1, sr1, q1⟩ := q1
  refine getmeth_ok I1 ea cl mt l (PySem.W.callWith_KW0 (first := [.ref a]) (h₀ := X.base) I.ok.mod.kin mt.kp hall
    (thn (hkw.run pos pins s1 σ H1 _ I1 (q1.ok sr1.hr .nil)) fun ws s3 ⟨zs, H3, I3, rz, l1, l2, q3⟩ => ⟨I3.kIn, ?_⟩) hpl)
  rw [hks]
  exact run_gK (us := [.ref a]) (vs := [.ref a]) hs F hr hb hx I3 (.cons rfl .nil) rz l1 l2 q3
theorem makeK {ρ : List Addr} {m : ML} {h : MH} {σ : L2.St} {H : Hp} {Q : VK} {dvs : List V} {ps : List Str} {c : Nat} (hdm : ∀ ρ H, RVs ⟨X.K, T⟩ ρ H dm dvs)
    (s : SR ⟨X.K, T⟩ ρ m h σ H) (q : Post ⟨X.K, T⟩ (rV ⟨X.K, T⟩) ρ H Q E (gMakeK c g dm ps.length np ks.length idx ga gk m h)) :
    tA ⟨X.K, T⟩ E ga σ H fun vs H1 => tA ⟨X.K, T⟩ E gk σ H1 fun zs H2 => vs.length + 1 = np ∧ zs.length = ks.length ∧ ∀ y dx, H2 y = none → H2 dx = none → dx ≠ y →
      spM ⟨X.K, T⟩ ps.length g (pick idx (.ref y :: vs) dvs zs) (upd (upd H2 dx (.own y)) y (.ins (T c) dx [])) (fun v H3 => v = .non ∧ Q (.ref y) H3) E := by
  refine stepA s q fun ρ1 h1 H1 xs vs s1 e1 r1 q1 => stepA s1 q1 fun ρ2 h2 H2 ys zs s2 e2 r2 q2 => ?_
  by_cases hn : xs.length + 1 = np ∧ ys.length = ks.length ∧ (pick idx (.ref h2.n :: xs) dm ys).length = ps.length
  · rw [if_pos hn] at q2
    refine ⟨by rw [← hn.1]; exact congrArg (· + 1) (RVs.length r1).symm, by rw [← hn.2.1]; exact (RVs.length r2).symm, fun y dx hy hdx hne => ?_⟩
    have hy' : upd H2 dx (.own y) y = none := by rw [upd_ne (Ne.symm hne)]; exact hy
    have f1 : Ext ρ2 H2 ρ2 (upd H2 dx (.own y)) := Ext.still1 hdx
    have f2 : Ext ρ2 (upd H2 dx (.own y)) (ρ2 ++ [y]) (upd (upd H2 dx (.own y)) y (.ins (T c) dx [])) := Ext.push hy'
    have s3 : HR ⟨X.K, T⟩ (ρ2 ++ [y]) (h2.push (.ins c [])) (upd (upd H2 dx (.own y)) y (.ins (T c) dx [])) := (s2.hr.still1 hdx).push hy' ⟨dx, [], upd_same, .nil⟩
    have at_ : (ρ2 ++ [y])[h2.n]? = some y := by rw [← s2.hr.len]; simp
    refine go_spK s3 (pick_rvs (.cons (.ref at_) ((r1.ext e2).ext (f1.trans f2))) (hdm _ _) (r2.ext (f1.trans f2)) idx) hn.2.2 ?_
    refine (Post.bind (R := rV ⟨X.K, T⟩) (q2.ext (f1.trans f2))).mono fun v H3 ⟨ρ3, h3, a, e3, r3, ra, q3⟩ => ?_
    cases ra with
    | non => exact ⟨rfl, q3.ok r3 (.ref (e3.at at_))⟩
    | _ => exact q3.elim
  · rw [if_neg hn] at q2
    exact q2.elim
theorem je_makeK {c : Nat} (F : FK X.prog X.w X.K X.mg X.base T k f n np ks idx dm g) (M : Mk X.K (T c) f) (hs : JB.Still X.A) (hr : Room (k + 1) X.A) (hx : Passes (L2.CX X.prog X.w) X E) (hg : Gl X x) (hm : X.mg x = some (.ref (T c)))
    (ha : JA X T E (e :: es) ga) (hkw : JK X T E kws gk)
    (hall : (backToKw pos (keywordEach kws X.env)).all (·.1.isSome) = true := by rfl) (hks : (backToKw pos (keywordEach kws X.env)).filterMap (·.1) = ks := by rfl)
    (hdb : (x == ("__debug__" : Str)) = false := by decide) (he : starEach (e :: es) X.env = (false, eval e X.env) :: starEach es X.env := by rfl)
    (hpl : ((backTo pos (starEach (e :: es) X.env)).any (·.1) || (backToKw pos (keywordEach kws X.env)).any (·.1.isNone)) = false := by rfl) :
    JE X T E (.Call (.Name x p) (e :: es) kws pos) (gMakeK c g dm n np ks.length idx ga gk) := by
  obtain ⟨fd, ps, its, dvs, rfl, F, hk, hb, hdm⟩ := F.ex
  refine ⟨fun pins s σ H Q I ⟨ρ, m, h, s0, q⟩ => ?_⟩
  refine wpAny_Call_Name_kw (ld_glob I hg hm ?_ hdb)
  refine PySem.W.callWith_KW (h₀ := X.base) I.ok.mod.kin M.kp hall (thn (ha.run pos pins s σ H _ I (makeK hdm s0 q)) fun us s1 ⟨vs, H1, I1, r, q1⟩ => ?_) hpl he
  refine thn (hkw.run pos pins s1 σ H1 _ I1 q1) fun ws s2 ⟨zs, H2, I2, rz, l1, l2, q2⟩ => ⟨I2.kIn, ?_⟩
  rw [hks]
  exact run_makeGK hs M F hr hb hx I2 r rz l1 l2 q2
theorem je_makeK0 {c : Nat} (F : FK X.prog X.w X.K X.mg X.base T k f n np ks idx dm g) (M : Mk X.K (T c) f) (hs : JB.Still X.A) (hr : Room (k + 1) X.A) (hx : Passes (L2.CX X.prog X.w) X E) (hg : Gl X x) (hm : X.mg x = some (.ref (T c)))
    (hkw : JK X T E kws gk)
    (hall : (backToKw pos (keywordEach kws X.env)).all (·.1.isSome) = true := by rfl) (hks : (backToKw pos (keywordEach kws X.env)).filterMap (·.1) = ks := by rfl)
    (hdb : (x == ("__debug__" : Str)) = false := by decide)
    (hpl : ((backTo pos (starEach [] X.env)).any (·.1) || (backToKw pos (keywordEach kws X.env)).any (·.1.isNone)) = false := by rfl) :
    JE X T E (.Call (.Name x p) [] kws pos) (gMakeK c g dm n np ks.length idx gNil gk) := by
  obtain ⟨fd, ps, its, dvs, rfl, F, hk, hb, hdm⟩ := F.ex
  refine ⟨fun pins s σ H Q I ⟨ρ, m, h, s0, q⟩ => ?_⟩
  refine wpAny_Call_Name_kw (ld_glob I hg hm ?_ hdb)
  refine PySem.W.callWith_KW0 (h₀ := X.base) I.ok.mod.kin M.kp hall ?_ hpl
  obtain ⟨ρ1, m1, h1, s1, q1⟩ := makeK (ga := gNil) hdm s0 q
  refine thn (hkw.run pos pins s σ H _ I (q1.ok s1.hr .nil)) fun ws s2 ⟨zs, H2, I2, rz, l1, l2, q2⟩ => ⟨I2.kIn, ?_⟩
  rw [hks]
  exact run_makeGK (us := []) (vs := []) hs M F hr hb hx I2 .nil rz l1 l2 q2
end
end MI
set_option Elab.async false
set_option linter.all false
set_option maxRecDepth 100000
set_option maxHeartbeats 4000000
namespace MI
open PySem PySem.Spec PyProof.Rows L2 JB
section
variable {Z : Zt} {ρ : List Addr} {H : Hp} {a : Addr} {od : Obj} {ws : List (Key × V)}
theorem un_ne {b : Addr} {u : HO} (k : H a = some (.frz od (.dK ws))) (e : H b = some u) (n : u ≠ .frz od (.dK ws)) : upd H a (.dK ws) b = some u := by
  rw [upd_ne (fun z => n (by rw [z, k] at e; cases e; rfl))]; exact e
theorem sqT_unlock {vs : List V} {b : Addr} (k : H a = some (.frz od (.dK ws))) (h : SqT Z.K H b vs) : SqT Z.K (upd H a (.dK ws)) b vs := by
  rcases h with (h | ⟨o, h⟩) | h
  · exact .inl (.inl (un_ne k h (by intro z; cases z)))
  · exact .inl (.inr ⟨o, un_ne k h (by intro z; cases z)⟩)
  · exact .inr h
theorem fzL_unlock {K : PySem.W.Frag} {vs : List V} {b : Addr} (k : H a = some (.frz od (.dK ws))) (h : FzL K H b vs) : FzL K (upd H a (.dK ws)) b vs := by
  rcases h with ⟨o, h⟩ | h
  · exact .inl ⟨o, un_ne k h (by intro z; cases z)⟩
  · exact .inr h
mutual
theorem RV.unlock (k : H a = some (.frz od (.dK ws))) {x : MV} {v : V} : RV Z ρ H x v → RV Z ρ (upd H a (.dK ws)) x v
  | .non => .non
  | .bl b => .bl b
  | .int n => .int n
  | .str s => .str s
  | .ty s => .ty s
  | .adr a => .adr a
  | .ref h => .ref h
  | .tup h r => .tup (un_ne k h (by intro z; cases z)) (RVs.unlock k r)
  | .ktp h r => .ktp h (RVs.unlock k r)
  | .fls h r => .fls (fzL_unlock k h) (RVs.unlock k r)
theorem RVs.unlock (k : H a = some (.frz od (.dK ws))) {x : List MV} {v : List V} : RVs Z ρ H x v → RVs Z ρ (upd H a (.dK ws)) x v
  | .nil => .nil
  | .cons h r => .cons (RV.unlock k h) (RVs.unlock k r)
end
theorem RKs.unlock {κ κ' : Type} {f : κ → κ'} (k : H a = some (.frz od (.dK ws))) {x : List (κ × MV)} {v : List (κ' × V)} (h : RKs f Z ρ H x v) : RKs f Z ρ (upd H a (.dK ws)) x v := by
  induction h with
  | nil => exact .nil
  | cons r _ ih => exact .cons (r.unlock k) ih
theorem OR.unlock {b : Addr} {o : MO} (k : H a = Option.some (HO.frz od (HO.dK ws))) (n : b ≠ a) (h : OR Z ρ H b o) : OR Z ρ (upd H a (.dK ws)) b o := by
  cases o with
  | lst xs => obtain ⟨vs, h1, h2⟩ := h; exact ⟨vs, by rw [upd_ne n]; exact h1, h2.unlock k⟩
  | dic xs => obtain ⟨vs, h1, h2⟩ := h; exact ⟨vs, by rw [upd_ne n]; exact h1, h2.unlock k⟩
  | dit xs => obtain ⟨vs, h1, h2⟩ := h; exact ⟨vs, by rw [upd_ne n]; exact h1, h2.unlock k⟩
  | ins C fs => obtain ⟨dx, vs, h1, h2⟩ := h; exact ⟨dx, vs, by rw [upd_ne n]; exact h1, h2.unlock k⟩
  | fdi xs => obtain ⟨dx, vs, h1, h2⟩ := h; exact ⟨dx, vs, by rw [upd_ne n]; exact h1, h2.unlock k⟩
/-- the lock is taken away -/
theorem unlockE {ρ' : List Addr} {H0 : Hp} (ha : a ∈ ρ) (h0 : H0 a = some (.dK ws)) (e : Ext ρ (upd H0 a (.frz od (.dK ws))) ρ' H) : Ext ρ H0 ρ' (upd H a (.dK ws)) :=
  ⟨by obtain ⟨⟨t, q1, q2⟩, _, _⟩ := e; exact ⟨t, q1, fun b hb => upd_none (q2 b hb)⟩, fun b o q s => by
    by_cases hb : b = a
    · subst hb
      rw [h0] at q; cases q
      rcases s with s | s
      · exact s.elim
      · exact absurd ha s
    · rw [upd_ne hb]
      exact e.hold b o (by rw [upd_ne hb]; exact q) s, fun b q => upd_none (e.mono b (upd_none q))⟩
theorem unlockR {ρ' : List Addr} {H0 : Hp} {h' : MH} {j : Nat} {kvs : List (MK × MV)} (hj : ρ[j]? = some a) (h0 : H0 a = some (.dK ws)) (r0 : RKs kOf Z ρ H0 kvs ws) (e : Ext ρ (upd H0 a (.frz od (.dK ws))) ρ' H) (k : H a = some (.frz od (.dK ws))) (R : HR Z ρ' h' H) :
    HR Z ρ' (h'.set j (.dic kvs)) (upd H a (.dK ws)) := by
  have e2 := unlockE (List.mem_of_getElem? hj) h0 e
  have hj' := e.at hj
  have lt : j < h'.n := by rw [← R.len]; exact (List.getElem?_eq_some_iff.mp hj').1
  refine ⟨R.nodup, R.len, fun i o q => ?_, fun i hi => ?_⟩
  · rw [MH.get_set lt] at q
    by_cases c : i = j
    · rw [if_pos c] at q
      cases q
      subst c
      exact ⟨a, hj', ws, upd_same, r0.ext e2⟩
    · rw [if_neg c] at q
      obtain ⟨b, h1, h2⟩ := R.all i o q
      refine ⟨b, h1, h2.unlock k fun z => c ?_⟩
      subst z
      obtain ⟨q1, q2⟩ := List.getElem?_eq_some_iff.mp h1
      exact (List.getElem?_inj q1 R.nodup).mp (h1.trans hj'.symm)
  · rw [MH.get_set lt]
    by_cases c : i = j
    · rw [if_pos c]; rfl
    · rw [if_neg c]; exact R.has i hi
theorem SR.unlock {m : ML} {h : MH} {σ : L2.St} {h' : MH} (k : H a = some (.frz od (.dK ws))) (s : SR Z ρ m h σ H) (R : HR Z ρ h' (upd H a (.dK ws))) : SR Z ρ m h' σ (upd H a (.dK ws)) :=
  ⟨R, s.len, fun i x e => by obtain ⟨v, h1, h2⟩ := s.slot i x e; exact ⟨v, h1, h2.unlock k⟩⟩
end
/-- while the dict at pk is locked -/
def gLock (pk : ML → MH → Option Nat) (g : ME) : ME := fun m h => match pk m h with
  | some j => match h.get j with
    | some (.dic kvs) => match g m (h.set j (.fdi kvs)) with
      | .ok v h' => .ok v (h'.set j (.dic kvs))
      | _ => .bad
    | _ => .bad
  | none => .bad
def gLockS (pk : ML → MH → Option Nat) (g : MS) : MS := fun m h => match pk m h with
  | some j => match h.get j with
    | some (.dic kvs) => match g m (h.set j (.fdi kvs)) with
      | .nx m' h' => .nx m' (h'.set j (.dic kvs))
      | .bk m' h' => .bk m' (h'.set j (.dic kvs))
      | .ct m' h' => .ct m' (h'.set j (.dic kvs))
      | .rt v h' => .rt v (h'.set j (.dic kvs))
      | _ => .bad
    | _ => .bad
  | none => .bad
/-- the dict in a local; the dict in a field of a local -/
def pkV (i : Nat) : ML → MH → Option Nat := fun m _ => match m[i]? with
  | some (some (.ref j)) => some j
  | _ => none
def pkF (i f : Nat) : ML → MH → Option Nat := fun m h => match m[i]? with
  | some (some (.ref j)) => match h.get j with
    | some (.ins _ fs) => match fs.lookup f with
      | some (.ref k) => some k
      | _ => none
    | _ => none
  | _ => none
section
variable {X : Cx} {T : Nat → Addr} {E : XK} {e a tg : Expr} {es : List Expr} {ga : ME} {pos p apos cpos : Pos} {st : Stmt} {pk : ML → MH → Option Nat}
theorem je_lock {g : ME} (he : JE X T E e g) : JE X T E e (gLock pk g) :=
  PE.le (pe_lock he) fun σ H Q ⟨ρ, m, h, s, q⟩ => by
    unfold gLock at q
    cases c : pk m h with
    | none => rw [c] at q; exact q.elim
    | some j =>
      rw [c] at q
      dsimp only at q
      cases g1 : h.get j with
      | none => rw [g1] at q; exact q.elim
      | some ob =>
        rw [g1] at q
        cases ob with
        | dic kvs =>
          obtain ⟨a, ha, vs, h1, h2⟩ := s.hr.all j _ g1
          refine ⟨a, .dK vs, h1, trivial, fun od => ?_⟩
          have e1 : Ext ρ H ρ (upd H a (.frz od (.dK vs))) := s.hr.grow g1 ha _
          have r1 := s.hr.set (o' := .fdi kvs) g1 ha ⟨od, vs, upd_same, h2.ext e1⟩
          refine ⟨ρ, m, _, s.to e1 r1, ?_⟩
          dsimp only at q
          generalize g m (h.set j (.fdi kvs)) = o at q ⊢
          cases o with
          | bad => exact q.elim
          | er _ _ => exact q.elim
          | ok v h' =>
            intro ρ' H' b e2 r2 rv
            have k1 : H' a = some (.frz od (.dK vs)) := e2.hold a _ upd_same (.inl trivial)
            exact ⟨k1, q ρ' _ b (unlockE (List.mem_of_getElem? ha) h1 e2) (unlockR ha h1 h2 e2 k1 r2) (rv.unlock k1)⟩
        | _ => exact q.elim
theorem js_lock {g : MS} (he : JS X T E st g) : JS X T E st (gLockS pk g) :=
  PS.le (ps_lock he) fun D σ H ⟨ρ, m, h, s, q⟩ => by
    unfold gLockS at q
    cases c : pk m h with
    | none => rw [c] at q; exact q.elim
    | some j =>
      rw [c] at q
      dsimp only at q
      cases g1 : h.get j with
      | none => rw [g1] at q; exact q.elim
      | some ob =>
        rw [g1] at q
        cases ob with
        | dic kvs =>
          obtain ⟨a, ha, vs, h1, h2⟩ := s.hr.all j _ g1
          refine ⟨a, .dK vs, h1, trivial, fun od => ?_⟩
          have e1 : Ext ρ H ρ (upd H a (.frz od (.dK vs))) := s.hr.grow g1 ha _
          have r1 := s.hr.set (o' := .fdi kvs) g1 ha ⟨od, vs, upd_same, h2.ext e1⟩
          refine ⟨ρ, m, _, s.to e1 r1, ?_⟩
          dsimp only at q
          generalize g m (h.set j (.fdi kvs)) = o at q ⊢
          cases o with
          | bad => exact q.elim
          | er _ _ => exact q.elim
          | nx m' h' =>
            intro ρ' H' b e2 s2
            have k1 : H' a = some (.frz od (.dK vs)) := e2.hold a _ upd_same (.inl trivial)
            exact ⟨k1, q ρ' _ b (unlockE (List.mem_of_getElem? ha) h1 e2) (s2.unlock k1 (unlockR ha h1 h2 e2 k1 s2.hr))⟩
          | bk m' h' =>
            intro ρ' H' b e2 s2
            have k1 : H' a = some (.frz od (.dK vs)) := e2.hold a _ upd_same (.inl trivial)
            exact ⟨k1, q ρ' _ b (unlockE (List.mem_of_getElem? ha) h1 e2) (s2.unlock k1 (unlockR ha h1 h2 e2 k1 s2.hr))⟩
          | ct m' h' =>
            intro ρ' H' b e2 s2
            have k1 : H' a = some (.frz od (.dK vs)) := e2.hold a _ upd_same (.inl trivial)
            exact ⟨k1, q ρ' _ b (unlockE (List.mem_of_getElem? ha) h1 e2) (s2.unlock k1 (unlockR ha h1 h2 e2 k1 s2.hr))⟩
          | rt v h' =>
            intro ρ' H' b e2 r2 rv
            have k1 : H' a = some (.frz od (.dK vs)) := e2.hold a _ upd_same (.inl trivial)
            exact ⟨k1, q ρ' _ b (unlockE (List.mem_of_getElem? ha) h1 e2) (unlockR ha h1 h2 e2 k1 r2) (rv.unlock k1)⟩
        | _ => exact q.elim
end
def mOfK : MK → MV
  | .inl i => .int i
  | .inr s => .str s
theorem RV.key {Z : Zt} {ρ : List Addr} {H : Hp} : ∀ k : MK, RV Z ρ H (mOfK k) (kV (kOf k))
  | .inl i => .int i
  | .inr s => .str s
def itK (kvs : List (MK × MV)) : It1 := ⟨fun _ => kvs.length, fun i _ => some (kvs[i]?.map fun p => mOfK p.1)⟩
def itVs (kvs : List (MK × MV)) : It1 := ⟨fun _ => kvs.length, fun i _ => some (kvs[i]?.map fun p => p.2)⟩
def itIs (kvs : List (MK × MV)) : It1 := ⟨fun _ => kvs.length, fun i _ => some (kvs[i]?.map fun p => .tup [mOfK p.1, p.2])⟩
theorem RKs.at {Z : Zt} {ρ : List Addr} {H : Hp} {xs : List (MK × MV)} {vs : List (Key × V)} (r : RKs kOf Z ρ H xs vs) : ∀ i : Nat, (xs[i]? = none ∧ vs[i]? = none) ∨ ∃ k x v, xs[i]? = some (k, x) ∧ vs[i]? = some (kOf k, v) ∧ RV Z ρ H x v := by
  induction r with
  | nil => intro i; exact .inl ⟨by simp, by simp⟩
  | @cons k x v xs vs a r ih =>
    intro i
    cases i with
    | zero => exact .inr ⟨k, x, v, rfl, rfl, a⟩
    | succ i => simpa using ih i
section
variable {Z : Zt} {ρ : List Addr} {H : Hp} {a : Addr} {od : Obj} {kvs : List (MK × MV)} {vs : List (Key × V)}
theorem rI_keys (h : H a = some (.frz od (.dK vs))) (r : RKs kOf Z ρ H kvs vs) : rI Z ρ H (itK kvs) (Itk a od vs) := by
  intro i ρ' h' H' e R
  have hk := e.hold a _ h (.inl trivial)
  show match some (kvs[i]?.map fun p => mOfK p.1) with
    | none => True
    | some none => (Itk a od vs).stop i H'
    | some (some x) => (Itk a od vs).go i H' ∧ ∀ v H'', (Itk a od vs).yld i H' v H'' → ∃ ρ'', Ext ρ' H' ρ'' H'' ∧ HR Z ρ'' h' H'' ∧ RV Z ρ'' H'' x v
  rcases r.at i with ⟨e1, e2⟩ | ⟨k, x, v, e1, e2, r1⟩
  · rw [e1]
    exact ⟨hk, List.getElem?_eq_none_iff.mp e2⟩
  · rw [e1]
    refine ⟨⟨hk, (List.getElem?_eq_some_iff.mp e2).1⟩, fun w H'' y => ?_⟩
    obtain ⟨rfl, k', v', e3, rfl⟩ := y
    rw [e2] at e3
    cases e3
    exact ⟨ρ', .refl, R, RV.key k⟩
theorem rI_vals (h : H a = some (.frz od (.dK vs))) (r : RKs kOf Z ρ H kvs vs) : rI Z ρ H (itVs kvs) (Itd a od vs) := by
  intro i ρ' h' H' e R
  have hk := e.hold a _ h (.inl trivial)
  show match some (kvs[i]?.map fun p => p.2) with
    | none => True
    | some none => (Itd a od vs).stop i H'
    | some (some x) => (Itd a od vs).go i H' ∧ ∀ v H'', (Itd a od vs).yld i H' v H'' → ∃ ρ'', Ext ρ' H' ρ'' H'' ∧ HR Z ρ'' h' H'' ∧ RV Z ρ'' H'' x v
  rcases r.at i with ⟨e1, e2⟩ | ⟨k, x, v, e1, e2, r1⟩
  · rw [e1]
    exact ⟨hk, List.getElem?_eq_none_iff.mp e2⟩
  · rw [e1]
    refine ⟨⟨hk, (List.getElem?_eq_some_iff.mp e2).1⟩, fun w H'' y => ?_⟩
    obtain ⟨rfl, k', e3⟩ := y
    rw [e2] at e3
    cases e3
    exact ⟨ρ', .refl, R, r1.ext e⟩
theorem rI_items (h : H a = some (.frz od (.dK vs))) (r : RKs kOf Z ρ H kvs vs) : rI Z ρ H (itIs kvs) (Iti a od vs) := by
  intro i ρ' h' H' e R
  have hk := e.hold a _ h (.inl trivial)
  show match some (kvs[i]?.map fun p => MV.tup [mOfK p.1, p.2]) with
    | none => True
    | some none => (Iti a od vs).stop i H'
    | some (some x) => (Iti a od vs).go i H' ∧ ∀ v H'', (Iti a od vs).yld i H' v H'' → ∃ ρ'', Ext ρ' H' ρ'' H'' ∧ HR Z ρ'' h' H'' ∧ RV Z ρ'' H'' x v
  rcases r.at i with ⟨e1, e2⟩ | ⟨k, x, v, e1, e2, r1⟩
  · rw [e1]
    exact ⟨hk, List.getElem?_eq_none_iff.mp e2⟩
  · rw [e1]
    refine ⟨⟨hk, (List.getElem?_eq_some_iff.mp e2).1⟩, fun w H'' y => ?_⟩
    obtain ⟨p, k', v', e3, rfl, hp, rfl⟩ := y
    rw [e2] at e3
    cases e3
    exact ⟨ρ', Ext.still1 hp, R.still1 hp, .tup upd_same (.cons (RV.key k) (.cons ((r1.ext e).ext (Ext.still1 hp)) .nil))⟩
end
def gWalk (it : List (MK × MV) → It1) (a : ME) : MI1 := fun m h => (a m h).bind fun x h1 => match x with
  | .ref j => match h1.get j with
    | some (.fdi kvs) => .ok (it kvs) h1
    | _ => .bad
  | _ => .bad
section
variable {X : Cx} {T : Nat → Addr} {E : XK} {e a tg : Expr} {es : List Expr} {ga : ME} {pos p apos cpos : Pos}
theorem walk_at {σ : L2.St} {H : Hp} {R : It → Hp → Prop} {it : List (MK × MV) → It1} {ρ : List Addr} {m : ML} {h : MH} (s : SR ⟨X.K, T⟩ ρ m h σ H) (q : Post ⟨X.K, T⟩ (rI ⟨X.K, T⟩) ρ H R E (gWalk it ga m h)) :
    tE ⟨X.K, T⟩ E ga σ H fun x H1 => ∃ ρ1 h1 d od kvs vs, x = .ref d ∧ HR ⟨X.K, T⟩ ρ1 h1 H1 ∧ H1 d = some (.frz od (.dK vs)) ∧ RKs kOf ⟨X.K, T⟩ ρ1 H1 kvs vs ∧ Post ⟨X.K, T⟩ (rI ⟨X.K, T⟩) ρ1 H1 R E (.ok (it kvs) h1) :=
  stepI s q fun ρ1 h1 H1 x v s1 e1 r1 q1 => by
    cases r1 with
    | @ref j ad hj =>
      cases g1 : h1.get j with
      | none => dsimp only at q1; rw [g1] at q1; exact q1.elim
      | some ob =>
        dsimp only at q1
        rw [g1] at q1
        cases ob with
        | fdi kvs =>
          obtain ⟨od, vs, h3, h4⟩ := s1.hr.obj g1 hj
          exact ⟨ρ1, h1, ad, od, kvs, vs, rfl, s1.hr, h3, h4, q1⟩
        | _ => exact q1.elim
    | _ => exact q1.elim
theorem ji_keys (ha : JE X T E a ga) : JI X T E tg a (gWalk itK ga) :=
  PI.le (pi_keys ha) fun σ H R ⟨ρ, m, h, s, q⟩ => by
    obtain ⟨ρ', m', h', s', q'⟩ := walk_at s q
    exact ⟨ρ', m', h', s', q'.mono fun b H' ⟨ρ1, h1, d, od, kvs, vs, e1, R1, h3, h4, z⟩ => ⟨d, od, e1, .inl ⟨vs, h3, Post.ok (R := rI _) z R1 (rI_keys h3 h4)⟩⟩⟩
theorem ji_keysM (ha : JE X T E a ga) (hbase : attributeBase a "keys" X.env (eval a X.env) = eval a X.env := by rfl) (hline : (apos.endLine == cpos.line) = true := by rfl) : JI X T E tg (.Call (.Attribute a "keys" apos) [] [] cpos) (gWalk itK ga) :=
  PI.le (pi_keysM ha hbase hline) fun σ H R ⟨ρ, m, h, s, q⟩ => by
    obtain ⟨ρ', m', h', s', q'⟩ := walk_at s q
    exact ⟨ρ', m', h', s', q'.mono fun b H' ⟨ρ1, h1, d, od, kvs, vs, e1, R1, h3, h4, z⟩ => ⟨d, od, vs, e1, h3, Post.ok (R := rI _) z R1 (rI_keys h3 h4)⟩⟩
theorem ji_values (ha : JE X T E a ga) (hbase : attributeBase a "values" X.env (eval a X.env) = eval a X.env := by rfl) (hline : (apos.endLine == cpos.line) = true := by rfl) : JI X T E tg (.Call (.Attribute a "values" apos) [] [] cpos) (gWalk itVs ga) :=
  PI.le (pi_values ha hbase hline) fun σ H R ⟨ρ, m, h, s, q⟩ => by
    obtain ⟨ρ', m', h', s', q'⟩ := walk_at s q
    exact ⟨ρ', m', h', s', q'.mono fun b H' ⟨ρ1, h1, d, od, kvs, vs, e1, R1, h3, h4, z⟩ => ⟨d, od, vs, e1, h3, Post.ok (R := rI _) z R1 (rI_vals h3 h4)⟩⟩
theorem ji_items {elts : List Expr} {kk : Nat} {tpos : Pos} (ha : JE X T E a ga) (hbase : attributeBase a "items" X.env (eval a X.env) = eval a X.env := by rfl) (hline : (apos.endLine == cpos.line) = true := by rfl) : JI X T E (.Tuple elts kk tpos) (.Call (.Attribute a "items" apos) [] [] cpos) (gWalk itIs ga) :=
  PI.le (pi_items ha hbase hline) fun σ H R ⟨ρ, m, h, s, q⟩ => by
    obtain ⟨ρ', m', h', s', q'⟩ := walk_at s q
    exact ⟨ρ', m', h', s', q'.mono fun b H' ⟨ρ1, h1, d, od, kvs, vs, e1, R1, h3, h4, z⟩ => ⟨d, od, vs, e1, h3, Post.ok (R := rI _) z R1 (rI_items h3 h4)⟩⟩
def mIsL (x : MV) (h : MH) : Out MV := match x with
  | .tup _ => .ok (.bl false) h
  | .non => .ok (.bl false) h
  | .int _ => .ok (.bl false) h
  | .str _ => .ok (.bl false) h
  | .ref j => match h.get j with
    | some (.lst _) => .ok (.bl true) h
    | some (.dic _) => .ok (.bl false) h
    | _ => .bad
  | _ => .bad
theorem je_isL {p1 p2 : Pos} (hg : Gl X "isinstance") (hm : X.mg "isinstance" = none) (hg2 : Gl X "list") (hm2 : X.mg "list" = none) (ha : JE X T E a ga) (hs : starEach [a, .Name "list" p2] X.env = (false, eval a X.env) :: starEach [.Name "list" p2] X.env := by rfl) :
    JE X T E (.Call (.Name "isinstance" p1) [a, .Name "list" p2] [] pos) (gUn mIsL ga) :=
  PE.le (pe_callB (he := hs) call_isi hg hm (by decide +kernel) (pa_cons ha (pa_cons (pe_bltn (v := .ty "list") hg2 hm2 (by decide +kernel) rfl) pa_nil) hs)) fun σ H Q ⟨ρ, m, h, s, q⟩ => stepE s q fun ρ1 h1 H1 x v s1 e1 r1 q1 => by
    have fin : ∀ (t : String) (b : Bool), TyX X.K H1 v (.type t) → PySem.W.kitOne X.K (.type t) (.type "list") = some b → Post ⟨X.K, T⟩ (rV ⟨X.K, T⟩) ρ1 H1 Q E (.ok (.bl b) h1) → rIsi X.K [v, .ty "list"] H1 Q :=
      fun t b ty k z => ⟨v, .ty "list", _, _, b, rfl, .ty _, ty, k, Post.ok (R := rV ⟨X.K, T⟩) z s1.hr (.bl b)⟩
    show rIsi X.K [v, .ty "list"] H1 Q
    cases r1 with
    | non => exact fin _ _ (.base .non) (kit_ty (by decide +kernel)) q1
    | int i => exact fin _ _ (.base (.int i)) (kit_ty (by decide +kernel)) q1
    | str i => exact fin _ _ (.base (.str _)) (kit_ty (by decide +kernel)) q1
    | tup h2 r2 => exact fin _ _ (.base (.tup h2)) (kit_ty (by decide +kernel)) q1
    | @ref j ad hj =>
      have q2 : Post ⟨X.K, T⟩ (rV ⟨X.K, T⟩) ρ1 H1 Q E (match h1.get j with
        | some (.lst _) => .ok (.bl true) h1
        | some (.dic _) => .ok (.bl false) h1
        | _ => .bad) := q1
      cases g1 : h1.get j with
      | none => rw [g1] at q2; exact q2.elim
      | some ob =>
        rw [g1] at q2
        cases ob with
        | lst xs => obtain ⟨vs, h3, _⟩ := s1.hr.obj g1 hj; exact fin _ _ (.base (.lst h3)) (kit_ty (by decide +kernel)) q2
        | dic xs => obtain ⟨vs, h3, _⟩ := s1.hr.obj g1 hj; exact fin _ _ (.base (.dK h3)) (kit_ty (by decide +kernel)) q2
        | _ => exact q2.elim
    | _ => exact q1.elim
def rgM (a b : Int) : List MV := (List.range (b - a).toNat).map fun i => MV.int (a + (i : Nat))
theorem rgM_ok {Z : Zt} {ρ : List Addr} {H : Hp} (a b : Int) : RVs Z ρ H (rgM a b) (rgV a b) := by
  unfold rgM rgV
  generalize List.range (b - a).toNat = l
  induction l with
  | nil => exact .nil
  | cons x l ih => exact .cons (.int _) ih
def gLrg (a : ME) : ME := fun m h => (a m h).bind fun x h1 => match x with
  | .int n => if 0 ≤ n ∧ n ≤ 100000 then .ok (.ref h1.n) (h1.push (.lst (rgM 0 n))) else .bad
  | _ => .bad
theorem je_listRg {p1 p2 q1 q2 : Pos} (hc : X.calm = true) (hg : Gl X "list") (hm : X.mg "list" = none) (hg2 : Gl X "range") (hm2 : X.mg "range" = none) (ha : JE X T E a ga) (na : starEach [a] X.env = (false, eval a X.env) :: starEach [] X.env := by rfl)
    (nb : starEach [.Call (.Name "range" p2) [a] [] q2] X.env = (false, eval (.Call (.Name "range" p2) [a] [] q2) X.env) :: starEach [] X.env := by rfl) :
    JE X T E (.Call (.Name "list" p1) [.Call (.Name "range" p2) [a] [] q2] [] q1) (gLrg ga) :=
  PE.le (pe_listRg hc hg hm (prg_1 hg2 hm2 ha na) nb) fun σ H Q ⟨ρ, m, h, s, q⟩ => stepE s q fun ρ1 h1 H1 x v s1 e1 r1 q1 => by
    cases r1 with
    | int n =>
      have q2 : Post ⟨X.K, T⟩ (rV ⟨X.K, T⟩) ρ1 H1 Q E (if 0 ≤ n ∧ n ≤ 100000 then .ok (.ref h1.n) (h1.push (.lst (rgM 0 n))) else .bad) := q1
      by_cases c : 0 ≤ n ∧ n ≤ 100000
      · rw [if_pos c] at q2
        refine ⟨n, rfl, RgOk.of_le (by decide) (by omega) (by decide) c.1, fun p hp => ?_⟩
        refine q2 (ρ1 ++ [p]) _ _ (Ext.push hp) (s1.hr.push hp ⟨_, upd_same, rgM_ok 0 n⟩) (.ref ?_)
        rw [← s1.hr.len]; simp
      · rw [if_neg c] at q2; exact q2.elim
    | _ => exact q1.elim
end
end MI
set_option Elab.async false
set_option linter.all false
set_option maxRecDepth 100000
set_option maxHeartbeats 4000000
namespace MI
open PySem PySem.Spec PyProof.Rows L2 JB
/-- data whose text is surely short enough, longer ints too -/
def dOkA (d : PyData) : Bool := d.showable && !d.hasDict && decide (d.depth ≤ 60) && d.leavesShort 60 && decide (d.bulk ≤ 262144)
theorem fineA_of {d : PyData} (h : dOkA d = true) : d.showable = true ∧ d.hasDict = false ∧ d.depth ≤ 60 ∧ d.shown.length ≤ sizeLine := by
  simp only [dOkA, Bool.and_eq_true, Bool.not_eq_true', decide_eq_true_eq] at h
  obtain ⟨⟨⟨⟨h1, h2⟩, h3⟩, h4⟩, h5⟩ := h
  refine ⟨h1, h2, h3, ?_⟩
  have a := PyData.shown_le_bulk 60 (by decide) d h4
  have b : (60 + 2) * d.bulk ≤ 62 * 262144 := Nat.mul_le_mul (by omega) h5
  rw [sizeLine_eq]
  omega
/-- a text that can surely be shown -/
def sFine (s : List Nat) : Bool := decide (s.length ≤ 1000000) && s.all fun c => decide (c < 4294967296)
theorem sFine_ok {s : List Nat} (h : sFine s = true) : (reprText ⟨s.toArray⟩).length ≤ sizeLine := by
  simp only [sFine, Bool.and_eq_true, decide_eq_true_eq, List.all_eq_true] at h
  have a := StrLaws.reprText_len ⟨s.toArray⟩ (fun c hc => by
    have := h.2 c (by simpa using hc)
    have e : (16 : Nat) ^ 8 = 4294967296 := by decide
    omega)
  have b : (⟨s.toArray⟩ : Str).length = s.length := by show s.toArray.size = _; simp
  rw [sizeLine_eq]
  omega
/-- equal plain values that are no rows, and can be shown -/
def eqS (x y : MV) : Bool := match x, y with
  | .non, .non => true
  | .bl b, .bl c => b == c
  | .int i, .int j => decide (i = j) && iSmall i
  | .str s, .str t => leq s t && sFine s
  | _, _ => false
def gSameA (g1 g2 : ME) : ME := fun m h => (g1 m h).bind fun x h1 => if isRow x = true then match toD h1 61 x with
    | some d => if dOkA d = true then (g2 m h1).bind fun y h2 => if isRow y = true then match toD h2 61 y with
        | some e => if dOkA e = true ∧ dEq 61 d e = true then .ok (.bl true) h2 else .bad
        | none => .bad
      else .bad
      else .bad
    | none => .bad
  else if eqS x x = true then (g2 m h1).bind fun y h2 => if eqS x y = true then .ok (.bl true) h2 else .bad else .bad
section
variable {X : Cx}
abbrev rShowS : List V → Hp → VK → Prop := fun xs H Q => (∃ i, xs = [.int i] ∧ i.natAbs.log2 < 1920 ∧ Q (.str (toString i)) H) ∨ (∃ y : Str, xs = [.str y] ∧ (reprText y).length ≤ sizeLine ∧ Q (.str (reprText y)) H) ∨
  (∃ b : Bool, xs = [.bl b] ∧ Q (.str (if b then "True" else "False")) H) ∨ (xs = [.non] ∧ Q (.str "None") H)
theorem call_showS : CallR X (.builtin "repr") rShowS := by
  intro pins s σ H xs us Q I r h
  rcases h with ⟨i, rfl, hz, q⟩ | ⟨y, rfl, hz, q⟩ | ⟨b, rfl, q⟩ | ⟨rfl, q⟩
  · obtain ⟨u, rfl, t, rfl⟩ := vals1 r
    exact PySem.P.repr_of_int hz ⟨.str _, H, I.tok _, ⟨_, rfl⟩, q⟩
  · obtain ⟨u, rfl, t, rfl⟩ := vals1 r
    exact PySem.P.repr_of_str ⟨.str _, H, I.tok _, ⟨_, rfl⟩, q⟩ hz
  · obtain ⟨u, rfl, rx⟩ := vals1 r
    cases (show u = Value.bool b from rx)
    exact PySem.P.repr_of_bool ⟨.str _, H, I.tok _, ⟨_, rfl⟩, q⟩
  · obtain ⟨u, rfl, rx⟩ := vals1 r
    cases (show u = Value.none from rx)
    exact PySem.P.repr_of_none ⟨.str _, H, I.tok _, ⟨_, rfl⟩, q⟩
end
section
variable {P : Program} {w : World} {K : PySem.W.Frag} {mg : Str → Option Value} {base : Heap} {T : Nat → Addr}
/-- what a plain value that is no row shows -/
theorem showS_ok {Z : Zt} {ρ : List Addr} {H : Hp} {x : MV} {v : V} (r : RV Z ρ H x v) (e : eqS x x = true) : ∃ t : Str, ∀ (H1 : Hp) (Q : VK), Q (.str t) H1 → rShowS [v] H1 Q := by
  cases r with
  | non => exact ⟨_, fun H1 Q q => .inr (.inr (.inr ⟨rfl, q⟩))⟩
  | bl b => exact ⟨_, fun H1 Q q => .inr (.inr (.inl ⟨b, rfl, q⟩))⟩
  | int i =>
    have e' : (decide (i = i) && iSmall i) = true := e
    simp only [Bool.and_eq_true] at e'
    exact ⟨_, fun H1 Q q => .inl ⟨i, rfl, iSmall_ok e'.2, q⟩⟩
  | str s =>
    have e' : (leq s s && sFine s) = true := e
    simp only [Bool.and_eq_true] at e'
    exact ⟨_, fun H1 Q q => .inr (.inl ⟨_, rfl, sFine_ok e'.2, q⟩)⟩
  | _ => cases e
theorem eqS_eq {x y : MV} (h : eqS x y = true) : x = y := by
  cases x <;> cases y <;> first
    | rfl
    | (cases h; done)
    | (rename_i a b
       simp only [eqS, Bool.and_eq_true, decide_eq_true_eq, beq_iff_eq] at h
       first
         | rw [h.1]
         | rw [h]
         | rw [leq_iff.mp h.1])
theorem scal_rv {Z : Zt} {ρ ρ' : List Addr} {H H' : Hp} {x : MV} {v w : V} (r : RV Z ρ H x v) (q : RV Z ρ' H' x w) (e : eqS x x = true) : v = w := by
  cases r <;> cases q <;> first | rfl | (cases e; done)
theorem je_sameA {X : Cx} {E : XK} {e1 e2 : Expr} {p1 p2 q1 q2 c1 : Pos} {g1 g2 : ME} (hs : JB.Still X.A) (hu : X.A.units + 64 < cLine) (hg : Gl X "repr") (hm : X.mg "repr" = none)
    (ha : JE X T E e1 g1) (hb : JE X T E e2 g2) (h1 : starEach [e1] X.env = (false, eval e1 X.env) :: starEach [] X.env := by rfl) (h2 : starEach [e2] X.env = (false, eval e2 X.env) :: starEach [] X.env := by rfl)
    (k1 : (backTo p2 (starEach ([] : List Expr) X.env)).any (·.1) = false := by rfl) (k2 : (backTo q2 (starEach ([] : List Expr) X.env)).any (·.1) = false := by rfl)
    (hbm : behindInMarks .Eq (.Call (.Name "repr" q1) [e2] [] q2) = false := by rfl) :
    JE X T E (.Compare (.Call (.Name "repr" p1) [e1] [] p2) [.Eq] [.Call (.Name "repr" q1) [e2] [] q2] c1) (gSameA g1 g2) :=
  PE.le (pe_cmpR op_eq (pe_callB (CallR.or (call_show hs hu) call_showS) hg hm (by decide +kernel) (pa_cons ha pa_nil h1) (by decide) (by decide) h1 k1) (pe_callB (CallR.or (call_show hs hu) call_showS) hg hm (by decide +kernel) (pa_cons hb pa_nil h2) (by decide) (by decide) h2 k2) hbm)
    fun σ H Q ⟨ρ, m, h, s, q⟩ => stepE s q fun ρ1 h1 H1 x v s1 e1 r1 q1 => by
      by_cases c : isRow x = true
      · rw [if_pos c] at q1
        cases t : toD h1 61 x with
        | none => rw [t] at q1; exact q1.elim
        | some d =>
          rw [t] at q1
          dsimp only at q1
          by_cases o : dOkA d = true
          · rw [if_pos o] at q1
            obtain ⟨a, rfl⟩ := row_ref r1 c
            obtain ⟨f1, f2, f3, f4⟩ := fineA_of o
            refine .inl ⟨a, d, rfl, toD_ok s1.hr 61 r1 t, f1, f2, f3, f4, stepE s1 q1 fun ρ2 h2 H2 y w s2 e2 r2 q2 => ?_⟩
            by_cases c2 : isRow y = true
            · rw [if_pos c2] at q2
              cases t2 : toD h2 61 y with
              | none => rw [t2] at q2; exact q2.elim
              | some e =>
                rw [t2] at q2
                dsimp only at q2
                by_cases o2 : dOkA e = true ∧ dEq 61 d e = true
                · rw [if_pos o2] at q2
                  obtain ⟨b, rfl⟩ := row_ref r2 c2
                  obtain ⟨i1, i2, i3, i4⟩ := fineA_of o2.1
                  have de := dEq_eq 61 o2.2
                  refine .inl ⟨b, e, rfl, toD_ok s2.hr 61 r2 t2, i1, i2, i3, i4, rfl, ?_⟩
                  rw [decide_eq_true (by rw [de])]
                  exact q2.ok s2.hr (.bl true)
                · rw [if_neg o2] at q2; exact q2.elim
            · rw [if_neg c2] at q2; exact q2.elim
          · rw [if_neg o] at q1; exact q1.elim
      · rw [if_neg c] at q1
        by_cases c1 : eqS x x = true
        · rw [if_pos c1] at q1
          obtain ⟨t, ht⟩ := showS_ok r1 c1
          refine .inr (ht _ _ (stepE s1 q1 fun ρ2 h2 H2 y w s2 e2 r2 q2 => ?_))
          by_cases c2 : eqS x y = true
          · rw [if_pos c2] at q2
            have exy := eqS_eq c2
            subst exy
            have evw := scal_rv r1 r2 c1
            subst evw
            refine .inr (ht _ _ ⟨rfl, ?_⟩)
            rw [decide_eq_true rfl]
            exact q2.ok s2.hr (.bl true)
          · rw [if_neg c2] at q2; exact q2.elim
        · rw [if_neg c1] at q1; exact q1.elim
end
end MI
set_option Elab.async false
set_option linter.all false
set_option maxRecDepth 100000
set_option maxHeartbeats 4000000
namespace MI
open PySem PySem.Spec PyProof.Rows L2 JB
def mEqB (k : Bool → Bool) (x y : MV) (h : MH) : Out MV := match toD h 61 x, toD h 61 y with
  | some d, some e => if okD d = true ∧ okD e = true then .ok (.bl (k (PyData.eqv d e))) h else .bad
  | _, _ => .bad
theorem eqB_ok {Z : Zt} {E : XK} {k : Bool → Bool} {ρ : List Addr} {h : MH} {H : Hp} {x y : MV} {v w : V} {Q : VK} (R : HR Z ρ h H) (r : RV Z ρ H x v) (q : RV Z ρ H y w) (p : Post Z (rV Z) ρ H Q E (mEqB k x y h)) :
    ∃ d e, Dp Z.K H v d ∧ Dp Z.K H w e ∧ SeqAt.shaped d = true ∧ SeqAt.shaped e = true ∧ Q (.bl (k (PyData.eqv d e))) H := by
  unfold mEqB at p
  cases t1 : toD h 61 x with
  | none => rw [t1] at p; exact p.elim
  | some d =>
    cases t2 : toD h 61 y with
    | none => rw [t1, t2] at p; exact p.elim
    | some e =>
      rw [t1, t2] at p
      dsimp only at p
      by_cases c : okD d = true ∧ okD e = true
      · rw [if_pos c] at p
        exact ⟨d, e, toD_ok R 61 r t1, toD_ok R 61 q t2, c.1, c.2, p.ok R (.bl _)⟩
      · rw [if_neg c] at p; exact p.elim
theorem om_eqB {Z : Zt} {E : XK} : OpM Z E (mEqB fun b => b) (rEqD Z.K) := fun ρ h H x y v w Q R r q p => eqB_ok R r q p
theorem om_neB {Z : Zt} {E : XK} : OpM Z E (mEqB fun b => !b) (rNeD Z.K) := fun ρ h H x y v w Q R r q p => eqB_ok R r q p
def mEqX (x y : MV) (h : MH) : Out MV := if isRow x = true then mEqB (fun b => b) x y h else mEqV x y h
def mNeX (x y : MV) (h : MH) : Out MV := if isRow x = true then mEqB (fun b => !b) x y h else mNeV x y h
theorem mEqX_or (x y : MV) (h : MH) : mEqX x y h = mEqB (fun b => b) x y h ∨ mEqX x y h = mEqV x y h := by unfold mEqX; split; exact .inl rfl; exact .inr rfl
theorem mNeX_or (x y : MV) (h : MH) : mNeX x y h = mEqB (fun b => !b) x y h ∨ mNeX x y h = mNeV x y h := by unfold mNeX; split; exact .inl rfl; exact .inr rfl
section
variable {X : Cx} {T : Nat → Addr} {E : XK} {a b e : Expr} {ga gb : ME} {pos : Pos}
theorem je_eqF (hu : X.A.units + 64 < cLine) (ha : JE X T E a ga) (hb : JE X T E b gb) : JE X T E (.Compare a [.Eq] [b] pos) (gBin mEqX ga gb) :=
  je_bin_or (je_cmp (op_eqD hu) om_eqB ha hb (nobehind _ (by decide) (by decide))) (je_eq ha hb) mEqX_or
theorem je_neF (hu : X.A.units + 64 < cLine) (ha : JE X T E a ga) (hb : JE X T E b gb) : JE X T E (.Compare a [.NotEq] [b] pos) (gBin mNeX ga gb) :=
  je_bin_or (je_cmp (op_neD hu) om_neB ha hb (nobehind _ (by decide) (by decide))) (je_ne ha hb) mNeX_or
theorem jt_eqF (hu : X.A.units + 64 < cLine) (ha : JE X T E a ga) (hb : JE X T E b gb) : JT X T E (.Compare a [.Eq] [b] pos) (gB (gBin mEqX ga gb)) :=
  jt_bin_or (jt_cmp (op_eqD hu) om_eqB ha hb (nobehind _ (by decide) (by decide))) (jt_eq ha hb) mEqX_or
theorem jt_neF (hu : X.A.units + 64 < cLine) (ha : JE X T E a ga) (hb : JE X T E b gb) : JT X T E (.Compare a [.NotEq] [b] pos) (gB (gBin mNeX ga gb)) :=
  jt_bin_or (jt_cmp (op_neD hu) om_neB ha hb (nobehind _ (by decide) (by decide))) (jt_ne ha hb) mNeX_or
def mDictC (x : MV) (h : MH) : Out MV := match x with
  | .ref i => match h.get i with
    | some (.dic kvs) => .ok (.ref h.n) (h.push (.dic kvs))
    | some (.fdi kvs) => .ok (.ref h.n) (h.push (.dic kvs))
    | _ => .bad
  | _ => .bad
theorem mc_dict {Z : Zt} {E : XK} : CallM Z E (f1 mDictC) (fun xs H Q => ∃ (a : Addr) (kvs : List (Key × V)), xs = [.ref a] ∧ Rd H a (.dK kvs) ∧ ∀ p, H p = none → Q (.ref p) (upd H p (.dK kvs))) := .one fun ρ h H x v Q R r q => by
  have fin : ∀ {kvs : List (MK × MV)} {vs : List (Key × V)}, RKs kOf Z ρ H kvs vs → Post Z (rV Z) ρ H Q E (.ok (.ref h.n) (h.push (.dic kvs))) → ∀ p, H p = none → Q (.ref p) (upd H p (.dK vs)) := fun {kvs vs} h2 q p hp => by
    refine q (ρ ++ [p]) _ _ (Ext.push hp) (R.push hp ⟨vs, upd_same, h2.ext (Ext.push hp)⟩) (.ref ?_)
    rw [← R.len]; simp
  cases r with
  | @ref i a hi =>
    have q2 : Post Z (rV Z) ρ H Q E (match h.get i with
      | some (.dic kvs) => .ok (.ref h.n) (h.push (.dic kvs))
      | some (.fdi kvs) => .ok (.ref h.n) (h.push (.dic kvs))
      | _ => .bad) := q
    cases g : h.get i with
    | none => rw [g] at q2; exact q2.elim
    | some ob =>
      rw [g] at q2
      cases ob with
      | dic kvs => obtain ⟨vs, h1, h2⟩ := R.obj g hi; exact ⟨a, vs, rfl, .inl h1, fin h2 q2⟩
      | fdi kvs => obtain ⟨od, vs, h1, h2⟩ := R.obj g hi; exact ⟨a, vs, rfl, .inr ⟨od, h1⟩, fin h2 q2⟩
      | _ => exact q2.elim
  | _ => exact q.elim
def dicK (h : MH) : MV → Option (List (MK × MV))
  | .ref i => match h.get i with
    | some (.dic kvs) => some kvs
    | some (.fdi kvs) => some kvs
    | _ => none
  | _ => none
def mListD (x : MV) (h : MH) : Out MV := match dicK h x with
  | some kvs => .ok (.ref h.n) (h.push (.lst (kvs.map fun p => mOfK p.1)))
  | none => .bad
theorem RKs.keysV {Z : Zt} {ρ ρ' : List Addr} {H H' : Hp} {xs : List (MK × MV)} {vs : List (Key × V)} (r : RKs kOf Z ρ H xs vs) : RVs Z ρ' H' (xs.map fun p => mOfK p.1) (vs.map fun kv => kV kv.1) := by
  induction r with
  | nil => exact .nil
  | cons a r ih => exact .cons (RV.key _) ih
theorem mc_listD {Z : Zt} {E : XK} : CallM Z E (f1 mListD) (fun xs H Q => ∃ (a : Addr) (kvs : List (Key × V)), xs = [.ref a] ∧ Rd H a (.dK kvs) ∧ ∀ p, H p = none → Q (.ref p) (upd H p (.lst (kvs.map fun kv => kV kv.1)))) := .one fun ρ h H x v Q R r q => by
  have fin : ∀ {kvs : List (MK × MV)} {vs : List (Key × V)}, RKs kOf Z ρ H kvs vs → Post Z (rV Z) ρ H Q E (.ok (.ref h.n) (h.push (.lst (kvs.map fun p => mOfK p.1)))) → ∀ p, H p = none → Q (.ref p) (upd H p (.lst (vs.map fun kv => kV kv.1))) := fun {kvs vs} h2 q p hp => by
    refine q (ρ ++ [p]) _ _ (Ext.push hp) (R.push hp ⟨_, upd_same, h2.keysV⟩) (.ref ?_)
    rw [← R.len]; simp
  unfold mListD at q
  cases r with
  | @ref i a hi =>
    have q2 : Post Z (rV Z) ρ H Q E (match (match h.get i with
      | some (.dic kvs) => some kvs
      | some (.fdi kvs) => some kvs
      | _ => none) with
      | some kvs => .ok (.ref h.n) (h.push (.lst (kvs.map fun p => mOfK p.1)))
      | none => .bad) := q
    cases g : h.get i with
    | none => rw [g] at q2; exact q2.elim
    | some ob =>
      rw [g] at q2
      cases ob with
      | dic kvs => obtain ⟨vs, h1, h2⟩ := R.obj g hi; exact ⟨a, vs, rfl, .inl h1, fin h2 q2⟩
      | fdi kvs => obtain ⟨od, vs, h1, h2⟩ := R.obj g hi; exact ⟨a, vs, rfl, .inr ⟨od, h1⟩, fin h2 q2⟩
      | _ => exact q2.elim
  | _ => exact q.elim
end
end MI
set_option Elab.async false
set_option linter.all false
set_option maxRecDepth 100000
set_option maxHeartbeats 4000000
namespace XG
open MI
open L2 (atI ixN)
def bTake : MS := gSeq (gIfS (gB (gBin mGtI (gBin mIx (gVar 0) (gC (.int 0))) (gC (.int 0)))) (gSeq (gAsg (gBin mMod (gBin mIx (gVar 0) (gC (.int 0))) (gVar 1)) (tgName 3)) (gSeq (gAsg (gBin mDiv (gBin mIx (gVar 0) (gC (.int 0))) (gVar 1)) (tgSub (gVar 0) (gC (.int 0)))) (gRet (gVar 3)))) (gNext)) (gSeq (gPar 5 2 (gCons (gBin mIx (gVar 0) (gC (.int 1))) (gCons (gBin mAdd (gBin mIx (gVar 0) (gC (.int 2))) (gC (.int 1))) (gNil)))) (gSeq (gAsg (gVar 2) (tgSub (gVar 0) (gC (.int 2)))) (gSeq (gAsg (gBin mMod (gBin mMulA (gBin mAdd (gVar 5) (gBin mMulA (gC (.int 48271)) (gVar 2))) (gBin mAdd (gC (.int 39373)) (gVar 2))) (gC (.int 2147483647))) (tgName 4)) (gSeq (gAsg (gBin mMod (gBin mMulA (gBin mAdd (gBin mAdd (gVar 4) (gVar 2)) (gBin mDiv (gVar 5) (gC (.int 1000003)))) (gBin mAdd (gBin mMod (gVar 4) (gC (.int 40009))) (gC (.int 7)))) (gC (.int 2147483629))) (tgName 6)) (gRet (gBin mMod (gBin mDiv (gBin mMod (gBin mAdd (gBin mMulA (gVar 6) (gC (.int 48271))) (gVar 4)) (gC (.int 2147483587))) (gC (.int 64))) (gVar 1)))))))
def mTake : MF := gBody 7 bTake
theorem cm_r {i j : Int} (h : j.natAbs < 18446744073709551616) : cMul i j = true := by
  unfold cMul; simp [h]
theorem cm_l {i j : Int} (h : i.natAbs < 18446744073709551616) : cMul i j = true := by
  unfold cMul; simp [h]
theorem take_pos {h : MH} {i : Nat} {a s f n : Int} (hg : h.get i = some (.lst [.int a, .int s, .int f])) (ha : 0 < a) (hn : 0 < n) (hn2 : n < 1073741824) :
    mTake [.ref i, .int n] h = .ok (.int (a % n)) (h.set i (.lst [.int (a / n), .int s, .int f])) := by
  have x0 : atI [MV.int a, MV.int s, MV.int f] 0 = some (.int a) := rfl
  have x1 : ixN 3 0 = some 0 := rfl
  simp [mTake, bTake, gBody, gSeq, gIfS, gB, gBin, gVar, gC, mIx, isD, hg, mIxS, seqOf, x0, oV, mGtI, mI, Out.bind, Out.bindS, ha, gAsg, tgName, SO.only, SO.next, mMod, mIc, hn, mDiv, hn2, tgSub, putM, x1, gRet]
def onceV (s f : Int) : Int := (s + 48271 * (f + 1)) * (39373 + (f + 1)) % 2147483647
def takeV (s f n : Int) : Int := ((onceV s f + (f + 1) + s / 1000003) * (onceV s f % 40009 + 7) % 2147483629 * 48271 + onceV s f) % 2147483587 / 64 % n
theorem take_neg {h : MH} {i : Nat} {a s f n : Int} (hg : h.get i = some (.lst [.int a, .int s, .int f])) (ha : ¬ 0 < a) (hn : 0 < n) (hf : 0 ≤ f) (hf2 : f < 1000000000000) :
    mTake [.ref i, .int n] h = .ok (.int (takeV s f n)) (h.set i (.lst [.int a, .int s, .int (f + 1)])) := by
  have x0 : atI [MV.int a, MV.int s, MV.int f] 0 = some (.int a) := rfl
  have x1 : atI [MV.int a, MV.int s, MV.int f] 1 = some (.int s) := rfl
  have x2 : atI [MV.int a, MV.int s, MV.int f] 2 = some (.int f) := rfl
  have x3 : ixN 3 2 = some 2 := rfl
  have c1 : cMul 48271 (f + 1) = true := cm_l (by decide)
  have c2 : cMul (s + 48271 * (f + 1)) (39373 + (f + 1)) = true := cm_r (by omega)
  have c3 : ∀ y z : Int, cMul y (z % 40009 + 7) = true := fun y z => cm_r (by omega)
  have c4 : ∀ y : Int, cMul y 48271 = true := fun y => cm_r (by decide)
  simp [mTake, bTake, gBody, gSeq, gIfS, gB, gBin, gVar, gC, mIx, isD, hg, mIxS, seqOf, x0, x1, x2, oV, mGtI, mI, Out.bind, Out.bindS, ha, gAsg, tgName, SO.only, SO.next, mMod, mIc, hn, mDiv, tgSub, putM, x3, gRet, gNext, gPar, gCons, gNil, mAdd, mMulA, isTup, isStr, mMulV, isRep, mMul, c1, c2, c3, c4, takeV, onceV]
/-- a box at i from which at most f numbers were taken -/
def Box (h : MH) (i : Nat) (f : Int) : Prop := ∃ a s e, h.get i = some (.lst [.int a, .int s, .int e]) ∧ 0 ≤ e ∧ e ≤ f
/-- what was there is there, but for the thing at i -/
structure Keep (i : Nat) (h h' : MH) : Prop where
  n : h.n ≤ h'.n
  get : ∀ j, j < h.n → j ≠ i → h'.get j = h.get j
theorem Keep.refl {i : Nat} {h : MH} : Keep i h h := ⟨Nat.le_refl _, fun _ _ _ => rfl⟩
theorem Keep.trans {i : Nat} {h h1 h2 : MH} (a : Keep i h h1) (b : Keep i h1 h2) : Keep i h h2 :=
  ⟨Nat.le_trans a.n b.n, fun j hj hn => (b.get j (Nat.lt_of_lt_of_le hj a.n) hn).trans (a.get j hj hn)⟩
theorem Box.le {h : MH} {i : Nat} {f g : Int} (b : Box h i f) (k : f ≤ g) : Box h i g := by
  obtain ⟨a, s, e, h1, h2, h3⟩ := b
  exact ⟨a, s, e, h1, h2, by omega⟩
theorem Box.lt {h : MH} {i : Nat} {f : Int} (b : Box h i f) : i < h.n := by
  obtain ⟨a, s, e, h1, _⟩ := b
  exact MH.get_lt h1
theorem keep_set {h : MH} {i : Nat} {o : MO} (hi : i < h.n) : Keep i h (h.set i o) := ⟨Nat.le_refl _, fun j _ hn => by rw [MH.get_set hi, if_neg hn]⟩
theorem take_ok {h : MH} {i : Nat} {f n : Int} (b : Box h i f) (hn : 0 < n) (hn2 : n < 1073741824) (hf2 : f < 1000000000000) :
    ∃ r h', 0 ≤ r ∧ r < n ∧ mTake [.ref i, .int n] h = .ok (.int r) h' ∧ Box h' i (f + 1) ∧ Keep i h h' ∧ h'.n = h.n := by
  obtain ⟨a, s, e, h1, h2, h3⟩ := b
  have hi := MH.get_lt h1
  by_cases ha : 0 < a
  · exact ⟨a % n, _, Int.emod_nonneg _ (by omega), Int.emod_lt_of_pos _ hn, take_pos h1 ha hn hn2, ⟨a / n, s, e, by rw [MH.get_set hi, if_pos rfl], h2, by omega⟩, keep_set hi, rfl⟩
  · exact ⟨takeV s e n, _, Int.emod_nonneg _ (by omega), Int.emod_lt_of_pos _ hn, take_neg h1 ha hn h2 (by omega), ⟨a, s, e + 1, by rw [MH.get_set hi, if_pos rfl], by omega, by omega⟩, keep_set hi, rfl⟩
def bBox : MS := gSeq (gAsg (gBin mIx (gVar 0) (gVar 1)) (tgName 2)) (gRet (gLst (gCons (gBin mMulA (gCB (f1 mAbs) (gCons (gVar 2) (gNil))) (gCB (f1 mInt) (gCons (gBin mGeI (gCB (f1 mAbs) (gCons (gVar 2) (gNil))) (gBin mPow (gC (.int 10)) (gC (.int 18)))) (gNil)))) (gCons (gBin mAdd (gBin mAdd (gBin mMod (gVar 2) (gC (.int 2305843009213693951))) (gBin mMulA (gC (.int 7919)) (gVar 1))) (gC (.int 61))) (gCons (gC (.int 0)) (gNil))))))
def mBox : MF := gBody 3 bBox
def absV (x : Int) : Int := if x < 0 then -x else x
theorem at_map {cs : List Int} {k : Nat} {x : Int} (hk : cs[k]? = some x) : atI (cs.map MV.int) (k : Int) = some (.int x) := by
  have hl : k < cs.length := (List.getElem?_eq_some_iff.mp hk).1
  unfold atI ixN
  rw [List.length_map, if_pos (by omega), if_pos (by omega)]
  show (cs.map MV.int)[(k : Int).toNat]? = _
  rw [Int.toNat_natCast, List.getElem?_map, hk]; rfl
theorem box_eq {h : MH} {c : Nat} {cs : List Int} {k : Nat} {x : Int} (hg : h.get c = some (.lst (cs.map MV.int))) (hk : cs[k]? = some x) :
    mBox [.ref c, .int k] h = .ok (.ref h.n) (h.push (.lst [.int (absV x * if 1000000000000000000 ≤ absV x then 1 else 0), .int (x % 2305843009213693951 + 7919 * k + 61), .int 0])) := by
  have x0 := at_map hk
  have c1 : ∀ (y z : Int), cMul y (if z ≤ absV x then 1 else 0) = true := fun y z => cm_r (by split <;> decide)
  have c2 : cMul 7919 k = true := cm_l (by decide)
  have p1 : ∀ h, mPow (.int 10) (.int 18) h = .ok (.int 1000000000000000000) h := fun h => rfl
  have a1 : ∀ h, mAbs (.int x) h = .ok (.int (absV x)) h := fun h => rfl
  simp [mBox, bBox, gBody, gSeq, gBin, gVar, gC, mIx, isD, hg, mIxS, seqOf, x0, oV, mI, Out.bind, Out.bindS, gAsg, tgName, SO.only, SO.next, mMod, mIc, gRet, gLst, gCons, gNil, gCB, f1, a1, mInt, mGeI, p1, mAdd, mMulA, isTup, isStr, mMulV, isRep, mMul, c1, c2]
theorem box_ok {h : MH} {c : Nat} {cs : List Int} {k : Nat} {x : Int} (hg : h.get c = some (.lst (cs.map MV.int))) (hk : cs[k]? = some x) :
    ∃ h', mBox [.ref c, .int k] h = .ok (.ref h.n) h' ∧ Box h' h.n 0 ∧ h'.n = h.n + 1 ∧ ∀ j, j < h.n → h'.get j = h.get j :=
  ⟨_, box_eq hg hk, ⟨_, _, 0, by rw [MH.get_push, if_pos rfl], by decide, by decide⟩, rfl, fun j hj => by rw [MH.get_push, if_neg (by omega)]⟩
def bCells : MS := gSeq (gAsg (gOrT (gCB (f1 mList) (gCons (gSl (gVar 0) (gPn) (gPs (gVar 1))) (gNil))) (gLst (gCons (gC (.int 0)) (gNil)))) (tgName 3)) (gSeq (gFor (gEnumA (gSl (gVar 0) (gPs (gVar 1)) (gPs (gC (.int 63))))) (tgTup [4, 2]) (gAsg (gBin mAdd (gBin mIx (gVar 3) (gBin mMod (gVar 4) (gVar 1))) (gBin mMulA (gVar 2) (gBin mAdd (gVar 4) (gC (.int 2))))) (tgSub (gVar 3) (gBin mMod (gVar 4) (gVar 1))))) (gRet (gVar 3)))
def mCells : MF := gBody 5 bCells
theorem cut1 {ns : List Int} {m : Nat} : mcut (ns.map MV.int) none (some (m : Int)) = (ns.take m).map MV.int := by
  unfold mcut
  rw [HT.sIx_none, HT.sIx_nat, List.drop_zero, Nat.sub_zero, List.length_map, List.map_take]
  by_cases h : m ≤ ns.length
  · rw [Nat.min_eq_left h]
  · rw [Nat.min_eq_right (by omega), List.take_of_length_le (by simp), List.take_of_length_le (by simp; omega)]
theorem cut2 {ns : List Int} {m : Nat} : ∃ l2 : List Int, mcut (ns.map MV.int) (some (m : Int)) (some 63) = l2.map MV.int ∧ (l2 ≠ [] → m < ns.length) ∧ l2.length ≤ ns.length := by
  refine ⟨(ns.drop (min m ns.length)).take (min 63 ns.length - min m ns.length), ?_, fun h => ?_, ?_⟩
  · unfold mcut
    have e : HT.sIx (List.map MV.int ns).length (List.map MV.int ns).length (some 63) = min 63 (List.map MV.int ns).length := HT.sIx_nat _ _ 63
    rw [HT.sIx_nat, e, List.length_map, ← List.map_drop, ← List.map_take]
  · rcases Nat.lt_or_ge m ns.length with k | k
    · exact k
    · rw [Nat.min_eq_right k, List.drop_length] at h
      simp at h
  · simp; omega
def bCell1 : MS := gAsg (gBin mAdd (gBin mIx (gVar 3) (gBin mMod (gVar 4) (gVar 1))) (gBin mMulA (gVar 2) (gBin mAdd (gVar 4) (gC (.int 2))))) (tgSub (gVar 3) (gBin mMod (gVar 4) (gVar 1)))
theorem cell1_ok {h : MH} {c k mm : Nat} {A : Option MV} {v : Int} {cs : List Int} (hg : h.get c = some (.lst (cs.map MV.int))) (hm : 0 < mm) (hk : k < 1000) (hj : k % mm < cs.length) :
    ∃ cs' : List Int, cs'.length = cs.length ∧ bCell1 [A, some (.int mm), some (.int v), some (.ref c), some (.int k)] h = .nx [A, some (.int mm), some (.int v), some (.ref c), some (.int k)] (h.set c (.lst (cs'.map MV.int))) := by
  obtain ⟨j, ej⟩ : ∃ j, j = k % mm := ⟨_, rfl⟩
  rw [← ej] at hj
  have e1 : (k : Int) % (mm : Int) = (j : Int) := by rw [ej]; exact (Int.natCast_emod k mm).symm
  obtain ⟨x, hx⟩ : ∃ x, cs[j]? = some x := ⟨cs[j], List.getElem?_eq_getElem hj⟩
  have x0 := at_map hx
  have x1 : ixN cs.length (j : Int) = some j := by
    unfold ixN
    rw [if_pos (by omega), if_pos (by omega)]; rfl
  have m0 : (0 : Int) < (mm : Int) := by omega
  have c1 : cMul v ((k : Int) + 2) = true := cm_r (by omega)
  refine ⟨cs.set j (x + v * (k + 2)), List.length_set, ?_⟩
  rw [List.map_set]
  simp [bCell1, gAsg, gBin, gVar, gC, Out.bind, Out.bindS, mMod, mIc, hm, m0, e1, mIx, isD, hg, mIxS, seqOf, x0, oV, mAdd, mMulA, isTup, isStr, mMulV, isRep, mMul, c1, tgSub, putM, x1, SO.only]
theorem cells_loop {c q mm L : Nat} {l2 : List Int} {A : Option MV} (hcq : q ≠ c) (hm : 0 < mm) (hl : l2.length ≤ 63) (hL : ∀ k, k < l2.length → k % mm < L) : ∀ (n i : Nat) (cs : List Int) (h : MH) (o2 o4 : Option MV), i + n = l2.length + 1 → i ≤ l2.length → cs.length = L →
    h.get c = some (.lst (cs.map MV.int)) → h.get q = some (.lst (l2.map MV.int)) →
    ∃ (cs' : List Int) (h' : MH) (m' : ML), gForN (it1EL q) (tgTup [4, 2]) bCell1 n i [A, some (.int mm), o2, some (.ref c), o4] h = .nx m' h' ∧ cs'.length = L ∧ h'.get c = some (.lst (cs'.map MV.int)) ∧ m'[3]? = some (some (.ref c)) ∧ h'.n = h.n
  | 0, i, cs, h, o2, o4, e, hi, _, _, _ => by omega
  | n + 1, i, cs, h, o2, o4, e, hi, hc, hg, hq => by
    have a0 : (it1EL q).at_ i h = some ((l2.map MV.int)[i]?.map fun x => .tup [.int (i : Nat), x]) := by
      show (match h.get q with
        | some (.lst xs) => some (xs[i]?.map fun x => MV.tup [.int (i : Nat), x])
        | _ => none) = _
      rw [hq]
    unfold gForN
    rw [a0, List.getElem?_map]
    cases k : l2[i]? with
    | none => exact ⟨cs, h, _, rfl, hc, hg, rfl, rfl⟩
    | some v =>
      have hil : i < l2.length := (List.getElem?_eq_some_iff.mp k).1
      obtain ⟨cs', h1, h2⟩ := cell1_ok (A := A) (v := v) (k := i) hg hm (by omega) (by rw [hc]; exact hL i hil)
      have hcl := MH.get_lt hg
      obtain ⟨cs2, h', m', r1, r2, r3, r4, r5⟩ := cells_loop hcq hm hl hL n (i + 1) cs' (h.set c (.lst (cs'.map MV.int))) (some (.int v)) (some (.int (i : Nat))) (by omega) (by omega) (h1.trans hc) (by rw [MH.get_set hcl, if_pos rfl]) (by rw [MH.get_set hcl, if_neg hcq]; exact hq)
      refine ⟨cs2, h', m', ?_, r2, r3, r4, r5⟩
      simp only [Option.map, tgTup, seqOf, List.length_cons, List.length_nil, if_pos, setMany, List.set]
      rw [h2]
      exact r1
theorem cells_ok {ns : List Int} {mm : Nat} (hm : 0 < mm) (hl : ns.length ≤ 63) :
    ∃ (cs : List Int) (c : Nat) (h' : MH), cs.length ≤ 63 + mm ∧ mCells [.fls (ns.map MV.int), .int (mm : Int)] .empty = .ok (.ref c) h' ∧ h'.get c = some (.lst (cs.map MV.int)) := by
  obtain ⟨l2, d1, d2, d3⟩ := cut2 (ns := ns) (m := mm)
  have d0 := cut1 (ns := ns) (m := mm)
  have gp : ∀ (h : MH) (o : MO), (h.push o).get h.n = some o := fun h o => by rw [MH.get_push, if_pos rfl]
  -- behind the first statement the cells stand at c
  have first : ∃ (cs : List Int) (c : Nat) (h1 : MH), cs.length ≤ 63 + mm ∧ (ns.length > mm → cs.length = mm) ∧ h1.get c = some (.lst (cs.map MV.int)) ∧
      (gOrT (gCB (f1 mList) (gCons (gSl (gVar 0) (gPn) (gPs (gVar 1))) (gNil))) (gLst (gCons (gC (.int 0)) (gNil)))) [some (.fls (ns.map MV.int)), some (.int (mm : Int)), none, none, none] .empty = .ok (.ref c) h1 := by
    cases hn : (ns.take mm).map MV.int with
    | nil =>
      have e0 : ns = [] := by
        have : ns.take mm = [] := by simpa using hn
        cases ns with
        | nil => rfl
        | cons a l =>
          cases mm with
          | zero => omega
          | succ m => simp at this
      refine ⟨[0], 2, ((MH.empty.push (.lst [])).push (.lst [])).push (.lst [.int 0]), by simp; omega, fun h => by rw [e0] at h; simp at h, gp _ _, ?_⟩
      simp [gOrT, gCB, f1, gCons, gNil, gSl, gVar, gPn, gPs, gC, gLst, Out.bind, mSl, isL, seqOf, d0, hn, mList, gp, mTru]
      rfl
    | cons a l =>
      refine ⟨ns.take mm, 1, (MH.empty.push (.lst (a :: l))).push (.lst (a :: l)), by simp; omega, fun h => by simp; omega, by rw [hn]; exact gp _ _, ?_⟩
      simp [gOrT, gCB, f1, gCons, gNil, gSl, gVar, gPn, gPs, gC, gLst, Out.bind, mSl, isL, seqOf, d0, hn, mList, gp, mTru]
      rfl
  obtain ⟨cs, c, h1, f1', f2, f3, f4⟩ := first
  have hc := MH.get_lt f3
  have hcq : h1.n ≠ c := by omega
  have hL : ∀ k, k < l2.length → k % mm < cs.length := fun k hk => by
    have hne : l2 ≠ [] := by intro z; rw [z] at hk; simp at hk
    rw [f2 (d2 hne)]
    exact Nat.mod_lt _ hm
  obtain ⟨cs', h', m', r1, r2, r3, r4, r5⟩ := cells_loop (A := some (.fls (ns.map MV.int))) (c := c) (q := h1.n) (mm := mm) hcq hm (by omega) hL (l2.length + 1) 0 cs (h1.push (.lst (l2.map MV.int))) none none (by omega) (Nat.zero_le _) rfl
    (by rw [MH.get_push, if_neg (Ne.symm hcq)]; exact f3) (gp _ _)
  refine ⟨cs', c, h', by omega, ?_, r3⟩
  have sz : (it1EL h1.n).size (h1.push (.lst (l2.map MV.int))) = l2.length := by
    show (match (h1.push (.lst (l2.map MV.int))).get h1.n with
      | some (.lst xs) => xs.length
      | _ => 0) = _
    rw [gp]; simp
  have s1 : (gAsg (gOrT (gCB (f1 mList) (gCons (gSl (gVar 0) (gPn) (gPs (gVar 1))) (gNil))) (gLst (gCons (gC (.int 0)) (gNil)))) (tgName 3)) [some (.fls (ns.map MV.int)), some (.int (mm : Int)), none, none, none] .empty = .nx [some (.fls (ns.map MV.int)), some (.int (mm : Int)), none, some (.ref c), none] h1 := by
    unfold gAsg
    rw [f4]; rfl
  have s2 : (gFor (gEnumA (gSl (gVar 0) (gPs (gVar 1)) (gPs (gC (.int 63))))) (tgTup [4, 2]) bCell1) [some (.fls (ns.map MV.int)), some (.int (mm : Int)), none, some (.ref c), none] h1 = .nx m' h' := by
    have : (gEnumA (gSl (gVar 0) (gPs (gVar 1)) (gPs (gC (.int 63))))) [some (.fls (ns.map MV.int)), some (.int (mm : Int)), none, some (.ref c), none] h1 = .ok (it1EL h1.n) (h1.push (.lst (l2.map MV.int))) := by
      simp [gEnumA, gSl, gVar, gPs, gC, Out.bind, mSl, isL, seqOf, d1, gp]
    unfold gFor
    rw [this]
    show gForN _ _ _ ((it1EL h1.n).size _ + 1) 0 _ _ = _
    rw [sz]
    exact r1
  have : bCells [some (.fls (ns.map MV.int)), some (.int (mm : Int)), none, none, none] .empty = .rt (.ref c) h' := by
    show gSeq _ _ _ _ = _
    unfold gSeq
    rw [s1]
    show ((gFor _ _ bCell1) _ _).next _ = _
    rw [s2]
    simp [SO.next, gRet, gVar, r4, Out.bindS]
  simp [mCells, gBody, this]
end XG
set_option Elab.async false
set_option linter.all false
set_option maxRecDepth 100000
set_option maxHeartbeats 4000000
namespace XG
open MI
def eRight (right : MF) : ME := gCall right [] 1 (gCons (gVar 1) (gNil))
def bLaw1 (T : Int) (right : MF) : MS := gSeq (gAsg (gCall mBox [] 2 (gCons (gVar 2) (gCons (gVar 3) (gNil)))) (tgName 1)) (gIfS (gNot (gTru (gCB (f1 mAll) (gCons (gLc (gRng1 (gC (.int T))) (.one 4) (gYes) (eRight right) [4]) (gNil))))) (gRet (gC (.bl false))) (gNext))
def bLaw (M T : Int) (right : MF) : MS := gSeq (gAsg (gCall mCells [] 2 (gCons (gVar 0) (gCons (gC (.int M)) (gNil)))) (tgName 2)) (gSeq (gFor (gRng1 (gCB (f1 mLenV) (gCons (gVar 2) (gNil)))) (tgName 3) (bLaw1 T right)) (gRet (gC (.bl true))))
def mLaw (M T : Int) (right : MF) : MF := gBody 5 (bLaw M T right)
/-- what is asked of a law's def that takes a box -/
def Right (right : MF) (C : Nat) : Prop := ∀ (h : MH) (i : Nat) (f : Int), Box h i f → 0 ≤ f → f ≤ 1000000000 → ∃ h', right [.ref i] h = .ok (.bl true) h' ∧ Box h' i (f + C) ∧ Keep i h h'
section
variable {right : MF} {C : Nat}
theorem comp_loop (hR : Right right C) {T b D n0 : Nat} (hC : C * T ≤ 1000000000) (hb : n0 ≤ b) (hD : n0 ≤ D) (hbD : b ≠ D) (hT : T < 1000) {A c k : Option MV} : ∀ (n i : Nat) (h : MH), i + n = T + 1 → i ≤ T → Box h b ((C * i : Nat) : Int) → h.get D = some (.lst (List.replicate i (.bl true))) →
    ∃ h', gLcN (it1R 0 T) (.one 4) gYes (eRight right) D [A, some (.ref b), c, k, none] n i h = .ok (.ref D) h' ∧ h'.get D = some (.lst (List.replicate T (.bl true))) ∧ h.n ≤ h'.n ∧ ∀ j, j < n0 → h'.get j = h.get j
  | 0, i, h, e, hi, _, _ => by omega
  | n + 1, i, h, e, hi, hB, hg => by
    have hDl := MH.get_lt hg
    by_cases hiT : i < T
    · have hCi : C * i ≤ 1000000000 := Nat.le_trans (Nat.mul_le_mul_left C (Nat.le_of_lt hiT)) hC
      obtain ⟨h1, r1, r2, r3⟩ := hR h b _ hB (by omega) (by omega)
      have g1 : h1.get D = some (.lst (List.replicate i (.bl true))) := by rw [r3.get D hDl (Ne.symm hbD)]; exact hg
      have hDl1 := MH.get_lt g1
      have B1 : Box (h1.set D (.lst (List.replicate i (.bl true) ++ [.bl true]))) b ((C * (i + 1) : Nat) : Int) := by
        obtain ⟨a, s, e', q1, q2, q3⟩ := r2
        exact ⟨a, s, e', by rw [MH.get_set hDl1, if_neg hbD]; exact q1, q2, by rw [Nat.mul_add, Nat.mul_one]; omega⟩
      have g2 : (h1.set D (.lst (List.replicate i (.bl true) ++ [.bl true]))).get D = some (.lst (List.replicate (i + 1) (.bl true))) := by
        rw [MH.get_set hDl1, if_pos rfl, List.replicate_succ']
      obtain ⟨h', s1, s2, s3, s4⟩ := comp_loop hR hC hb hD hbD hT (A := A) (c := c) (k := k) n (i + 1) _ (by omega) (by omega) B1 g2
      refine ⟨h', ?_, s2, Nat.le_trans r3.n s3, fun j hj => ?_⟩
      · have a0 : (it1R 0 T).at_ i h = some (some (.int (0 + (i : Nat)))) := by
          show some (if i < T then some (MV.int (0 + (i : Nat))) else none) = _
          rw [if_pos hiT]
        have ev : eRight right [A, some (.ref b), c, k, some (.int (0 + (i : Nat)))] h = .ok (.bl true) h1 := by
          simp [eRight, gCall, gCons, gNil, gVar, Out.bind, r1]
        unfold gLcN
        rw [a0]
        simp only [CT.set, tgName, List.set, gYes]
        rw [ev]
        simp only [g1]
        rw [if_pos (by simp; omega)]
        exact s1
      · rw [s4 j hj, MH.get_set hDl1, if_neg (by omega)]
        exact r3.get j (by have := hB.lt; omega) (by omega)
    · have hiT' : i = T := by omega
      subst hiT'
      refine ⟨h, ?_, hg, Nat.le_refl _, fun _ _ => rfl⟩
      have a0 : (it1R 0 i).at_ i h = some none := by
        show some (if i < i then some (MV.int (0 + (i : Nat))) else none) = _
        rw [if_neg (Nat.lt_irrefl _)]
      unfold gLcN
      rw [a0]
theorem bools_rep : ∀ n : Nat, boolsOf (List.replicate n (.bl true)) = some (List.replicate n true)
  | 0 => rfl
  | n + 1 => by
    rw [List.replicate_succ]
    show (boolsOf (List.replicate n (.bl true))).map (fun l => true :: l) = _
    rw [bools_rep n]; rfl
theorem law1_ok (hR : Right right C) {T : Nat} (hC : C * T ≤ 1000000000) (hT : T < 1000) {A o1 o4 : Option MV} {c k : Nat} {cs : List Int} {h : MH} (hg : h.get c = some (.lst (cs.map MV.int))) (hk : k < cs.length) :
    ∃ h', bLaw1 T right [A, o1, some (.ref c), some (.int (k : Nat)), o4] h = .nx [A, some (.ref h.n), some (.ref c), some (.int (k : Nat)), o4] h' ∧ h'.get c = some (.lst (cs.map MV.int)) ∧ h.n ≤ h'.n := by
  obtain ⟨h1, b1, b2, b3, b4⟩ := box_ok (k := k) (x := cs[k]) hg (List.getElem?_eq_getElem hk)
  have hcl := MH.get_lt hg
  have B0 : Box (h1.push (.lst [])) h.n ((C * 0 : Nat) : Int) := by
    obtain ⟨a, s, e, q1, q2, q3⟩ := b2
    exact ⟨a, s, e, by rw [MH.get_push, if_neg (by omega)]; exact q1, q2, by simpa using q3⟩
  obtain ⟨h2, s1, s2, s3, s4⟩ := comp_loop hR (T := T) (b := h.n) (D := h1.n) (n0 := h.n) hC (Nat.le_refl _) (by omega) (by omega) hT (A := A) (c := some (.ref c)) (k := some (.int (k : Nat))) (T + 1) 0 (h1.push (.lst [])) (by omega) (Nat.zero_le _) B0 (by rw [MH.get_push, if_pos rfl]; rfl)
  have t1 : ((T : Int)).toNat = T := Int.toNat_natCast T
  have ev : gLc (gRng1 (gC (.int (T : Int)))) (.one 4) gYes (eRight right) [4] [A, some (.ref h.n), some (.ref c), some (.int (k : Nat)), o4] h1 = .ok (.ref h1.n) h2 := by
    have : gRng1 (gC (.int (T : Int))) [A, some (.ref h.n), some (.ref c), some (.int (k : Nat)), o4] h1 = .ok (it1R 0 T) h1 := by
      show (if -1000000000 ≤ (T : Int) ∧ (T : Int) ≤ 1000000000 then Out.ok (it1R 0 (T : Int).toNat) h1 else .bad) = _
      rw [if_pos (by omega), t1]
    unfold gLc
    rw [this]
    exact s1
  refine ⟨h2, ?_, ?_, ?_⟩
  · have e1 : (gAsg (gCall mBox [] 2 (gCons (gVar 2) (gCons (gVar 3) (gNil)))) (tgName 1)) [A, o1, some (.ref c), some (.int (k : Nat)), o4] h = .nx [A, some (.ref h.n), some (.ref c), some (.int (k : Nat)), o4] h1 := by
      simp [gAsg, gCall, gCons, gNil, gVar, Out.bind, Out.bindS, b1, tgName, SO.only]
    unfold bLaw1 gSeq
    rw [e1]
    simp [SO.next, gIfS, gNot, gTru, gCB, f1, gCons, gNil, Out.bind, Out.bindS, ev, mAll, s2, bools_rep, mTru, gNext]
  · rw [s4 c hcl, MH.get_push, if_neg (by omega), b4 c hcl]; exact hg
  · exact Nat.le_trans (by show h.n ≤ h1.n + 1; omega) s3
theorem law_loop (hR : Right right C) {T : Nat} (hC : C * T ≤ 1000000000) (hT : T < 1000) {A : Option MV} {c : Nat} {cs : List Int} : ∀ (n i : Nat) (h : MH) (o1 o3 o4 : Option MV), i + n = cs.length + 1 → i ≤ cs.length → h.get c = some (.lst (cs.map MV.int)) →
    ∃ (h' : MH) (m' : ML), gForN (it1R 0 cs.length) (tgName 3) (bLaw1 T right) n i [A, o1, some (.ref c), o3, o4] h = .nx m' h'
  | 0, i, h, o1, o3, o4, e, hi, _ => by omega
  | n + 1, i, h, o1, o3, o4, e, hi, hg => by
    by_cases hil : i < cs.length
    · obtain ⟨h1, r1, r2, r3⟩ := law1_ok hR hC hT (A := A) (o1 := o1) (o4 := o4) (k := i) hg hil
      obtain ⟨h', m', q⟩ := law_loop hR hC hT (A := A) n (i + 1) h1 (some (.ref h.n)) (some (.int (i : Nat))) o4 (by omega) (by omega) r2
      refine ⟨h', m', ?_⟩
      have a0 : (it1R 0 cs.length).at_ i h = some (some (.int (i : Nat))) := by
        show some (if i < cs.length then some (MV.int (0 + (i : Nat))) else none) = _
        rw [if_pos hil, Int.zero_add]
      unfold gForN
      rw [a0]
      simp only [tgName, List.set]
      rw [r1]
      exact q
    · have : i = cs.length := by omega
      subst this
      refine ⟨h, [A, o1, some (.ref c), o3, o4], ?_⟩
      have a0 : (it1R 0 cs.length).at_ cs.length h = some none := by
        show some (if cs.length < cs.length then some (MV.int (0 + (cs.length : Nat))) else none) = _
        rw [if_neg (Nat.lt_irrefl _)]
      unfold gForN
      rw [a0]
/-- the law -/
theorem law_gen (hR : Right right C) {M T : Nat} (hM : 0 < M) (hM2 : M ≤ 1000) (hC : C * T ≤ 1000000000) (hT : T < 1000) {ns : List Int} (hl : ns.length ≤ 63) : ∃ h', mLaw M T right [.fls (ns.map MV.int)] .empty = .ok (.bl true) h' := by
  obtain ⟨cs, c, h1, k1, k2, k3⟩ := cells_ok (ns := ns) hM hl
  obtain ⟨h2, m2, q⟩ := law_loop hR hC hT (A := some (.fls (ns.map MV.int))) (c := c) (cs := cs) (cs.length + 1) 0 h1 none none none (by omega) (Nat.zero_le _) k3
  have e1 : (gAsg (gCall mCells [] 2 (gCons (gVar 0) (gCons (gC (.int M)) (gNil)))) (tgName 2)) [some (.fls (ns.map MV.int)), none, none, none, none] .empty = .nx [some (.fls (ns.map MV.int)), none, some (.ref c), none, none] h1 := by
    simp [gAsg, gCall, gCons, gNil, gVar, gC, Out.bind, Out.bindS, k2, tgName, SO.only]
  have e2 : (gFor (gRng1 (gCB (f1 mLenV) (gCons (gVar 2) (gNil)))) (tgName 3) (bLaw1 T right)) [some (.fls (ns.map MV.int)), none, some (.ref c), none, none] h1 = .nx m2 h2 := by
    have : (gRng1 (gCB (f1 mLenV) (gCons (gVar 2) (gNil)))) [some (.fls (ns.map MV.int)), none, some (.ref c), none, none] h1 = .ok (it1R 0 cs.length) h1 := by
      simp [gRng1, gCB, f1, gCons, gNil, gVar, Out.bind, mLenV, mLen, k3]
      omega
    unfold gFor
    rw [this]
    exact q
  refine ⟨h2, ?_⟩
  have : bLaw M T right [some (.fls (ns.map MV.int)), none, none, none, none] .empty = .rt (.bl true) h2 := by
    unfold bLaw gSeq
    rw [e1]
    show ((gFor _ _ (bLaw1 T right)) _ _).next _ = _
    rw [e2]
    rfl
  simp [mLaw, gBody, this]
end
end XG
set_option Elab.async false
set_option linter.all false
set_option maxRecDepth 100000
set_option maxHeartbeats 4000000
namespace XG
open MI
open L2 (atI ixN)
def bCells2 : MS := gSeq (gAsg (gOrT (gCB (f1 mList) (gCons (gSl (gVar 0) (gPn) (gPs (gVar 1))) (gNil))) (gLst (gCons (gC (.int 0)) (gNil)))) (tgName 2)) (gSeq (gFor (gEnumA (gSl (gVar 0) (gPs (gVar 1)) (gPs (gC (.int 63))))) (tgTup [4, 3]) (gAsg (gBin mAdd (gBin mIx (gVar 2) (gBin mMod (gVar 4) (gVar 1))) (gBin mMulA (gVar 3) (gBin mAdd (gVar 4) (gC (.int 2))))) (tgSub (gVar 2) (gBin mMod (gVar 4) (gVar 1))))) (gRet (gVar 2)))
def mCells2 : MF := gBody 5 bCells2
def bCell12 : MS := gAsg (gBin mAdd (gBin mIx (gVar 2) (gBin mMod (gVar 4) (gVar 1))) (gBin mMulA (gVar 3) (gBin mAdd (gVar 4) (gC (.int 2))))) (tgSub (gVar 2) (gBin mMod (gVar 4) (gVar 1)))
theorem cell1_ok2 {h : MH} {c k mm : Nat} {A : Option MV} {v : Int} {cs : List Int} (hg : h.get c = some (.lst (cs.map MV.int))) (hm : 0 < mm) (hk : k < 1000) (hj : k % mm < cs.length) :
    ∃ cs' : List Int, cs'.length = cs.length ∧ bCell12 [A, some (.int mm), some (.ref c), some (.int v), some (.int k)] h = .nx [A, some (.int mm), some (.ref c), some (.int v), some (.int k)] (h.set c (.lst (cs'.map MV.int))) := by
  obtain ⟨j, ej⟩ : ∃ j, j = k % mm := ⟨_, rfl⟩
  rw [← ej] at hj
  have e1 : (k : Int) % (mm : Int) = (j : Int) := by rw [ej]; exact (Int.natCast_emod k mm).symm
  obtain ⟨x, hx⟩ : ∃ x, cs[j]? = some x := ⟨cs[j], List.getElem?_eq_getElem hj⟩
  have x0 := at_map hx
  have x1 : ixN cs.length (j : Int) = some j := by
    unfold ixN
    rw [if_pos (by omega), if_pos (by omega)]; rfl
  have m0 : (0 : Int) < (mm : Int) := by omega
  have c1 : cMul v ((k : Int) + 2) = true := cm_r (by omega)
  refine ⟨cs.set j (x + v * (k + 2)), List.length_set, ?_⟩
  rw [List.map_set]
  simp [bCell12, gAsg, gBin, gVar, gC, Out.bind, Out.bindS, mMod, mIc, hm, m0, e1, mIx, isD, hg, mIxS, seqOf, x0, oV, mAdd, mMulA, isTup, isStr, mMulV, isRep, mMul, c1, tgSub, putM, x1, SO.only]
theorem cells_loop2 {c q mm L : Nat} {l2 : List Int} {A : Option MV} (hcq : q ≠ c) (hm : 0 < mm) (hl : l2.length ≤ 63) (hL : ∀ k, k < l2.length → k % mm < L) : ∀ (n i : Nat) (cs : List Int) (h : MH) (o2 o4 : Option MV), i + n = l2.length + 1 → i ≤ l2.length → cs.length = L →
    h.get c = some (.lst (cs.map MV.int)) → h.get q = some (.lst (l2.map MV.int)) →
    ∃ (cs' : List Int) (h' : MH) (m' : ML), gForN (it1EL q) (tgTup [4, 3]) bCell12 n i [A, some (.int mm), some (.ref c), o2, o4] h = .nx m' h' ∧ cs'.length = L ∧ h'.get c = some (.lst (cs'.map MV.int)) ∧ m'[2]? = some (some (.ref c)) ∧ h'.n = h.n
  | 0, i, cs, h, o2, o4, e, hi, _, _, _ => by omega
  | n + 1, i, cs, h, o2, o4, e, hi, hc, hg, hq => by
    have a0 : (it1EL q).at_ i h = some ((l2.map MV.int)[i]?.map fun x => .tup [.int (i : Nat), x]) := by
      show (match h.get q with
        | some (.lst xs) => some (xs[i]?.map fun x => MV.tup [.int (i : Nat), x])
        | _ => none) = _
      rw [hq]
    unfold gForN
    rw [a0, List.getElem?_map]
    cases k : l2[i]? with
    | none => exact ⟨cs, h, _, rfl, hc, hg, rfl, rfl⟩
    | some v =>
      have hil : i < l2.length := (List.getElem?_eq_some_iff.mp k).1
      obtain ⟨cs', h1, h2⟩ := cell1_ok2 (A := A) (v := v) (k := i) hg hm (by omega) (by rw [hc]; exact hL i hil)
      have hcl := MH.get_lt hg
      obtain ⟨cs2, h', m', r1, r2, r3, r4, r5⟩ := cells_loop2 hcq hm hl hL n (i + 1) cs' (h.set c (.lst (cs'.map MV.int))) (some (.int v)) (some (.int (i : Nat))) (by omega) (by omega) (h1.trans hc) (by rw [MH.get_set hcl, if_pos rfl]) (by rw [MH.get_set hcl, if_neg hcq]; exact hq)
      refine ⟨cs2, h', m', ?_, r2, r3, r4, r5⟩
      simp only [Option.map, tgTup, seqOf, List.length_cons, List.length_nil, if_pos, setMany, List.set]
      rw [h2]
      exact r1
theorem cells_ok2 {ns : List Int} {mm : Nat} (hm : 0 < mm) (hl : ns.length ≤ 63) :
    ∃ (cs : List Int) (c : Nat) (h' : MH), cs.length ≤ 63 + mm ∧ mCells2 [.fls (ns.map MV.int), .int (mm : Int)] .empty = .ok (.ref c) h' ∧ h'.get c = some (.lst (cs.map MV.int)) := by
  obtain ⟨l2, d1, d2, d3⟩ := cut2 (ns := ns) (m := mm)
  have d0 := cut1 (ns := ns) (m := mm)
  have gp : ∀ (h : MH) (o : MO), (h.push o).get h.n = some o := fun h o => by rw [MH.get_push, if_pos rfl]
  -- behind the first statement the cells stand at c
  have first : ∃ (cs : List Int) (c : Nat) (h1 : MH), cs.length ≤ 63 + mm ∧ (ns.length > mm → cs.length = mm) ∧ h1.get c = some (.lst (cs.map MV.int)) ∧
      (gOrT (gCB (f1 mList) (gCons (gSl (gVar 0) (gPn) (gPs (gVar 1))) (gNil))) (gLst (gCons (gC (.int 0)) (gNil)))) [some (.fls (ns.map MV.int)), some (.int (mm : Int)), none, none, none] .empty = .ok (.ref c) h1 := by
    cases hn : (ns.take mm).map MV.int with
    | nil =>
      have e0 : ns = [] := by
        have : ns.take mm = [] := by simpa using hn
        cases ns with
        | nil => rfl
        | cons a l =>
          cases mm with
          | zero => omega
          | succ m => simp at this
      refine ⟨[0], 2, ((MH.empty.push (.lst [])).push (.lst [])).push (.lst [.int 0]), by simp; omega, fun h => by rw [e0] at h; simp at h, gp _ _, ?_⟩
      simp [gOrT, gCB, f1, gCons, gNil, gSl, gVar, gPn, gPs, gC, gLst, Out.bind, mSl, isL, seqOf, d0, hn, mList, gp, mTru]
      rfl
    | cons a l =>
      refine ⟨ns.take mm, 1, (MH.empty.push (.lst (a :: l))).push (.lst (a :: l)), by simp; omega, fun h => by simp; omega, by rw [hn]; exact gp _ _, ?_⟩
      simp [gOrT, gCB, f1, gCons, gNil, gSl, gVar, gPn, gPs, gC, gLst, Out.bind, mSl, isL, seqOf, d0, hn, mList, gp, mTru]
      rfl
  obtain ⟨cs, c, h1, f1', f2, f3, f4⟩ := first
  have hc := MH.get_lt f3
  have hcq : h1.n ≠ c := by omega
  have hL : ∀ k, k < l2.length → k % mm < cs.length := fun k hk => by
    have hne : l2 ≠ [] := by intro z; rw [z] at hk; simp at hk
    rw [f2 (d2 hne)]
    exact Nat.mod_lt _ hm
  obtain ⟨cs', h', m', r1, r2, r3, r4, r5⟩ := cells_loop2 (A := some (.fls (ns.map MV.int))) (c := c) (q := h1.n) (mm := mm) hcq hm (by omega) hL (l2.length + 1) 0 cs (h1.push (.lst (l2.map MV.int))) none none (by omega) (Nat.zero_le _) rfl
    (by rw [MH.get_push, if_neg (Ne.symm hcq)]; exact f3) (gp _ _)
  refine ⟨cs', c, h', by omega, ?_, r3⟩
  have sz : (it1EL h1.n).size (h1.push (.lst (l2.map MV.int))) = l2.length := by
    show (match (h1.push (.lst (l2.map MV.int))).get h1.n with
      | some (.lst xs) => xs.length
      | _ => 0) = _
    rw [gp]; simp
  have s1 : (gAsg (gOrT (gCB (f1 mList) (gCons (gSl (gVar 0) (gPn) (gPs (gVar 1))) (gNil))) (gLst (gCons (gC (.int 0)) (gNil)))) (tgName 2)) [some (.fls (ns.map MV.int)), some (.int (mm : Int)), none, none, none] .empty = .nx [some (.fls (ns.map MV.int)), some (.int (mm : Int)), some (.ref c), none, none] h1 := by
    unfold gAsg
    rw [f4]; rfl
  have s2 : (gFor (gEnumA (gSl (gVar 0) (gPs (gVar 1)) (gPs (gC (.int 63))))) (tgTup [4, 3]) bCell12) [some (.fls (ns.map MV.int)), some (.int (mm : Int)), some (.ref c), none, none] h1 = .nx m' h' := by
    have : (gEnumA (gSl (gVar 0) (gPs (gVar 1)) (gPs (gC (.int 63))))) [some (.fls (ns.map MV.int)), some (.int (mm : Int)), some (.ref c), none, none] h1 = .ok (it1EL h1.n) (h1.push (.lst (l2.map MV.int))) := by
      simp [gEnumA, gSl, gVar, gPs, gC, Out.bind, mSl, isL, seqOf, d1, gp]
    unfold gFor
    rw [this]
    show gForN _ _ _ ((it1EL h1.n).size _ + 1) 0 _ _ = _
    rw [sz]
    exact r1
  have : bCells2 [some (.fls (ns.map MV.int)), some (.int (mm : Int)), none, none, none] .empty = .rt (.ref c) h' := by
    show gSeq _ _ _ _ = _
    unfold gSeq
    rw [s1]
    show ((gFor _ _ bCell12) _ _).next _ = _
    rw [s2]
    simp [SO.next, gRet, gVar, r4, Out.bindS]
  simp [mCells2, gBody, this]
def bLaw2 (M T : Int) (right : MF) : MS := gSeq (gAsg (gCall mCells2 [] 2 (gCons (gVar 0) (gCons (gC (.int M)) (gNil)))) (tgName 2)) (gSeq (gFor (gRng1 (gCB (f1 mLenV) (gCons (gVar 2) (gNil)))) (tgName 3) (bLaw1 T right)) (gRet (gC (.bl true))))
def mLaw2 (M T : Int) (right : MF) : MF := gBody 5 (bLaw2 M T right)
section
variable {right : MF} {C : Nat}
/-- the law -/
theorem law_gen2 (hR : Right right C) {M T : Nat} (hM : 0 < M) (hM2 : M ≤ 1000) (hC : C * T ≤ 1000000000) (hT : T < 1000) {ns : List Int} (hl : ns.length ≤ 63) : ∃ h', mLaw2 M T right [.fls (ns.map MV.int)] .empty = .ok (.bl true) h' := by
  obtain ⟨cs, c, h1, k1, k2, k3⟩ := cells_ok2 (ns := ns) hM hl
  obtain ⟨h2, m2, q⟩ := law_loop hR hC hT (A := some (.fls (ns.map MV.int))) (c := c) (cs := cs) (cs.length + 1) 0 h1 none none none (by omega) (Nat.zero_le _) k3
  have e1 : (gAsg (gCall mCells2 [] 2 (gCons (gVar 0) (gCons (gC (.int M)) (gNil)))) (tgName 2)) [some (.fls (ns.map MV.int)), none, none, none, none] .empty = .nx [some (.fls (ns.map MV.int)), none, some (.ref c), none, none] h1 := by
    simp [gAsg, gCall, gCons, gNil, gVar, gC, Out.bind, Out.bindS, k2, tgName, SO.only]
  have e2 : (gFor (gRng1 (gCB (f1 mLenV) (gCons (gVar 2) (gNil)))) (tgName 3) (bLaw1 T right)) [some (.fls (ns.map MV.int)), none, some (.ref c), none, none] h1 = .nx m2 h2 := by
    have : (gRng1 (gCB (f1 mLenV) (gCons (gVar 2) (gNil)))) [some (.fls (ns.map MV.int)), none, some (.ref c), none, none] h1 = .ok (it1R 0 cs.length) h1 := by
      simp [gRng1, gCB, f1, gCons, gNil, gVar, Out.bind, mLenV, mLen, k3]
      omega
    unfold gFor
    rw [this]
    exact q
  refine ⟨h2, ?_⟩
  have : bLaw2 M T right [some (.fls (ns.map MV.int)), none, none, none, none] .empty = .rt (.bl true) h2 := by
    unfold bLaw2 gSeq
    rw [e1]
    show ((gFor _ _ (bLaw1 T right)) _ _).next _ = _
    rw [e2]
    rfl
  simp [mLaw2, gBody, this]
end
end XG
set_option Elab.async false
set_option linter.all false
set_option maxRecDepth 100000
set_option maxHeartbeats 4000000
namespace XM
open MI XG
open L2 (atI ixN)
/-- what was there is there -/
structure Up (h h' : MH) : Prop where
  n : h.n ≤ h'.n
  get : ∀ j, j < h.n → h'.get j = h.get j
theorem Up.refl {h : MH} : Up h h := ⟨Nat.le_refl _, fun _ _ => rfl⟩
theorem Up.trans {h h1 h2 : MH} (a : Up h h1) (b : Up h1 h2) : Up h h2 := ⟨Nat.le_trans a.n b.n, fun j hj => (b.get j (Nat.lt_of_lt_of_le hj a.n)).trans (a.get j hj)⟩
theorem get_top {h : MH} {o : MO} : (h.push o).get h.n = some o := by rw [MH.get_push, if_pos rfl]
theorem Up.push {h : MH} {o : MO} : Up h (h.push o) := ⟨Nat.le_succ _, fun j hj => by rw [MH.get_push, if_neg (by omega)]⟩
theorem Up.at {h h' : MH} (u : Up h h') {i : Nat} {o : MO} (e : h.get i = some o) : h'.get i = some o := (u.get i (MH.get_lt e)).trans e
/-- what was there is there, but for the things of F -/
structure Kp (F : List Nat) (h h' : MH) : Prop where
  n : h.n ≤ h'.n
  get : ∀ j, j < h.n → j ∉ F → h'.get j = h.get j
theorem Kp.refl {F : List Nat} {h : MH} : Kp F h h := ⟨Nat.le_refl _, fun _ _ _ => rfl⟩
theorem Kp.trans {F : List Nat} {h h1 h2 : MH} (a : Kp F h h1) (b : Kp F h1 h2) : Kp F h h2 := ⟨Nat.le_trans a.n b.n, fun j hj hf => (b.get j (Nat.lt_of_lt_of_le hj a.n) hf).trans (a.get j hj hf)⟩
theorem Up.kp {F : List Nat} {h h' : MH} (u : Up h h') : Kp F h h' := ⟨u.n, fun j hj _ => u.get j hj⟩
theorem Kp.le {F G : List Nat} {h h' : MH} (k : Kp F h h') (s : ∀ j ∈ F, j < h.n → j ∈ G) : Kp G h h' := ⟨k.n, fun j hj hf => k.get j hj fun z => hf (s j z hj)⟩
theorem Kp.set {F : List Nat} {h : MH} {i : Nat} {o : MO} (hi : i < h.n) (m : i ∈ F) : Kp F h (h.set i o) := ⟨Nat.le_refl _, fun j _ hf => by rw [MH.get_set hi, if_neg (fun z => hf (by rw [z]; exact m))]⟩
theorem Kp.at {F : List Nat} {h h' : MH} (k : Kp F h h') {i : Nat} {o : MO} (e : h.get i = some o) (f : i ∉ F) : h'.get i = some o := (k.get i (MH.get_lt e) f).trans e
theorem set_get {h : MH} {i : Nat} {o o' : MO} (e : h.get i = some o') : (h.set i o).get i = some o := by rw [MH.get_set (MH.get_lt e), if_pos rfl]
theorem set_ne {h : MH} {i j : Nat} {o o' : MO} (e : h.get i = some o') (n : j ≠ i) : (h.set i o).get j = h.get j := by rw [MH.get_set (MH.get_lt e), if_neg n]
inductive Sq (h : MH) : MV → List MV → Prop where
  | tup (xs : List MV) : Sq h (.tup xs) xs
  | ref {q : Nat} {xs : List MV} (e : h.get q = some (.lst xs)) : Sq h (.ref q) xs
theorem Sq.up {h h' : MH} {v : MV} {xs : List MV} (s : Sq h v xs) (u : Up h h') : Sq h' v xs := by
  cases s with
  | tup => exact .tup _
  | ref e => exact .ref (u.at e)
theorem Sq.len {h : MH} {v : MV} {xs : List MV} (s : Sq h v xs) : mLenV v h = .ok (.int xs.length) h := by
  cases s with
  | tup => rfl
  | ref e => simp [mLenV, mLen, e]
theorem at_nat {α : Type} {xs : List α} {k : Nat} {x : α} (e : xs[k]? = some x) : atI xs (k : Int) = some x := by
  have hl : k < xs.length := (List.getElem?_eq_some_iff.mp e).1
  unfold atI ixN
  rw [if_pos (by omega), if_pos (by omega)]
  show xs[(k : Int).toNat]? = _
  rw [Int.toNat_natCast, e]
theorem Sq.ix {h : MH} {v : MV} {xs : List MV} {k : Nat} {x : MV} (s : Sq h v xs) (e : xs[k]? = some x) : mIx v (.int (k : Int)) h = .ok x h := by
  have a := at_nat e
  cases s with
  | tup => simp [mIx, isD, mIxS, seqOf, a, oV]
  | ref q => simp [mIx, isD, q, mIxS, seqOf, a, oV]
theorem cutT {xs : List MV} {m : Nat} (hm : m ≤ xs.length) : mcut xs none (some (m : Int)) = xs.take m := by
  unfold mcut
  rw [HT.sIx_none, HT.sIx_nat, List.drop_zero, Nat.sub_zero, Nat.min_eq_left hm]
theorem Sq.sl {h : MH} {v : MV} {xs : List MV} {m : Nat} (s : Sq h v xs) (hm : m ≤ xs.length) : ∃ v' h', mSl v none (some (m : Int)) h = .ok v' h' ∧ Up h h' ∧ Sq h' v' (xs.take m) := by
  cases s with
  | tup => exact ⟨_, h, by simp [mSl, cutT hm], .refl, .tup _⟩
  | ref e => exact ⟨_, _, by simp [mSl, isL, seqOf, e, cutT hm], Up.push, .ref get_top⟩
theorem Sq.tuple {h : MH} {v : MV} {xs : List MV} (s : Sq h v xs) : mTuple v h = .ok (.tup xs) h := by
  cases s with
  | tup => rfl
  | ref e => simp [mTuple, seqOf, e]
/-- how many items there are up to the last that is not None -/
def tl (xs : List MV) : Nat → Nat
  | 0 => 0
  | n + 1 => match xs[n]? with
    | some x => if mIsN x = true then tl xs n else n + 1
    | none => tl xs n
theorem tl_le (xs : List MV) : ∀ n, tl xs n ≤ n
  | 0 => Nat.le_refl _
  | n + 1 => by
    have := tl_le xs n
    unfold tl
    split
    · split <;> omega
    · omega
def trim (xs : List MV) : List MV := xs.take (tl xs xs.length)
def cWE : MT := gAnd (gB (gBin mGtI (gVar 1) (gC (.int 0)))) (gB (gIsN (gBin mIx (gVar 0) (gBin mSub (gVar 1) (gC (.int 1))))))
theorem cWE0 {h : MH} {v : MV} : cWE [some v, some (.int ((0 : Nat) : Int))] h = .ok false h := by
  simp [cWE, gAnd, gB, gBin, gVar, gC, mGtI, mI, Out.bind]
theorem cWE1 {h : MH} {v : MV} {xs : List MV} {k : Nat} {x : MV} (s : Sq h v xs) (e : xs[k]? = some x) : cWE [some v, some (.int ((k + 1 : Nat) : Int))] h = .ok (mIsN x) h := by
  have a := s.ix e
  have b : ((k + 1 : Nat) : Int) - 1 = (k : Int) := by omega
  have c : (0 : Int) < ((k + 1 : Nat) : Int) := by omega
  simp only [cWE, gAnd, gB, gBin, gVar, gC, mGtI, mI, Out.bind, gIsN, gUn, mSub, b, a, List.getElem?_cons_succ, List.getElem?_cons_zero, decide_eq_true c, if_pos]
theorem while_ok {h : MH} {v : MV} {xs : List MV} {b : MS} (s : Sq h v xs) (hb : ∀ k : Nat, b [some v, some (.int ((k + 1 : Nat) : Int))] h = .nx [some v, some (.int (k : Int))] h) : ∀ (n f : Nat), n < f → n ≤ xs.length →
    gWhile cWE b f [some v, some (.int (n : Int))] h = .nx [some v, some (.int (tl xs n : Nat))] h
  | 0, f + 1, _, _ => by
    unfold gWhile
    rw [cWE0]; rfl
  | n + 1, f + 1, hf, hn => by
    obtain ⟨x, hx⟩ : ∃ x, xs[n]? = some x := ⟨xs[n], List.getElem?_eq_getElem (by omega)⟩
    unfold gWhile
    rw [cWE1 s hx]
    unfold tl
    rw [hx]
    simp only [Out.bindS]
    cases hN : mIsN x with
    | true =>
      simp only [if_pos, hb n]
      exact while_ok s hb n f (by omega) (by omega)
    | false => rfl
  | _, 0, hf, _ => by omega
/-- the tuple of a row without its end; the loop's own way of counting down is B -/
def bWE (B : MS) : MS := gSeq (gAsg (gCB (f1 mLenV) (gCons (gVar 0) (gNil))) (tgName 1)) (gSeq (gWhile cWE B 100000) (gRet (gCB (f1 mTuple) (gCons (gSl (gVar 0) (gPn) (gPs (gVar 1))) (gNil)))))
theorem bWE_ok {h : MH} {v : MV} {xs : List MV} {B : MS} (s : Sq h v xs) (hl : xs.length < 100000) (hb : ∀ k : Nat, B [some v, some (.int ((k + 1 : Nat) : Int))] h = .nx [some v, some (.int (k : Int))] h) :
    ∃ h', gBody 2 (bWE B) [v] h = .ok (.tup (trim xs)) h' ∧ Up h h' := by
  have hw := while_ok s hb xs.length 100000 hl (Nat.le_refl _)
  obtain ⟨v', h', a, u, s'⟩ := s.sl (tl_le xs xs.length)
  refine ⟨h', ?_, u⟩
  have l := s.len
  simp only [gBody, bWE, gSeq, gAsg, gCB, f1, gCons, gNil, gVar, Out.bind, Out.bindS, List.map, List.length_cons, List.length_nil, List.replicate, List.cons_append, List.nil_append, List.append_nil, List.getElem?_cons_zero, l, tgName, SO.only, SO.next, List.set, hw, gRet, gSl, gPn, gPs, List.getElem?_cons_succ]
  simp only [a, s'.tuple]
  rfl
def mWE : MF := gBody 2 (bWE (gAug 1 (fun i j => i - j) (gC (.int 1))))
def mTrim : MF := gBody 2 (bWE (gAsg (gBin mSub (gVar 1) (gC (.int 1))) (tgName 1)))
theorem we_ok {h : MH} {v : MV} {xs : List MV} (s : Sq h v xs) (hl : xs.length < 100000) : ∃ h', mWE [v] h = .ok (.tup (trim xs)) h' ∧ Up h h' :=
  bWE_ok s hl fun k => by
    have b : ((k : Int) + 1) - 1 = (k : Int) := by omega
    simp [gAug, gC, Out.bindS, b]
theorem trim_ok {h : MH} {v : MV} {xs : List MV} (s : Sq h v xs) (hl : xs.length < 100000) : ∃ h', mTrim [v] h = .ok (.tup (trim xs)) h' ∧ Up h h' :=
  bWE_ok s hl fun k => by
    have b : ((k : Int) + 1) - 1 = (k : Int) := by omega
    simp [gAsg, gBin, gVar, gC, Out.bind, Out.bindS, mSub, mI, tgName, SO.only, b]
/-- nothing but Nones -/
theorem tl_zero (xs : List MV) : ∀ n, n ≤ xs.length → (tl xs n = 0 ↔ ∀ k, k < n → xs[k]? = some .non)
  | 0, _ => by simp [tl]
  | n + 1, hn => by
    obtain ⟨x, hx⟩ : ∃ x, xs[n]? = some x := ⟨xs[n], List.getElem?_eq_getElem (by omega)⟩
    have ih := tl_zero xs n (by omega)
    unfold tl
    rw [hx]
    dsimp only
    by_cases c : mIsN x = true
    · rw [if_pos c, ih]
      have ex : x = .non := by cases x <;> first | rfl | cases c
      subst ex
      constructor
      · intro h k hk
        by_cases e : k = n
        · rw [e, hx]
        · exact h k (by omega)
      · intro h k hk
        exact h k (by omega)
    · rw [if_neg c]
      constructor
      · intro h; omega
      · intro h
        have := h n (by omega)
        rw [hx] at this
        cases this
        exact absurd rfl c
theorem trim_nil {xs : List MV} : trim xs = [] ↔ ∀ x ∈ xs, x = .non := by
  have a := tl_zero xs xs.length (Nat.le_refl _)
  have b := tl_le xs xs.length
  unfold trim
  rw [List.take_eq_nil_iff]
  constructor
  · intro h x hx
    obtain ⟨k, hk, rfl⟩ := List.getElem_of_mem hx
    rcases h with h | h
    · have := a.mp h k hk
      rw [List.getElem?_eq_getElem hk] at this
      exact Option.some.inj this
    · rw [h] at hk; simp at hk
  · intro h
    left
    refine a.mpr fun k hk => ?_
    rw [List.getElem?_eq_getElem hk, h _ (List.getElem_mem hk)]
end XM
set_option Elab.async false
set_option linter.all false
set_option maxRecDepth 100000
set_option maxHeartbeats 4000000
namespace XM
open MI XG
open L2 (atI ixN)
abbrev fR : Nat := 2224424605672678250579492959
abbrev fB : Nat := 1953625185185451595341496415
abbrev fK : Nat := 2243767354222864078911570015
abbrev fM : Nat := 94941204903626959178789249757594317142006096203679912689759
abbrev fP : Nat := 2224424578002588528290037855
abbrev nGet : Nat := 510173607100519
abbrev nPage : Nat := 931561028721326424176
abbrev nKeep : Nat := 2166396000310435406327840863
abbrev nPut : Nat := 510173640654960
abbrev nMany : Nat := 1116028500244747518061
def mInit (C : Nat) : MF := gBody 4 (gSeq (gFldS [C] fR (gDic) (gVar 0)) (gSeq (gFor (gEnumA (gVar 1)) (tgTup [2, 3]) (gIfS (gTru (gCall mWE [] 1 (gCons (gVar 3) (gNil)))) (gAsg (gBin mAdd (gCB (f1 mList) (gCons (gVar 3) (gNil))) (gBin mMulA (gLst (gCons (gC .non) (gNil))) (gBin mSub (gC (.int 8)) (gCB (f1 mLenV) (gCons (gVar 3) (gNil)))))) (tgSub (gFld [C] fR (gVar 0)) (gVar 2))) (gNext))) (gSeq (gFldS [C] fB (gDic) (gVar 0)) (gSeq (gFldS [C] fK (gC .non) (gVar 0)) (gSeq (gFldS [C] fM (gC (.int 0)) (gVar 0)) (gFldS [C] fP (gC (.int 0)) (gVar 0)))))))
def mPage (C : Nat) : MF := gBody 2 (gRet (gCall mWE [] 1 (gCons (gDget2 (gFld [C] fR (gVar 0)) (gVar 1) (gLst (gNil))) (gNil))))
def mKeep (C : Nat) : MF := gBody 2 (gSeq (gIfS (gB (gBin (mIn fun b => !b) (gVar 1) (gFld [C] fB (gVar 0)))) (gAsg (gMeth C nPage (mPage C) [] 2 (gVar 0) (gCons (gVar 1) (gNil))) (tgSub (gFld [C] fB (gVar 0)) (gVar 1))) (gNext)) (gIfS (gAnd (gB (gNotN (gFld [C] fK (gVar 0)))) (gB (gBin (mIn fun b => !b) (gVar 1) (gFld [C] fK (gVar 0))))) (gAsg (gMeth C nPage (mPage C) [] 2 (gVar 0) (gCons (gVar 1) (gNil))) (tgSub (gFld [C] fK (gVar 0)) (gVar 1))) (gNext)))
def mGet (C : Nat) : MF := gBody 2 (gSeq (gIfS (gB (gBin (mIn fun b => !b) (gBin mDiv (gVar 1) (gC (.int 8))) (gFld [C] fR (gVar 0)))) (gRet (gC .non)) (gNext)) (gRet (gBin mIx (gBin mIx (gFld [C] fR (gVar 0)) (gBin mDiv (gVar 1) (gC (.int 8)))) (gBin mMod (gVar 1) (gC (.int 8))))))
def mPut (C : Nat) : MF := gBody 5 (gSeq (gIfS (gB (gBin mEqA (gMeth C nGet (mGet C) [] 2 (gVar 0) (gCons (gVar 1) (gNil))) (gVar 2))) (gRetN) (gNext)) (gSeq (gAsg (gBin mDiv (gVar 1) (gC (.int 8))) (tgName 3)) (gSeq (gExpr (gMeth C nKeep (mKeep C) [] 2 (gVar 0) (gCons (gVar 3) (gNil)))) (gSeq (gAsg (gSetd (gFld [C] fR (gVar 0)) (gVar 3) (gBin mMulA (gLst (gCons (gC .non) (gNil))) (gC (.int 8)))) (tgName 4)) (gSeq (gAsg (gVar 2) (tgSub (gVar 4) (gBin mMod (gVar 1) (gC (.int 8))))) (gSeq (gIfS (gNot (gTru (gCall mWE [] 1 (gCons (gVar 4) (gNil))))) (gDel (gFld [C] fR (gVar 0)) (gVar 3)) (gNext)) (gFldAug [C] fP (fun i j => i + j) (gVar 0) (gC (.int 1)))))))))
def mMany (C : Nat) : MF := gBody 1 (gRet (gBin mAdd (gMaxD (gFld [C] fR (gVar 0)) (gUn mNeg (gC (.int 1)))) (gC (.int 1))))
def atB : MV → Bool
  | .non => true
  | .int i => decide (i.natAbs < 100000000000000000000000000000000000000000000000000)
  | .str s => decide (s.length ≤ 20) && s.all fun c => decide (c < 1114112)
  | _ => false
/-- atoms are compared -/
theorem at_eq {x y : MV} (a : atB x = true) (b : atB y = true) : ∃ c, mEq x y = some c ∧ (c = true ↔ x = y) := by
  cases x <;> cases y <;> first
    | (cases a; done)
    | (cases b; done)
    | exact ⟨true, rfl, by simp⟩
    | exact ⟨false, rfl, by simp⟩
    | exact ⟨_, rfl, by simp [leq_iff]⟩
theorem at_row {x : MV} (a : atB x = true) : isRow x = false := by cases x <;> first | rfl | cases a
abbrev Rows := List (Int × Nat × List MV)
def look : Rows → Int → Option (Nat × List MV)
  | [], _ => none
  | p :: r, n => if p.1 = n then some p.2 else look r n
def rKv (R : Rows) : List (MK × MV) := R.map fun p => (.inl p.1, .ref p.2.1)
theorem keq_int {a b : Int} : keq (.inl a) (.inl b) = decide (a = b) := rfl
theorem dval_rKv (n : Int) : ∀ R : Rows, dval keq (rKv R) (.inl n) = (look R n).map fun q => .ref q.1
  | [] => rfl
  | p :: r => by
    show (if keq (.inl p.1) (.inl n) = true then some (MV.ref p.2.1) else dval keq (rKv r) (.inl n)) = _
    unfold look
    rw [keq_int, dval_rKv n r]
    by_cases c : p.1 = n
    · rw [if_pos (decide_eq_true c), if_pos c]; rfl
    · rw [if_neg (by simpa using c), if_neg c]
theorem look_mem {n : Int} {q : Nat × List MV} : ∀ {R : Rows}, look R n = some q → (n, q) ∈ R
  | p :: r, h => by
    unfold look at h
    by_cases c : p.1 = n
    · rw [if_pos c] at h
      cases h
      rw [← c]; exact List.mem_cons_self
    · rw [if_neg c] at h
      exact List.mem_cons_of_mem _ (look_mem h)
def cellOf (xs : List MV) (c : Int) : MV := (xs[(c % 8).toNat]?).getD .non
def rget (R : Rows) (c : Int) : MV := match look R (c / 8) with
  | some q => cellOf q.2 c
  | none => .non
def pageOf (R : Rows) (n : Int) : List MV := match look R n with
  | some q => trim q.2
  | none => []
def flds (r b : Nat) (p : Int) : List (Nat × MV) := [(fR, .ref r), (fB, .ref b), (fK, .non), (fM, .int 0), (fP, .int p)]
/-- what a memory's things are, as its rows tell -/
structure MemW (C : Nat) (h : MH) (s r b : Nat) (R : Rows) (L : Nat) : Prop where
  ins : ∃ p, h.get s = some (.ins C (flds r b p))
  dr : h.get r = some (.dic (rKv R))
  db : ∃ B : List (Int × MV), B.length ≤ L ∧ h.get b = some (.dic (B.map fun p => (.inl p.1, p.2)))
  row : ∀ p ∈ R, h.get p.2.1 = some (.lst p.2.2) ∧ p.2.2.length = 8 ∧ ∀ x ∈ p.2.2, atB x = true
  nd : (s :: r :: b :: R.map fun p => p.2.1).Nodup
  keys : (R.map fun p => p.1).Nodup
  len : R.length ≤ L
abbrev fp (s r b : Nat) (R : Rows) : List Nat := s :: r :: b :: R.map fun p => p.2.1
theorem MemW.frame {C : Nat} {h h' : MH} {s r b L : Nat} {R : Rows} (m : MemW C h s r b R L) (e : ∀ j ∈ fp s r b R, j < h.n → h'.get j = h.get j) : MemW C h' s r b R L := by
  have g : ∀ {j : Nat} {o : MO}, j ∈ fp s r b R → h.get j = some o → h'.get j = some o := fun hj q => (e _ hj (MH.get_lt q)).trans q
  obtain ⟨p, hp⟩ := m.ins
  obtain ⟨B, hB, hb⟩ := m.db
  exact ⟨⟨p, g (by simp) hp⟩, g (by simp) m.dr, ⟨B, hB, g (by simp) hb⟩, fun p hp => ⟨g (by simp; exact .inr (.inr (.inr ⟨_, _, hp⟩))) (m.row p hp).1, (m.row p hp).2⟩, m.nd, m.keys, m.len⟩
theorem MemW.up {C : Nat} {h h' : MH} {s r b L : Nat} {R : Rows} (m : MemW C h s r b R L) (u : Up h h') : MemW C h' s r b R L := m.frame fun j _ hj => u.get j hj
theorem MemW.lt {C : Nat} {h : MH} {s r b L : Nat} {R : Rows} (m : MemW C h s r b R L) : ∀ j ∈ fp s r b R, j < h.n := by
  intro j hj
  obtain ⟨p, hp⟩ := m.ins
  obtain ⟨B, hB, hb⟩ := m.db
  simp only [fp, List.mem_cons, List.mem_map] at hj
  rcases hj with rfl | rfl | rfl | ⟨p, hp, rfl⟩
  · exact MH.get_lt hp
  · exact MH.get_lt m.dr
  · exact MH.get_lt hb
  · exact MH.get_lt (m.row p hp).1
theorem MemW.le {C : Nat} {h : MH} {s r b L L' : Nat} {R : Rows} (m : MemW C h s r b R L) (k : L ≤ L') : MemW C h s r b R L' :=
  ⟨m.ins, m.dr, by obtain ⟨B, hB, hb⟩ := m.db; exact ⟨B, Nat.le_trans hB k, hb⟩, m.row, m.nd, m.keys, Nat.le_trans m.len k⟩
theorem at_non : atB .non = true := rfl
theorem MemW.at {C : Nat} {h : MH} {s r b L : Nat} {R : Rows} (m : MemW C h s r b R L) (c : Int) : atB (rget R c) = true := by
  unfold rget
  cases k : look R (c / 8) with
  | none => rfl
  | some q =>
    dsimp only
    unfold cellOf
    cases e : q.2[(c % 8).toNat]? with
    | none => rfl
    | some x => exact (m.row _ (look_mem k)).2.2 x (List.mem_of_getElem? e)
section
variable {C : Nat} {h : MH} {s r b L : Nat} {R : Rows}
/-- a memory's field -/
theorem fldR {m : ML} (M : MemW C h s r b R L) (e : m[0]? = some (some (.ref s))) : gFld [C] fR (gVar 0) m h = .ok (.ref r) h := by
  obtain ⟨p, hp⟩ := M.ins
  have l : (flds r b p).lookup fR = some (.ref r) := rfl
  simp [gFld, gUn, gVar, e, Out.bind, mFld, hp, l]
theorem fldB {m : ML} (M : MemW C h s r b R L) (e : m[0]? = some (some (.ref s))) : gFld [C] fB (gVar 0) m h = .ok (.ref b) h := by
  obtain ⟨p, hp⟩ := M.ins
  have l : (flds r b p).lookup fB = some (.ref b) := rfl
  simp [gFld, gUn, gVar, e, Out.bind, mFld, hp, l]
theorem fldK {m : ML} (M : MemW C h s r b R L) (e : m[0]? = some (some (.ref s))) : gFld [C] fK (gVar 0) m h = .ok .non h := by
  obtain ⟨p, hp⟩ := M.ins
  have l : (flds r b p).lookup fK = some .non := rfl
  simp [gFld, gUn, gVar, e, Out.bind, mFld, hp, l]
theorem isD_r (M : MemW C h s r b R L) : isD h (.ref r) = true := by simp [isD, M.dr]
theorem dGet_r (M : MemW C h s r b R L) (n : Int) : dGet h (.ref r) (.int n) = some ((look R n).map fun q => .ref q.1) := by simp [dGet, M.dr, mkey, dval_rKv]
theorem get_ok (M : MemW C h s r b R L) (c : Int) : mGet C [.ref s, .int c] h = .ok (rget R c) h := by
  have f := fldR (m := [some (.ref s), some (.int c)]) M rfl
  have d := isD_r M
  have g := dGet_r M (c / 8)
  have e1 : ∀ h, mDiv (.int c) (.int 8) h = .ok (.int (c / 8)) h := fun h => rfl
  have e2 : ∀ h, mMod (.int c) (.int 8) h = .ok (.int (c % 8)) h := fun h => rfl
  have v1 : ∀ h, gVar 1 [some (.ref s), some (.int c)] h = .ok (.int c) h := fun h => rfl
  unfold rget
  cases k : look R (c / 8) with
  | none =>
    rw [k] at g
    simp [mGet, gBody, gSeq, gIfS, gB, gBin, gC, v1, Out.bind, Out.bindS, e1, f, mIn, d, mInD, g, gRet, SO.next]
  | some q =>
    rw [k] at g
    obtain ⟨m1, m2, m3⟩ := M.row _ (look_mem k)
    dsimp only at m1 m2
    have hb : (c % 8).toNat < q.2.length := by omega
    have hx : q.2[(c % 8).toNat]? = some (q.2[(c % 8).toNat]) := List.getElem?_eq_getElem hb
    have ix := (Sq.ref m1).ix hx
    have ec : ((c % 8).toNat : Int) = c % 8 := by omega
    rw [ec] at ix
    have i1 : mIx (.ref r) (.int (c / 8)) h = .ok (.ref q.1) h := by simp [mIx, d, mIxD, g, oV]
    simp [mGet, gBody, gSeq, gIfS, gB, gBin, gC, v1, Out.bind, Out.bindS, e1, e2, f, mIn, d, mInD, g, gRet, gNext, SO.next, i1, ix, cellOf, hx]
theorem page_ok (M : MemW C h s r b R L) (n : Int) : ∃ h', mPage C [.ref s, .int n] h = .ok (.tup (pageOf R n)) h' ∧ Up h h' := by
  have f := fldR (m := [some (.ref s), some (.int n)]) M rfl
  have d := isD_r M
  have M1 := M.up (Up.push (o := .lst []))
  have g := dGet_r M1 n
  have v1 : ∀ h, gVar 1 [some (.ref s), some (.int n)] h = .ok (.int n) h := fun h => rfl
  unfold pageOf
  cases k : look R n with
  | none =>
    rw [k] at g
    obtain ⟨h', e, u⟩ := we_ok (h := h.push (.lst [])) (v := .ref h.n) (xs := []) (.ref get_top) (by decide)
    refine ⟨h', ?_, Up.push.trans u⟩
    have t : trim [] = [] := rfl
    rw [t] at e
    simp [mPage, gBody, gRet, gCall, gCons, gNil, gDget2, f, d, v1, gLst, Out.bind, Out.bindS, g, e]
  | some q =>
    rw [k] at g
    obtain ⟨m1, m2, m3⟩ := M1.row _ (look_mem k)
    dsimp only at m1 m2
    obtain ⟨h', e, u⟩ := we_ok (h := h.push (.lst [])) (v := .ref q.1) (xs := q.2) (.ref m1) (by omega)
    refine ⟨h', ?_, Up.push.trans u⟩
    simp [mPage, gBody, gRet, gCall, gCons, gNil, gDget2, f, d, v1, gLst, Out.bind, Out.bindS, g, e]
end
end XM
set_option Elab.async false
set_option linter.all false
set_option maxRecDepth 100000
set_option maxHeartbeats 4000000
namespace XM
open MI XG
open L2 (atI ixN)
theorem seq_nx {a b : MS} {m m' : ML} {h h' : MH} (e : a m h = .nx m' h') : gSeq a b m h = b m' h' := by unfold gSeq; rw [e]; rfl
theorem seq_rt {a b : MS} {m : ML} {v : MV} {h h' : MH} (e : a m h = .rt v h') : gSeq a b m h = .rt v h' := by unfold gSeq; rw [e]; rfl
theorem body_rt {N : Nat} {b : MS} {as : List MV} {v : MV} {h h' : MH} (e : b (as.map some ++ List.replicate (N - as.length) none) h = .rt v h') : gBody N b as h = .ok v h' := by unfold gBody; rw [e]
theorem body_nx {N : Nat} {b : MS} {as : List MV} {m : ML} {h h' : MH} (e : b (as.map some ++ List.replicate (N - as.length) none) h = .nx m h') : gBody N b as h = .ok .non h' := by unfold gBody; rw [e]
theorem ifS_t {c : MT} {a b : MS} {m : ML} {h h1 : MH} (e : c m h = .ok true h1) : gIfS c a b m h = a m h1 := by unfold gIfS; rw [e]; rfl
theorem ifS_f {c : MT} {a b : MS} {m : ML} {h h1 : MH} (e : c m h = .ok false h1) : gIfS c a b m h = b m h1 := by unfold gIfS; rw [e]; rfl
theorem asg_nx {a : ME} {i : Nat} {m : ML} {v : MV} {h h' : MH} (e : a m h = .ok v h') : gAsg a (tgName i) m h = .nx (m.set i (some v)) h' := by unfold gAsg; rw [e]; rfl
theorem expr_nx {a : ME} {m : ML} {v : MV} {h h' : MH} (e : a m h = .ok v h') : gExpr a m h = .nx m h' := by unfold gExpr; rw [e]; rfl
theorem var_at {i : Nat} {m : ML} {v : MV} {h : MH} (e : m[i]? = some (some v)) : gVar i m h = .ok v h := by unfold gVar; rw [e]
/-- a method's call, by its parts -/
theorem meth1 {c f n : Nat} {g : MF} {o a : ME} {m : ML} {h h1 h2 : MH} {i : Nat} {fs : List (Nat × MV)} {x : MV} (eo : o m h = .ok (.ref i) h1) (hi : h1.get i = some (.ins c fs)) (l : fs.lookup f = none) (ea : a m h1 = .ok x h2) (hn : n = 2) : gMeth c f g [] n o (gCons a gNil) m h = g [.ref i, x] h2 := by
  subst hn
  simp [gMeth, eo, Out.bind, hi, l, gCons, gNil, ea]
theorem meth0 {c f n : Nat} {g : MF} {o : ME} {m : ML} {h h1 : MH} {i : Nat} {fs : List (Nat × MV)} (eo : o m h = .ok (.ref i) h1) (hi : h1.get i = some (.ins c fs)) (l : fs.lookup f = none) (hn : n = 1) : gMeth c f g [] n o gNil m h = g [.ref i] h1 := by
  subst hn
  simp [gMeth, eo, Out.bind, hi, l, gNil]
theorem call1 {n : Nat} {g : MF} {a : ME} {m : ML} {h h2 : MH} {x : MV} (ea : a m h = .ok x h2) (hn : n = 1) : gCall g [] n (gCons a gNil) m h = g [x] h2 := by
  subst hn
  simp [gCall, Out.bind, gCons, gNil, ea]
theorem call2 {n : Nat} {g : MF} {a b : ME} {m : ML} {h h1 h2 : MH} {x y : MV} (ea : a m h = .ok x h1) (eb : b m h1 = .ok y h2) (hn : n = 2) : gCall g [] n (gCons a (gCons b gNil)) m h = g [x, y] h2 := by
  subst hn
  simp [gCall, Out.bind, gCons, gNil, ea, eb]
def iKv (B : List (Int × MV)) : List (MK × MV) := B.map fun p => (.inl p.1, p.2)
def kfind : List (Int × MV) → Int → Option MV
  | [], _ => none
  | p :: r, n => if p.1 = n then some p.2 else kfind r n
theorem dval_iKv (n : Int) : ∀ B : List (Int × MV), dval keq (iKv B) (.inl n) = kfind B n
  | [] => rfl
  | p :: r => by
    show (if keq (.inl p.1) (.inl n) = true then some p.2 else dval keq (iKv r) (.inl n)) = _
    unfold kfind
    rw [keq_int, dval_iKv n r]
    by_cases c : p.1 = n
    · rw [if_pos (decide_eq_true c), if_pos c]
    · rw [if_neg (by simpa using c), if_neg c]
theorem dhas_dval {n : MK} : ∀ kvs : List (MK × MV), dhas keq kvs n = (dval keq kvs n).isSome
  | [] => rfl
  | p :: r => by
    obtain ⟨g, x⟩ := p
    show (if keq g n = true then true else dhas keq r n) = (if keq g n = true then some x else dval keq r n).isSome
    rw [dhas_dval r]
    split <;> rfl
theorem dput_new {kvs : List (MK × MV)} {n : MK} {v : MV} (e : dval keq kvs n = none) : dput keq kvs n v = kvs ++ [(n, v)] := by
  unfold dput
  rw [dhas_dval, e]; rfl
section
variable {C : Nat} {h : MH} {s r b L : Nat} {R : Rows}
theorem MemW.ne (M : MemW C h s r b R L) : s ≠ r ∧ s ≠ b ∧ r ≠ b ∧ (∀ p ∈ R, p.2.1 ≠ s ∧ p.2.1 ≠ r ∧ p.2.1 ≠ b) := by
  have nd := M.nd
  simp only [List.nodup_cons, List.mem_cons, List.mem_map, not_or, not_exists, not_and] at nd
  obtain ⟨⟨a1, a2, a3⟩, ⟨b1, b2⟩, c1, _⟩ := nd
  exact ⟨a1, a2, b1, fun p hp => ⟨a3 p hp, b2 p hp, c1 p hp⟩⟩
theorem keep_ok (M : MemW C h s r b R L) (hL : L < 1000000) (n : Int) : ∃ h', mKeep C [.ref s, .int n] h = .ok .non h' ∧ MemW C h' s r b R (L + 1) ∧ Kp [b] h h' := by
  obtain ⟨n1, n2, n3, n4⟩ := M.ne
  have v0 : ∀ h, gVar 0 [some (.ref s), some (.int n)] h = .ok (.ref s) h := fun h => rfl
  have v1 : ∀ h, gVar 1 [some (.ref s), some (.int n)] h = .ok (.int n) h := fun h => rfl
  have fb := fldB (m := [some (.ref s), some (.int n)]) M rfl
  obtain ⟨B, hB, hb⟩ := M.db
  have hb' : h.get b = some (.dic (iKv B)) := hb
  have db : isD h (.ref b) = true := by simp [isD, hb]
  have gb : dGet h (.ref b) (.int n) = some (kfind B n) := by simp [dGet, hb', mkey, dval_iKv]
  -- the second if does nothing
  have two : ∀ {h2 : MH}, MemW C h2 s r b R (L + 1) → gIfS (gAnd (gB (gNotN (gFld [C] fK (gVar 0)))) (gB (gBin (mIn fun b => !b) (gVar 1) (gFld [C] fK (gVar 0))))) (gAsg (gMeth C nPage (mPage C) [] 2 (gVar 0) (gCons (gVar 1) (gNil))) (tgSub (gFld [C] fK (gVar 0)) (gVar 1))) (gNext) [some (.ref s), some (.int n)] h2 = .nx [some (.ref s), some (.int n)] h2 := fun {h2} M2 => by
    have fk := fldK (m := [some (.ref s), some (.int n)]) M2 rfl
    refine (ifS_f (h1 := h2) ?_).trans rfl
    simp [gAnd, gB, gNotN, gUn, fk, Out.bind, mIsN]
  cases k : kfind B n with
  | some x =>
    rw [k] at gb
    refine ⟨h, body_nx (m := [some (.ref s), some (.int n)]) ?_, M.le (Nat.le_succ _), .refl⟩
    refine (seq_nx (m' := [some (.ref s), some (.int n)]) (h' := h) ?_).trans (two (M.le (Nat.le_succ _)))
    refine (ifS_f (h1 := h) ?_).trans rfl
    show gB (gBin (mIn fun b => !b) (gVar 1) (gFld [C] fB (gVar 0))) [some (.ref s), some (.int n)] h = _
    simp [gB, gBin, v1, fb, Out.bind, mIn, db, mInD, gb]
  | none =>
    rw [k] at gb
    obtain ⟨h1, e1, u1⟩ := page_ok M n
    have M1 := M.up u1
    have fb1 := fldB (m := [some (.ref s), some (.int n)]) M1 rfl
    have hb1 : h1.get b = some (.dic (iKv B)) := u1.at hb'
    have db1 : isD h1 (.ref b) = true := by simp [isD, hb1]
    obtain ⟨p, hp⟩ := M.ins
    have lp : (flds r b p).lookup nPage = none := rfl
    have pg := meth1 (c := C) (f := nPage) (g := mPage C) (n := 2) (v0 h) hp lp (v1 h) rfl
    have nw : dval keq (iKv B) (.inl n) = none := by rw [dval_iKv, k]
    have ln : (iKv B).length < 1000000 := by unfold iKv; rw [List.length_map]; omega
    have M2 : MemW C (h1.set b (.dic (iKv B ++ [(.inl n, .tup (pageOf R n))]))) s r b R (L + 1) := by
      refine ⟨?_, ?_, ⟨B ++ [(n, .tup (pageOf R n))], by simp; omega, ?_⟩, fun p hp => ⟨?_, (M1.row p hp).2⟩, M1.nd, M1.keys, Nat.le_trans M1.len (Nat.le_succ _)⟩
      · obtain ⟨p, hp⟩ := M1.ins
        exact ⟨p, by rw [set_ne hb1 n2]; exact hp⟩
      · rw [set_ne hb1 n3]; exact M1.dr
      · rw [set_get hb1]
        simp [iKv]
      · rw [set_ne hb1 (n4 p hp).2.2]; exact (M1.row p hp).1
    refine ⟨_, body_nx (m := [some (.ref s), some (.int n)]) ?_, M2, u1.kp.trans (Kp.set (MH.get_lt hb1) (by simp))⟩
    refine (seq_nx (m' := [some (.ref s), some (.int n)]) ?_).trans (two M2)
    refine (ifS_t (h1 := h) ?_).trans ?_
    · show gB (gBin (mIn fun b => !b) (gVar 1) (gFld [C] fB (gVar 0))) [some (.ref s), some (.int n)] h = _
      simp [gB, gBin, v1, fb, Out.bind, mIn, db, mInD, gb]
    · show gAsg (gMeth C nPage (mPage C) [] 2 (gVar 0) (gCons (gVar 1) (gNil))) (tgSub (gFld [C] fB (gVar 0)) (gVar 1)) [some (.ref s), some (.int n)] h = _
      unfold gAsg
      rw [pg, e1]
      simp [Out.bindS, tgSub, fb1, v1, putM, db1, dPutM, hb1, mkey, ln, dput_new nw, SO.only]
end
end XM
set_option Elab.async false
set_option linter.all false
set_option maxRecDepth 100000
set_option maxHeartbeats 4000000
namespace XM
open MI XG
open L2 (atI ixN)
theorem inj_map {α β : Type} {f : α → β} : ∀ {l : List α}, (l.map f).Nodup → ∀ {x y : α}, x ∈ l → y ∈ l → f x = f y → x = y
  | a :: l, nd, x, y, hx, hy, e => by
    rw [List.map_cons, List.nodup_cons] at nd
    rcases List.mem_cons.mp hx with k1 | k1
    · rcases List.mem_cons.mp hy with k2 | k2
      · rw [k1, k2]
      · exact (nd.1 (List.mem_map.mpr ⟨y, k2, by rw [← e, k1]⟩)).elim
    · rcases List.mem_cons.mp hy with k2 | k2
      · exact (nd.1 (List.mem_map.mpr ⟨x, k1, by rw [e, k2]⟩)).elim
      · exact inj_map nd.2 k1 k2 e
theorem look_none {n : Int} : ∀ {R : Rows}, look R n = none → n ∉ R.map fun p => p.1
  | [], _ => by simp
  | p :: r, h => by
    unfold look at h
    by_cases c : p.1 = n
    · rw [if_pos c] at h; cases h
    · rw [if_neg c] at h
      have := look_none h
      simp only [List.map_cons, List.mem_cons, not_or]
      exact ⟨Ne.symm c, this⟩
theorem look_of_mem {R : Rows} {p : Int × Nat × List MV} (nd : (R.map fun p => p.1).Nodup) (hp : p ∈ R) : look R p.1 = some p.2 := by
  cases k : look R p.1 with
  | none => exact absurd (List.mem_map.mpr ⟨p, hp, rfl⟩) (look_none k)
  | some q => rw [inj_map nd hp (look_mem k) rfl]
def setc (n : Int) (xs : List MV) (R : Rows) : Rows := R.map fun p => if p.1 = n then (p.1, p.2.1, xs) else p
theorem setc_refs {n : Int} {xs : List MV} {R : Rows} : (setc n xs R).map (fun p => p.2.1) = R.map fun p => p.2.1 := by
  unfold setc
  rw [List.map_map]
  refine List.map_congr_left fun p _ => ?_
  simp only [Function.comp]
  split <;> rfl
theorem setc_keys {n : Int} {xs : List MV} {R : Rows} : (setc n xs R).map (fun p => p.1) = R.map fun p => p.1 := by
  unfold setc
  rw [List.map_map]
  refine List.map_congr_left fun p _ => ?_
  simp only [Function.comp]
  split <;> rfl
theorem setc_kv {n : Int} {xs : List MV} {R : Rows} : rKv (setc n xs R) = rKv R := by
  unfold rKv setc
  rw [List.map_map]
  refine List.map_congr_left fun p _ => ?_
  simp only [Function.comp]
  split <;> rfl
theorem look_setc {n : Int} {xs : List MV} (m : Int) : ∀ R : Rows, look (setc n xs R) m = if m = n then (look R n).map (fun q => (q.1, xs)) else look R m
  | [] => by simp [setc, look]
  | p :: r => by
    have ih := look_setc (n := n) (xs := xs) m r
    show look ((if p.1 = n then (p.1, p.2.1, xs) else p) :: setc n xs r) m = _
    unfold look
    by_cases c : p.1 = n
    · rw [if_pos c, if_pos c]
      dsimp only
      by_cases d : m = n
      · subst d
        rw [if_pos c, if_pos rfl]; rfl
      · rw [if_neg d, if_neg (fun z => d (by rw [← z, c])), if_neg (fun z => d (by rw [← z, c])), ih, if_neg d]
    · rw [if_neg c, if_neg c]
      by_cases d : m = n
      · subst d
        rw [if_neg c, if_pos rfl, ih, if_pos rfl]
      · rw [if_neg d]
        by_cases e : p.1 = m
        · rw [if_pos e, if_pos e]
        · rw [if_neg e, if_neg e, ih, if_neg d]
theorem look_snoc {n : Int} {z : Nat × List MV} (m : Int) : ∀ R : Rows, look (R ++ [(n, z)]) m = match look R m with
    | some y => some y
    | none => if n = m then some z else none
  | [] => rfl
  | p :: r => by
    have ih := look_snoc (n := n) (z := z) m r
    show look (p :: (r ++ [(n, z)])) m = _
    unfold look
    by_cases c : p.1 = m
    · rw [if_pos c, if_pos c]
    · rw [if_neg c, if_neg c]; exact ih
def drp (n : Int) (R : Rows) : Rows := R.filter fun p => !decide (p.1 = n)
theorem look_drp {n : Int} (m : Int) : ∀ R : Rows, look (drp n R) m = if m = n then none else look R m
  | [] => by simp [drp, look]
  | p :: r => by
    have ih := look_drp (n := n) m r
    unfold drp
    rw [List.filter_cons]
    by_cases c : p.1 = n
    · rw [if_neg (by simpa using c)]
      refine ih.trans ?_
      by_cases d : m = n
      · rw [if_pos d, if_pos d]
      · rw [if_neg d, if_neg d]
        show _ = look (p :: r) m
        unfold look
        rw [if_neg (fun z => d (by rw [← z, c]))]
        cases r <;> rfl
    · rw [if_pos (by simpa using c)]
      show look (p :: drp n r) m = _
      unfold look
      by_cases e : p.1 = m
      · rw [if_pos e, if_pos e, if_neg (fun z => c (by rw [e, z]))]
      · rw [if_neg e, if_neg e]; exact ih
theorem ddrop_rKv {n : Int} : ∀ R : Rows, ddrop keq (.inl n) (rKv R) = rKv (drp n R)
  | [] => rfl
  | p :: r => by
    have ih := ddrop_rKv (n := n) r
    show (if keq (.inl p.1) (.inl n) = true then ddrop keq (.inl n) (rKv r) else (.inl p.1, .ref p.2.1) :: ddrop keq (.inl n) (rKv r)) = _
    unfold drp
    rw [List.filter_cons, keq_int]
    by_cases c : p.1 = n
    · rw [if_pos (decide_eq_true c), if_neg (by simpa using c)]; exact ih
    · rw [if_neg (by simpa using c), if_pos (by simpa using c), ih]; rfl
theorem rget_setc {R : Rows} {c : Int} {q : Nat} {xs : List MV} {a : MV} (l : look R (c / 8) = some (q, xs)) (hl : xs.length = 8) (x : Int) : rget (setc (c / 8) (xs.set (c % 8).toNat a) R) x = if x = c then a else rget R x := by
  unfold rget
  rw [look_setc]
  by_cases d : x / 8 = c / 8
  · rw [if_pos d, l, d, l]
    dsimp only [Option.map]
    unfold cellOf
    by_cases e : x = c
    · subst e
      rw [if_pos rfl, List.getElem?_set, if_pos rfl, if_pos (by omega)]; rfl
    · rw [if_neg e, List.getElem?_set, if_neg (by omega)]
  · rw [if_neg d, if_neg (fun e => d (by rw [e]))]
theorem rget_drp {R : Rows} {n : Int} {q : Nat × List MV} (l : look R n = some q) (t : trim q.2 = []) (x : Int) : rget (drp n R) x = rget R x := by
  unfold rget
  rw [look_drp]
  by_cases d : x / 8 = n
  · rw [if_pos d, d, l]
    dsimp only
    unfold cellOf
    cases e : q.2[(x % 8).toNat]? with
    | none => rfl
    | some y => exact (trim_nil.mp t y (List.mem_of_getElem? e)).symm
  · rw [if_neg d]
def nons : List MV := [.non, .non, .non, .non, .non, .non, .non, .non]
theorem nons_all : ∀ x ∈ nons, x = .non := by
  intro x hx
  simpa [nons] using hx
end XM
set_option Elab.async false
set_option linter.all false
set_option maxRecDepth 100000
set_option maxHeartbeats 4000000
namespace XM
open MI XG
open L2 (atI ixN)
def Ne (R : Rows) : Prop := ∀ p ∈ R, trim p.2.2 ≠ []
section
variable {C : Nat} {h : MH} {s r b L : Nat} {R : Rows}
theorem setd_ok (M : MemW C h s r b R L) (hL : L + 1 < 1000000) {n : Int} {m : ML} (e0 : m[0]? = some (some (.ref s))) (e3 : m[3]? = some (some (.int n))) :
    ∃ h' R1 q xs, gSetd (gFld [C] fR (gVar 0)) (gVar 3) (gBin mMulA (gLst (gCons (gC .non) (gNil))) (gC (.int 8))) m h = .ok (.ref q) h' ∧ MemW C h' s r b R1 (L + 1) ∧ look R1 n = some (q, xs) ∧ xs.length = 8 ∧ Kp (fp s r b R) h h' ∧
      (∀ c, rget R1 c = rget R c) ∧ (∀ j ∈ fp s r b R1, j ∈ fp s r b R ∨ h.n ≤ j) ∧ ∀ p ∈ R1, p.1 ≠ n → p ∈ R := by
  obtain ⟨n1, n2, n3, n4⟩ := M.ne
  have f := fldR M e0
  have v3 : gVar 3 m h = .ok (.int n) h := var_at e3
  have d := isD_r M
  have u2 : Up h ((h.push (.lst [.non])).push (.lst nons)) := Up.push.trans Up.push
  have M2 := M.up u2
  have mk : gBin mMulA (gLst (gCons (gC .non) (gNil))) (gC (.int 8)) m h = .ok (.ref (h.n + 1)) ((h.push (.lst [.non])).push (.lst nons)) := by
    have g1 : (h.push (.lst [.non])).get h.n = some (.lst [.non]) := get_top
    simp [gBin, gLst, gCons, gC, gNil, Out.bind, mMulA, isTup, isStr, mMulV, isRep, mRepL, g1]
    exact ⟨rfl, rfl⟩
  cases k : look R n with
  | some q =>
    have mr := M.row _ (look_mem k)
    have g : dval keq (rKv R) (.inl n) = some (.ref q.1) := by rw [dval_rKv, k]; rfl
    refine ⟨_, R, q.1, q.2, ?_, M2.le (Nat.le_succ _), k, mr.2.1, u2.kp, fun _ => rfl, fun j hj => .inl hj, fun p hp _ => hp⟩
    have ln : (rKv R).length < 1000000 := by unfold rKv; rw [List.length_map]; have := M.len; omega
    simp only [gSetd, f, Out.bind, d, if_pos, v3, mk, mkey, M2.dr, ln, g]
  | none =>
    have g : dval keq (rKv R) (.inl n) = none := by rw [dval_rKv, k]; rfl
    have ln : (rKv R).length < 1000000 := by unfold rKv; rw [List.length_map]; have := M.len; omega
    have gq : ((h.push (.lst [.non])).push (.lst nons)).get (h.n + 1) = some (.lst nons) := get_top
    have lt := M.lt
    have ltr : r < h.n := lt r (by simp)
    have old : ∀ j ∈ fp s r b R, j ≠ h.n + 1 := fun j hj => by have := lt j hj; omega
    have kv : rKv R ++ [(.inl n, .ref (h.n + 1))] = rKv (R ++ [(n, h.n + 1, nons)]) := by simp [rKv]
    refine ⟨((h.push (.lst [.non])).push (.lst nons)).set r (.dic (rKv (R ++ [(n, h.n + 1, nons)]))), R ++ [(n, h.n + 1, nons)], h.n + 1, nons, ?_, ⟨?_, ?_, ?_, fun p hp => ?_, ?_, ?_, ?_⟩, ?_, rfl, ?_, fun c => ?_, fun j hj => ?_, fun p hp hn => ?_⟩
    · simp only [gSetd, f, Out.bind, d, if_pos, v3, mk, mkey, M2.dr, ln, g, dput_new g, kv]
    · obtain ⟨p, hp⟩ := M2.ins
      exact ⟨p, by rw [set_ne M2.dr n1]; exact hp⟩
    · exact set_get M2.dr
    · obtain ⟨B, hB, hb⟩ := M2.db
      exact ⟨B, by omega, by rw [set_ne M2.dr (Ne.symm n3)]; exact hb⟩
    · rcases List.mem_append.mp hp with hp | hp
      · have := M2.row p hp
        exact ⟨by rw [set_ne M2.dr (n4 p hp).2.1]; exact this.1, this.2⟩
      · cases List.mem_singleton.mp hp
        exact ⟨by rw [set_ne M2.dr (by dsimp only; omega)]; exact gq, rfl, fun x hx => by rw [nons_all x hx]; rfl⟩
    · have e : (R ++ [(n, h.n + 1, nons)]).map (fun p => p.2.1) = (R.map fun p => p.2.1) ++ [h.n + 1] := by simp
      rw [e]
      show ((fp s r b R) ++ [h.n + 1]).Nodup
      exact List.nodup_append.mpr ⟨M.nd, by simp, fun a ha c hc => by rw [List.mem_singleton.mp hc]; exact old a ha⟩
    · have e : (R ++ [(n, h.n + 1, nons)]).map (fun p => p.1) = (R.map fun p => p.1) ++ [n] := by simp
      rw [e]
      exact List.nodup_append.mpr ⟨M.keys, by simp, fun a ha c hc => by rw [List.mem_singleton.mp hc]; exact fun z => look_none k (by rw [← z]; exact ha)⟩
    · rw [List.length_append]; have := M.len; simp; omega
    · rw [look_snoc, k]; simp
    · exact u2.kp.trans (Kp.set (by show r < h.n + 1 + 1; omega) (by simp))
    · unfold rget
      rw [look_snoc]
      cases k2 : look R (c / 8) with
      | some y => rfl
      | none =>
        dsimp only
        by_cases z : n = c / 8
        · rw [if_pos z]
          dsimp only
          unfold cellOf
          cases e : nons[(c % 8).toNat]? with
          | none => rfl
          | some y => exact nons_all y (List.mem_of_getElem? e)
        · rw [if_neg z]
    · simp only [fp, List.map_append, List.map_cons, List.map_nil, List.mem_cons, List.mem_append, List.not_mem_nil, or_false] at hj ⊢
      rcases hj with z | z | z | z | z
      · exact .inl (.inl z)
      · exact .inl (.inr (.inl z))
      · exact .inl (.inr (.inr (.inl z)))
      · exact .inl (.inr (.inr (.inr z)))
      · exact .inr (by omega)
    · rcases List.mem_append.mp hp with hp | hp
      · exact hp
      · cases List.mem_singleton.mp hp
        exact absurd rfl hn
/-- a cell is written -/
theorem cell_ok (M : MemW C h s r b R L) {n : Int} {q : Nat} {xs : List MV} (l : look R n = some (q, xs)) {k : Nat} {a : MV} (ha : atB a = true) : MemW C (h.set q (.lst (xs.set k a))) s r b (setc n (xs.set k a) R) L := by
  obtain ⟨n1, n2, n3, n4⟩ := M.ne
  have hm := look_mem l
  have hq := M.row _ hm
  dsimp only at hq
  have nq := n4 _ hm
  dsimp only at nq
  have nr : (R.map fun p => p.2.1).Nodup := by
    have := M.nd
    simp only [List.nodup_cons] at this
    exact this.2.2.2
  refine ⟨?_, ?_, ?_, fun p hp => ?_, ?_, ?_, ?_⟩
  · obtain ⟨p, hp⟩ := M.ins
    exact ⟨p, by rw [set_ne hq.1 (Ne.symm nq.1)]; exact hp⟩
  · rw [setc_kv, set_ne hq.1 (Ne.symm nq.2.1)]; exact M.dr
  · obtain ⟨B, hB, hb⟩ := M.db
    exact ⟨B, hB, by rw [set_ne hq.1 (Ne.symm nq.2.2)]; exact hb⟩
  · unfold setc at hp
    obtain ⟨p0, hp0, rfl⟩ := List.mem_map.mp hp
    by_cases c : p0.1 = n
    · rw [if_pos c]
      have e := look_of_mem M.keys hp0
      rw [c, l] at e
      have e2 : p0.2.1 = q := by rw [← Option.some.inj e]
      refine ⟨by dsimp only; rw [e2]; exact set_get hq.1, by dsimp only; rw [List.length_set]; exact hq.2.1, fun x hx => ?_⟩
      rcases List.mem_or_eq_of_mem_set hx with z | z
      · exact hq.2.2 x z
      · rw [z]; exact ha
    · rw [if_neg c]
      have := M.row p0 hp0
      refine ⟨?_, this.2⟩
      rw [set_ne hq.1]
      · exact this.1
      · intro z
        have := inj_map nr hp0 hm z
        rw [this] at c
        exact c rfl
  · rw [setc_refs]; exact M.nd
  · rw [setc_keys]; exact M.keys
  · unfold setc; rw [List.length_map]; exact M.len
/-- a row is dropped -/
theorem drop_ok (M : MemW C h s r b R L) (n : Int) : MemW C (h.set r (.dic (rKv (drp n R)))) s r b (drp n R) L := by
  obtain ⟨n1, n2, n3, n4⟩ := M.ne
  have sub : (drp n R).Sublist R := List.filter_sublist
  refine ⟨?_, set_get M.dr, ?_, fun p hp => ?_, ?_, ?_, ?_⟩
  · obtain ⟨p, hp⟩ := M.ins
    exact ⟨p, by rw [set_ne M.dr n1]; exact hp⟩
  · obtain ⟨B, hB, hb⟩ := M.db
    exact ⟨B, hB, by rw [set_ne M.dr (Ne.symm n3)]; exact hb⟩
  · have hp' := sub.subset hp
    have := M.row p hp'
    exact ⟨by rw [set_ne M.dr (n4 p hp').2.1]; exact this.1, this.2⟩
  · have := M.nd
    exact this.sublist (((((sub.map fun p => p.2.1).cons₂ b).cons₂ r).cons₂ s))
  · exact M.keys.sublist (sub.map _)
  · exact Nat.le_trans sub.length_le M.len
theorem puts_ok (M : MemW C h s r b R L) {p : Int} : MemW C (h.set s (.ins C (flds r b p))) s r b R L := by
  obtain ⟨n1, n2, n3, n4⟩ := M.ne
  obtain ⟨p0, hp0⟩ := M.ins
  refine ⟨⟨p, set_get hp0⟩, ?_, ?_, fun p hp => ?_, M.nd, M.keys, M.len⟩
  · rw [set_ne hp0 (Ne.symm n1)]; exact M.dr
  · obtain ⟨B, hB, hb⟩ := M.db
    exact ⟨B, hB, by rw [set_ne hp0 (Ne.symm n2)]; exact hb⟩
  · have := M.row p hp
    exact ⟨by rw [set_ne hp0 (n4 p hp).1]; exact this.1, this.2⟩
end
end XM
set_option Elab.async false
set_option linter.all false
set_option maxRecDepth 100000
set_option maxHeartbeats 4000000
namespace XM
open MI XG
open L2 (atI ixN)
section
variable {C : Nat} {h : MH} {s r b L : Nat} {R : Rows}
theorem gDel_ok (M : MemW C h s r b R L) {n : Int} {m : ML} (e0 : m[0]? = some (some (.ref s))) (e3 : m[3]? = some (some (.int n))) {q : Nat × List MV} (l : look R n = some q) :
    gDel (gFld [C] fR (gVar 0)) (gVar 3) m h = .nx m (h.set r (.dic (rKv (drp n R)))) := by
  have f := fldR M e0
  have v3 : gVar 3 m h = .ok (.int n) h := var_at e3
  have g : dval keq (rKv R) (.inl n) = some (.ref q.1) := by rw [dval_rKv, l]; rfl
  simp [gDel, f, Out.bindS, v3, mkey, M.dr, g, ddrop_rKv]
theorem gPuts_ok (M : MemW C h s r b R L) {m : ML} (e0 : m[0]? = some (some (.ref s))) : ∃ p, gFldAug [C] fP (fun i j => i + j) (gVar 0) (gC (.int 1)) m h = .nx m (h.set s (.ins C (flds r b p))) := by
  obtain ⟨p, hp⟩ := M.ins
  have v0 : gVar 0 m h = .ok (.ref s) h := var_at e0
  have l : (flds r b p).lookup fP = some (.int p) := rfl
  have l2 : (flds r b p).length < 900 := by simp [flds]
  have l3 : mput fP (.int (p + 1)) (flds r b p) = flds r b (p + 1) := rfl
  exact ⟨p + 1, by simp [gFldAug, v0, Out.bindS, mFld, hp, l, gC, l2, l3]⟩
theorem put_ok (M : MemW C h s r b R L) (N : Ne R) (hL : L + 2 < 1000000) (c : Int) {a : MV} (ha : atB a = true) :
    ∃ h' R', mPut C [.ref s, .int c, a] h = .ok .non h' ∧ MemW C h' s r b R' (L + 2) ∧ Ne R' ∧ (∀ x, rget R' x = if x = c then a else rget R x) ∧ Kp (fp s r b R) h h' ∧ (∀ j ∈ fp s r b R', j ∈ fp s r b R ∨ h.n ≤ j) := by
  obtain ⟨d, e1, e2⟩ := at_eq (M.at c) ha
  obtain ⟨p, hp⟩ := M.ins
  have lg : (flds r b p).lookup nGet = none := rfl
  have lk : (flds r b p).lookup nKeep = none := rfl
  have hc : gB (gBin mEqA (gMeth C nGet (mGet C) [] 2 (gVar 0) (gCons (gVar 1) (gNil))) (gVar 2)) [some (.ref s), some (.int c), some a, none, none] h = .ok d h := by
    have g : gMeth C nGet (mGet C) [] 2 (gVar 0) (gCons (gVar 1) (gNil)) [some (.ref s), some (.int c), some a, none, none] h = .ok (rget R c) h := (meth1 (h1 := h) (h2 := h) (x := .int c) rfl hp lg rfl rfl).trans (get_ok M c)
    have v2 : gVar 2 [some (.ref s), some (.int c), some a, none, none] h = .ok a h := rfl
    simp [gB, gBin, Out.bind, g, v2, mEqA, at_row (M.at c), mEqV, e1, oB]
  cases d with
  | true =>
    have eq := e2.mp rfl
    refine ⟨h, R, body_rt (seq_rt ((ifS_t hc).trans rfl)), M.le (by omega), N, fun x => ?_, .refl, fun j hj => .inl hj⟩
    by_cases z : x = c
    · rw [if_pos z, z, eq]
    · rw [if_neg z]
  | false =>
    obtain ⟨h1, k1, M1, K1⟩ := keep_ok M (by omega) (c / 8)
    obtain ⟨h2, R1, q, xs, d1, M2, l2, x8, K2, g2, f2, o2⟩ := setd_ok (n := c / 8) (m := [some (.ref s), some (.int c), some a, some (.int (c / 8)), none]) M1 (by omega) rfl rfl
    have M3 := cell_ok M2 l2 (k := (c % 8).toNat) ha
    have hq := (M2.row _ (look_mem l2)).1
    dsimp only at hq
    have hq3 : (h2.set q (.lst (xs.set (c % 8).toNat a))).get q = some (.lst (xs.set (c % 8).toNat a)) := set_get hq
    obtain ⟨h4, e4, u4⟩ := we_ok (.ref hq3) (by rw [List.length_set, x8]; decide)
    have M4 := M3.up u4
    have l4 : look (setc (c / 8) (xs.set (c % 8).toNat a) R1) (c / 8) = some (q, xs.set (c % 8).toNat a) := by rw [look_setc, if_pos rfl, l2]; rfl
    have rg3 := rget_setc l2 x8 (a := a)
    -- what is left of the rows
    have six : ∃ h5 R5, gIfS (gNot (gTru (gCall mWE [] 1 (gCons (gVar 4) (gNil))))) (gDel (gFld [C] fR (gVar 0)) (gVar 3)) (gNext) [some (.ref s), some (.int c), some a, some (.int (c / 8)), some (.ref q)] (h2.set q (.lst (xs.set (c % 8).toNat a))) = .nx [some (.ref s), some (.int c), some a, some (.int (c / 8)), some (.ref q)] h5 ∧
        MemW C h5 s r b R5 (L + 1 + 1) ∧ Ne R5 ∧ (∀ x, rget R5 x = rget (setc (c / 8) (xs.set (c % 8).toNat a) R1) x) ∧ h4.n ≤ h5.n ∧ (∀ j, j ≠ r → h5.get j = h4.get j) ∧ (∀ j ∈ fp s r b R5, j ∈ fp s r b R1) := by
      have v4 : ∀ h, gVar 4 [some (.ref s), some (.int c), some a, some (.int (c / 8)), some (.ref q)] h = .ok (.ref q) h := fun h => rfl
      have cd : gNot (gTru (gCall mWE [] 1 (gCons (gVar 4) (gNil)))) [some (.ref s), some (.int c), some a, some (.int (c / 8)), some (.ref q)] (h2.set q (.lst (xs.set (c % 8).toNat a))) = .ok ((trim (xs.set (c % 8).toNat a)).isEmpty) h4 := by
        have := (call1 (n := 1) (v4 _) rfl).trans e4
        simp [gNot, gTru, this, Out.bind, mTru, seqOf]
      have oldm : ∀ p ∈ setc (c / 8) (xs.set (c % 8).toNat a) R1, p.1 ≠ c / 8 → p ∈ R := fun p hp hn => by
        unfold setc at hp
        obtain ⟨p0, hp0, rfl⟩ := List.mem_map.mp hp
        by_cases z : p0.1 = c / 8
        · rw [if_pos z] at hn; exact absurd z hn
        · rw [if_neg z]; exact o2 p0 hp0 z
      have refs : ∀ j ∈ fp s r b (setc (c / 8) (xs.set (c % 8).toNat a) R1), j ∈ fp s r b R1 := fun j hj => by
        unfold fp at hj ⊢
        rw [setc_refs] at hj; exact hj
      cases t : (trim (xs.set (c % 8).toNat a)).isEmpty with
      | true =>
        rw [t] at cd
        have t' : trim (xs.set (c % 8).toNat a) = [] := by simpa using t
        refine ⟨_, _, (ifS_t cd).trans (gDel_ok M4 rfl rfl l4), drop_ok M4 (c / 8), fun p hp => ?_, rget_drp l4 t', Nat.le_refl _, fun j hj => set_ne M4.dr hj, fun j hj => ?_⟩
        · unfold drp at hp
          obtain ⟨hp1, hp2⟩ := List.mem_filter.mp hp
          exact N p (oldm p hp1 (by simpa using hp2))
        · refine refs j ?_
          simp only [fp, List.mem_cons] at hj ⊢
          rcases hj with z | z | z | z
          · exact .inl z
          · exact .inr (.inl z)
          · exact .inr (.inr (.inl z))
          · refine .inr (.inr (.inr ?_))
            obtain ⟨p, hp, e⟩ := List.mem_map.mp z
            exact List.mem_map.mpr ⟨p, (List.mem_filter.mp hp).1, e⟩
      | false =>
        rw [t] at cd
        refine ⟨h4, _, (ifS_f cd).trans rfl, M4, fun p hp => ?_, fun _ => rfl, Nat.le_refl _, fun _ _ => rfl, refs⟩
        by_cases z : p.1 = c / 8
        · have e := look_of_mem M4.keys hp
          rw [z, l4] at e
          have e2 : p.2.2 = xs.set (c % 8).toNat a := by rw [← Option.some.inj e]
          rw [e2]
          intro y
          rw [y] at t
          cases t
        · exact N p (oldm p hp z)
    obtain ⟨h5, R5, s6, M5, N5, g5, n5, k5, f5⟩ := six
    obtain ⟨p6, s7⟩ := gPuts_ok (m := [some (.ref s), some (.int c), some a, some (.int (c / 8)), some (.ref q)]) M5 rfl
    have M6 := puts_ok M5 (p := p6)
    obtain ⟨p5, hp5⟩ := M5.ins
    refine ⟨_, R5, body_nx (m := [some (.ref s), some (.int c), some a, some (.int (c / 8)), some (.ref q)]) ?_, M6, N5, fun x => ?_, ⟨?_, fun j hj hf => ?_⟩, fun j hj => ?_⟩
    · refine (seq_nx ((ifS_f hc).trans rfl)).trans ?_
      refine (seq_nx (asg_nx (v := .int (c / 8)) (h' := h) rfl)).trans ?_
      refine (seq_nx (expr_nx ((meth1 (h1 := h) (h2 := h) (x := .int (c / 8)) rfl hp lk rfl rfl).trans k1))).trans ?_
      refine (seq_nx (asg_nx d1)).trans ?_
      refine (seq_nx (m' := [some (.ref s), some (.int c), some a, some (.int (c / 8)), some (.ref q)]) (h' := h2.set q (.lst (xs.set (c % 8).toNat a))) ?_).trans ?_
      · have v1 : ∀ h, gVar 1 [some (.ref s), some (.int c), some a, some (.int (c / 8)), some (.ref q)] h = .ok (.int c) h := fun h => rfl
        have v2 : ∀ h, gVar 2 [some (.ref s), some (.int c), some a, some (.int (c / 8)), some (.ref q)] h = .ok a h := fun h => rfl
        have v4 : ∀ h, gVar 4 [some (.ref s), some (.int c), some a, some (.int (c / 8)), some (.ref q)] h = .ok (.ref q) h := fun h => rfl
        have e2 : ∀ h, mMod (.int c) (.int 8) h = .ok (.int (c % 8)) h := fun h => rfl
        have dq : isD h2 (.ref q) = false := by simp [isD, hq]
        have ix : ixN 8 (c % 8) = some (c % 8).toNat := by unfold ixN; rw [if_pos (by omega), if_pos (by omega)]
        show gAsg (gVar 2) (tgSub (gVar 4) (gBin mMod (gVar 1) (gC (.int 8)))) [some (.ref s), some (.int c), some a, some (.int (c / 8)), some (.ref q)] h2 = _
        simp [gAsg, v2, Out.bindS, tgSub, v4, gBin, v1, gC, Out.bind, e2, putM, dq, hq, x8, ix, SO.only]
      · exact (seq_nx s6).trans s7
    · rw [g5, rg3]
      by_cases z : x = c
      · rw [if_pos z, if_pos z]
      · rw [if_neg z, if_neg z, g2]
    · show h.n ≤ h5.n
      have a1 := K1.n
      have a2 := K2.n
      have a3 : h2.n ≤ h4.n := u4.n
      omega
    · have js : j ≠ s := fun z => hf (by simp [z])
      have jr : j ≠ r := fun z => hf (by simp [z])
      have jb : j ≠ b := fun z => hf (by simp [z])
      have b1 := K1.n
      have b2 := K2.n
      have jq : j ≠ q := fun z => by
        rcases f2 q (by simp only [fp, List.mem_cons, List.mem_map]; exact .inr (.inr (.inr ⟨_, look_mem l2, rfl⟩))) with y | y
        · exact hf (by rw [z]; exact y)
        · omega
      rw [set_ne hp5 js, k5 j jr, u4.get j (by show j < h2.n; omega), set_ne hq jq, K2.get j (by omega) hf, K1.get j hj (by simpa using jb)]
    · rcases f2 j (f5 j hj) with y | y
      · exact .inl y
      · have := K1.n
        exact .inr (by omega)
end
end XM
set_option Elab.async false
set_option linter.all false
set_option maxRecDepth 100000
set_option maxHeartbeats 4000000
namespace XM
open MI XG
open L2 (atI ixN)
theorem lc_loop {it : It1} {c : CT} {t : MT} {e : ME} {D : Nat} {mw : ML} {N : Nat} (hN : N < 1000000) (P : Nat → List MV → MH → Prop) (hend : ∀ acc h, P N acc h → it.at_ N h = some none)
    (hstep : ∀ i acc h, i < N → P i acc h → h.get D = some (.lst acc) → ∃ x m1 h1 b h2, it.at_ i h = some (some x) ∧ c.set x mw h = .nx m1 h1 ∧ t m1 h1 = .ok b h2 ∧
      (b = false → P (i + 1) acc h2 ∧ h2.get D = some (.lst acc)) ∧ (b = true → ∃ y h3, e m1 h2 = .ok y h3 ∧ h3.get D = some (.lst acc) ∧ P (i + 1) (acc ++ [y]) (h3.set D (.lst (acc ++ [y]))))) :
    ∀ (n i : Nat) (acc : List MV) (h : MH), i + n = N + 1 → i ≤ N → acc.length ≤ i → P i acc h → h.get D = some (.lst acc) → ∃ acc' h', gLcN it c t e D mw n i h = .ok (.ref D) h' ∧ P N acc' h' ∧ h'.get D = some (.lst acc')
  | 0, i, acc, h, e0, hi, _, _, _ => by omega
  | n + 1, i, acc, h, e0, hi, la, p, g => by
    unfold gLcN
    by_cases hiN : i = N
    · subst hiN
      rw [hend acc h p]
      exact ⟨acc, h, rfl, p, g⟩
    · obtain ⟨x, m1, h1, b, h2, a1, a2, a3, a4, a5⟩ := hstep i acc h (by omega) p g
      rw [a1]
      simp only [a2, a3]
      cases b with
      | false =>
        obtain ⟨p2, g2⟩ := a4 rfl
        exact lc_loop hN P hend hstep n (i + 1) acc h2 (by omega) (by omega) (by omega) p2 g2
      | true =>
        obtain ⟨y, h3, b1, b2, b3⟩ := a5 rfl
        simp only [b1, b2]
        rw [if_pos (by omega)]
        exact lc_loop hN P hend hstep n (i + 1) (acc ++ [y]) _ (by omega) (by omega) (by simp; omega) b3 (set_get b2)
theorem for_loop {it : It1} {t : MG} {b : MS} {N : Nat} (Q : Nat → ML → MH → Prop) (hend : ∀ m h, Q N m h → it.at_ N h = some none)
    (hstep : ∀ i m h, i < N → Q i m h → ∃ x m1 h1 m2 h2, it.at_ i h = some (some x) ∧ t x m h = .nx m1 h1 ∧ b m1 h1 = .nx m2 h2 ∧ Q (i + 1) m2 h2) :
    ∀ (n i : Nat) (m : ML) (h : MH), i + n = N + 1 → i ≤ N → Q i m h → ∃ m' h', gForN it t b n i m h = .nx m' h' ∧ Q N m' h'
  | 0, i, m, h, e0, hi, _ => by omega
  | n + 1, i, m, h, e0, hi, q => by
    unfold gForN
    by_cases hiN : i = N
    · subst hiN
      rw [hend m h q]
      exact ⟨m, h, rfl, q⟩
    · obtain ⟨x, m1, h1, m2, h2, a1, a2, a3, a4⟩ := hstep i m h (by omega) q
      rw [a1]
      simp only [a2, a3]
      exact for_loop Q hend hstep n (i + 1) m2 h2 (by omega) (by omega) a4
theorem rng_at {lo : Int} {n i : Nat} {h : MH} (hi : i < n) : (it1R lo n).at_ i h = some (some (.int (lo + (i : Nat)))) := by
  show some (if i < n then some (MV.int (lo + (i : Nat))) else none) = _
  rw [if_pos hi]
theorem rng_at0 {n i : Nat} {h : MH} (hi : i < n) : (it1R 0 n).at_ i h = some (some (.int (i : Nat))) := by rw [rng_at hi, Int.zero_add]
theorem rng_end {lo : Int} {n : Nat} {h : MH} : (it1R lo n).at_ n h = some none := by
  show some (if n < n then some (MV.int (lo + (n : Nat))) else none) = _
  rw [if_neg (Nat.lt_irrefl _)]
def kget (K : List (Int × MV)) (c : Int) : MV := (kfind K c).getD .non
def kput (c : Int) (v : MV) : List (Int × MV) → List (Int × MV)
  | [] => [(c, v)]
  | p :: r => if p.1 = c then (p.1, v) :: r else p :: kput c v r
theorem kfind_kput {c : Int} {v : MV} (x : Int) : ∀ K, kfind (kput c v K) x = if x = c then some v else kfind K x
  | [] => by
    show kfind [(c, v)] x = _
    unfold kfind
    by_cases e : x = c
    · rw [if_pos e, if_pos e.symm]
    · rw [if_neg e, if_neg (Ne.symm e)]; rfl
  | p :: r => by
    have ih := kfind_kput (c := c) (v := v) x r
    unfold kput
    by_cases d : p.1 = c
    · rw [if_pos d]
      unfold kfind
      by_cases e : x = c
      · rw [if_pos (by dsimp only; rw [d, e]), if_pos e]
      · rw [if_neg (by dsimp only; rw [d]; exact Ne.symm e), if_neg e, if_neg (by rw [d]; exact Ne.symm e)]
    · rw [if_neg d]
      unfold kfind
      by_cases e : p.1 = x
      · rw [if_pos e, if_pos e, if_neg (fun z => d (by rw [e, z]))]
      · rw [if_neg e, if_neg e, ih]
theorem kget_kput {c : Int} {v : MV} {K : List (Int × MV)} (x : Int) : kget (kput c v K) x = if x = c then v else kget K x := by
  unfold kget
  rw [kfind_kput]
  split <;> rfl
theorem kput_len {c : Int} {v : MV} : ∀ K, (kput c v K).length ≤ K.length + 1
  | [] => by simp [kput]
  | p :: r => by
    have := kput_len (c := c) (v := v) r
    unfold kput
    split
    · simp
    · simp; omega
theorem kput_keys {c : Int} {v : MV} : ∀ K, ∀ p ∈ kput c v K, p.1 = c ∨ ∃ p' ∈ K, p'.1 = p.1
  | [], p, hp => by cases List.mem_singleton.mp hp; exact .inl rfl
  | q :: r, p, hp => by
    unfold kput at hp
    by_cases d : q.1 = c
    · rw [if_pos d] at hp
      rcases List.mem_cons.mp hp with k1 | k1
      · rw [k1]; exact .inl d
      · exact .inr ⟨p, List.mem_cons_of_mem _ k1, rfl⟩
    · rw [if_neg d] at hp
      rcases List.mem_cons.mp hp with k1 | k1
      · exact .inr ⟨q, List.mem_cons_self, by rw [k1]⟩
      · rcases kput_keys r p k1 with z | ⟨p', z1, z2⟩
        · exact .inl z
        · exact .inr ⟨p', List.mem_cons_of_mem _ z1, z2⟩
theorem kfind_none_iff {c : Int} : ∀ {K : List (Int × MV)}, kfind K c = none ↔ c ∉ K.map fun p => p.1
  | [] => by simp [kfind]
  | p :: r => by
    unfold kfind
    by_cases d : p.1 = c
    · rw [if_pos d]; simp [d]
    · rw [if_neg d, kfind_none_iff]
      simp [Ne.symm d]
theorem kput_nd {c : Int} {v : MV} : ∀ {K : List (Int × MV)}, (K.map fun p => p.1).Nodup → ((kput c v K).map fun p => p.1).Nodup
  | [], _ => by simp [kput]
  | p :: r, nd => by
    rw [List.map_cons, List.nodup_cons] at nd
    unfold kput
    by_cases d : p.1 = c
    · rw [if_pos d, List.map_cons, List.nodup_cons]; exact nd
    · rw [if_neg d, List.map_cons, List.nodup_cons]
      refine ⟨fun hm => ?_, kput_nd nd.2⟩
      obtain ⟨q, hq, e⟩ := List.mem_map.mp hm
      rcases kput_keys r q hq with z | ⟨q', z1, z2⟩
      · exact d (by rw [← e, z])
      · exact nd.1 (List.mem_map.mpr ⟨q', z1, by rw [z2, e]⟩)
theorem kfind_mem {c : Int} {v : MV} : ∀ {K : List (Int × MV)}, kfind K c = some v → (c, v) ∈ K
  | p :: r, h => by
    unfold kfind at h
    by_cases d : p.1 = c
    · rw [if_pos d] at h; cases h; rw [← d]; exact List.mem_cons_self
    · rw [if_neg d] at h; exact List.mem_cons_of_mem _ (kfind_mem h)
theorem kfind_of_mem {K : List (Int × MV)} {p : Int × MV} (nd : (K.map fun p => p.1).Nodup) (hp : p ∈ K) : kfind K p.1 = some p.2 := by
  cases k : kfind K p.1 with
  | none => exact absurd (List.mem_map.mpr ⟨p, hp, rfl⟩) (kfind_none_iff.mp k)
  | some q => rw [inj_map nd hp (kfind_mem k) rfl]
theorem dput_iKv {c : Int} {v : MV} : ∀ {K : List (Int × MV)}, (K.map fun p => p.1).Nodup → dput keq (iKv K) (.inl c) v = iKv (kput c v K) := by
  have has : ∀ {K : List (Int × MV)}, dhas keq (iKv K) (.inl c) = (kfind K c).isSome := fun {K} => by rw [dhas_dval, dval_iKv]
  have st : ∀ K : List (Int × MV), (K.map fun p => p.1).Nodup → (kfind K c).isSome = true → dset keq (.inl c) v (iKv K) = iKv (kput c v K) := by
    intro K
    induction K with
    | nil => intro _ h; cases h
    | cons p r ih =>
      intro nd h
      rw [List.map_cons, List.nodup_cons] at nd
      show (if keq (.inl p.1) (.inl c) = true then (.inl p.1, v) :: dset keq (.inl c) v (iKv r) else (.inl p.1, p.2) :: dset keq (.inl c) v (iKv r)) = _
      rw [keq_int]
      unfold kput
      by_cases d : p.1 = c
      · rw [if_pos (decide_eq_true d), if_pos d]
        have nf : kfind r c = none := kfind_none_iff.mpr (by rw [← d]; exact nd.1)
        have idd : ∀ r : List (Int × MV), kfind r c = none → dset keq (.inl c) v (iKv r) = iKv r := by
          intro r
          induction r with
          | nil => intro _; rfl
          | cons q r ih =>
            intro h
            unfold kfind at h
            by_cases d : q.1 = c
            · rw [if_pos d] at h; cases h
            · rw [if_neg d] at h
              show (if keq (.inl q.1) (.inl c) = true then (.inl q.1, v) :: dset keq (.inl c) v (iKv r) else (.inl q.1, q.2) :: dset keq (.inl c) v (iKv r)) = _
              rw [keq_int, if_neg (by simpa using d), ih h]; rfl
        rw [idd r nf]; rfl
      · rw [if_neg (by simpa using d), if_neg d]
        unfold kfind at h
        rw [if_neg d] at h
        rw [ih nd.2 h]; rfl
  have ap : ∀ K : List (Int × MV), kfind K c = none → iKv K ++ [(.inl c, v)] = iKv (kput c v K) := by
    intro K
    induction K with
    | nil => intro _; rfl
    | cons p r ih =>
      intro h
      unfold kfind at h
      by_cases d : p.1 = c
      · rw [if_pos d] at h; cases h
      · rw [if_neg d] at h
        unfold kput
        rw [if_neg d]
        show (.inl p.1, p.2) :: (iKv r ++ [(.inl c, v)]) = _
        rw [ih h]; rfl
  intro K nd
  unfold dput
  rw [has]
  cases k : kfind K c with
  | some x => exact st K nd (by rw [k]; rfl)
  | none => exact ap K k
/-- the law's dict of cells -/
structure Kn (h : MH) (k : Nat) (K : List (Int × MV)) (L : Nat) : Prop where
  at_ : h.get k = some (.dic (iKv K))
  nd : (K.map fun p => p.1).Nodup
  len : K.length ≤ L
  pos : ∀ p ∈ K, 0 ≤ p.1
  ok : ∀ p ∈ K, atB p.2 = true
theorem Kn.up {h h' : MH} {k L : Nat} {K : List (Int × MV)} (a : Kn h k K L) (u : Up h h') : Kn h' k K L := ⟨u.at a.at_, a.nd, a.len, a.pos, a.ok⟩
theorem Kn.frame {h h' : MH} {k L : Nat} {K : List (Int × MV)} (a : Kn h k K L) (e : h'.get k = h.get k) : Kn h' k K L := ⟨e.trans a.at_, a.nd, a.len, a.pos, a.ok⟩
theorem Kn.atk {h : MH} {k L : Nat} {K : List (Int × MV)} (a : Kn h k K L) (c : Int) : atB (kget K c) = true := by
  unfold kget
  cases e : kfind K c with
  | none => rfl
  | some v => exact a.ok _ (kfind_mem e)
theorem Kn.isd {h : MH} {k L : Nat} {K : List (Int × MV)} (a : Kn h k K L) : isD h (.ref k) = true := by simp [isD, a.at_]
theorem Kn.dg {h : MH} {k L : Nat} {K : List (Int × MV)} (a : Kn h k K L) (c : Int) : dGet h (.ref k) (.int c) = some (kfind K c) := by simp [dGet, a.at_, mkey, dval_iKv]
/-- known.get(c) -/
theorem dget_ok {h : MH} {k L : Nat} {K : List (Int × MV)} {m : ML} {d e : ME} {c : Int} (a : Kn h k K L) (e0 : d m h = .ok (.ref k) h) (e1 : e m h = .ok (.int c) h) : gDget d e m h = .ok (kget K c) h := by
  unfold kget
  cases z : kfind K c with
  | none => simp [gDget, e0, Out.bind, a.isd, e1, a.dg, z]
  | some v => simp [gDget, e0, Out.bind, a.isd, e1, a.dg, z]
/-- known[c] = v -/
theorem kset_ok {h : MH} {k L : Nat} {K : List (Int × MV)} {m : ML} {d e : ME} {c : Int} {v : MV} (a : Kn h k K L) (hL : L < 1000000) (e0 : d m h = .ok (.ref k) h) (e1 : e m h = .ok (.int c) h) (hc : 0 ≤ c) (hv : atB v = true) :
    tgSub d e v m h = .nx m (h.set k (.dic (iKv (kput c v K)))) ∧ Kn (h.set k (.dic (iKv (kput c v K)))) k (kput c v K) (L + 1) := by
  have ln : (iKv K).length < 1000000 := by unfold iKv; rw [List.length_map]; have := a.len; omega
  refine ⟨by simp [tgSub, e0, Out.bindS, e1, putM, a.isd, dPutM, a.at_, mkey, ln, dput_iKv a.nd], set_get a.at_, kput_nd a.nd, Nat.le_trans (kput_len K) (by have := a.len; omega), fun p hp => ?_, fun p hp => ?_⟩
  · rcases kput_keys K p hp with z | ⟨p', z1, z2⟩
    · rw [z]; exact hc
    · rw [← z2]; exact a.pos p' z1
  · have := kfind_of_mem (kput_nd a.nd) hp
    rw [kfind_kput] at this
    by_cases z : p.1 = c
    · rw [if_pos z] at this; cases this; exact hv
    · rw [if_neg z] at this
      exact a.ok _ (kfind_mem this)
end XM
set_option Elab.async false
set_option linter.all false
set_option maxRecDepth 100000
set_option maxHeartbeats 4000000
namespace XM
open MI XG
open L2 (atI ixN)
theorem Up.set {h h' : MH} (u : Up h h') {D : Nat} {o o' : MO} (hD : h.n ≤ D) (g : h'.get D = some o') : Up h (h'.set D o) :=
  ⟨u.n, fun j hj => by rw [set_ne g (by omega)]; exact u.get j hj⟩
def mLeaf : MF := gBody 3 (gRet (gCall mTrim [] 1 (gCons (gLc (gRng1 (gC (.int 8))) (.one 2) (gYes) (gDget (gVar 0) (gBin mAdd (gBin mMulA (gC (.int 8)) (gVar 1)) (gVar 2))) [2]) (gNil))))
def ks (K : List (Int × MV)) (w : Int) (n : Nat) : List MV := (List.range n).map fun i => kget K (8 * w + (i : Nat))
theorem ks_succ (K : List (Int × MV)) (w : Int) (n : Nat) : ks K w (n + 1) = ks K w n ++ [kget K (8 * w + (n : Nat))] := by
  unfold ks
  rw [List.range_succ, List.map_append]; rfl
theorem leaf_ok {h : MH} {k L : Nat} {K : List (Int × MV)} (a : Kn h k K L) (w : Int) : ∃ h', mLeaf [.ref k, .int w] h = .ok (.tup (trim (ks K w 8))) h' ∧ Up h h' := by
  have hk := MH.get_lt a.at_
  have c8 : cMul 8 w = true := cm_l (by decide)
  obtain ⟨acc, h1, e1, p1, g1⟩ := lc_loop (it := it1R 0 8) (c := .one 2) (t := gYes) (e := gDget (gVar 0) (gBin mAdd (gBin mMulA (gC (.int 8)) (gVar 1)) (gVar 2))) (D := h.n) (mw := [some (.ref k), some (.int w), none]) (N := 8) (by decide)
    (fun i acc h' => Up h h' ∧ acc = ks K w i) (fun _ _ _ => rng_end) (fun i acc h' hi p g => by
      obtain ⟨u, rfl⟩ := p
      have a' := a.up u
      refine ⟨.int (i : Nat), [some (.ref k), some (.int w), some (.int (i : Nat))], h', true, h', rng_at0 hi, rfl, rfl, (fun z => nomatch z), fun _ => ⟨kget K (8 * w + (i : Nat)), h', ?_, g, u.set (Nat.le_refl _) g, (ks_succ K w i).symm⟩⟩
      refine dget_ok a' rfl ?_
      have v1 : ∀ h, gVar 1 [some (.ref k), some (.int w), some (.int (i : Nat))] h = .ok (.int w) h := fun h => rfl
      have v2 : ∀ h, gVar 2 [some (.ref k), some (.int w), some (.int (i : Nat))] h = .ok (.int (i : Nat)) h := fun h => rfl
      simp [gBin, gC, v1, v2, Out.bind, mMulA, isTup, isStr, mMulV, isRep, mMul, mIc, c8, mAdd])
    9 0 [] (h.push (.lst [])) (by decide) (by decide) (by simp) ⟨Up.push, rfl⟩ get_top
  obtain ⟨u1, rfl⟩ := p1
  obtain ⟨h2, e2, u2⟩ := trim_ok (.ref g1) (by simp [ks])
  refine ⟨h2, body_rt ?_, u1.trans u2⟩
  have lc : gLc (gRng1 (gC (.int 8))) (.one 2) (gYes) (gDget (gVar 0) (gBin mAdd (gBin mMulA (gC (.int 8)) (gVar 1)) (gVar 2))) [2] [some (.ref k), some (.int w), none] h = .ok (.ref h.n) h1 := e1
  have := (call1 (n := 1) lc rfl).trans e2
  show gRet _ [some (.ref k), some (.int w), none] h = _
  unfold gRet
  rw [this]; rfl
/-- the memory's pages are the law's -/
theorem page_eq {C : Nat} {h : MH} {s r b L : Nat} {R : Rows} {K : List (Int × MV)} (M : MemW C h s r b R L) (e : ∀ c, rget R c = kget K c) (w : Int) : pageOf R w = trim (ks K w 8) := by
  have cell : ∀ i : Nat, i < 8 → (ks K w 8)[i]? = some (rget R (8 * w + (i : Nat))) := fun i hi => by
    unfold ks
    rw [List.getElem?_map, List.getElem?_range hi, e]; rfl
  have dm : ∀ i : Nat, i < 8 → (8 * w + (i : Nat)) / 8 = w ∧ ((8 * w + (i : Nat)) % 8).toNat = i := fun i hi => by omega
  unfold pageOf
  cases k : look R w with
  | none =>
    dsimp only
    refine (trim_nil.mpr fun x hx => ?_).symm
    obtain ⟨i, hi, rfl⟩ := List.getElem_of_mem hx
    have hi' : i < 8 := by simpa [ks] using hi
    have := cell i hi'
    rw [List.getElem?_eq_getElem hi] at this
    rw [Option.some.inj this]
    unfold rget
    rw [(dm i hi').1, k]
  | some q =>
    dsimp only
    have m := M.row _ (look_mem k)
    dsimp only at m
    have : q.2 = ks K w 8 := by
      apply List.ext_getElem?
      intro i
      by_cases hi : i < 8
      · rw [cell i hi]
        unfold rget
        rw [(dm i hi).1, k]
        dsimp only
        unfold cellOf
        rw [(dm i hi).2, List.getElem?_eq_getElem (by omega)]; rfl
      · rw [List.getElem?_eq_none (by omega), List.getElem?_eq_none (by simp [ks]; omega)]
    rw [this]
theorem keys_rKv : ∀ R : Rows, keysOf (rKv R) = some (R.map fun p => p.1)
  | [] => rfl
  | p :: r => by
    show (keysOf (rKv r)).map (fun l => p.1 :: l) = _
    rw [keys_rKv r]; rfl
def manyOf (R : Rows) : Int := match R.map fun p => p.1 with
  | [] => 0
  | y :: l => lmax y l + 1
theorem many_ok {C : Nat} {h : MH} {s r b L : Nat} {R : Rows} (M : MemW C h s r b R L) : mMany C [.ref s] h = .ok (.int (manyOf R)) h := by
  have f := fldR (m := [some (.ref s)]) M rfl
  have k := keys_rKv R
  unfold manyOf
  cases e : R.map fun p => p.1 with
  | nil =>
    rw [e] at k
    simp [mMany, gBody, gRet, gMaxD, gBin, f, gUn, gC, mNeg, Out.bind, Out.bindS, mMaxD, M.dr, k, mAdd]
  | cons y l =>
    rw [e] at k
    simp [mMany, gBody, gRet, gMaxD, gBin, f, gUn, gC, mNeg, Out.bind, Out.bindS, mMaxD, M.dr, k, mAdd]
def mSize : MF := gBody 2 (gRet (gCB (f1 mMaxL) (gCons (gBin mAdd (gLock (pkV 0) (gLc (gWalk itK (gVar 0)) (.one 1) (gB (gNotN (gBin mIx (gVar 0) (gVar 1)))) (gBin mAdd (gBin mDiv (gVar 1) (gC (.int 8))) (gC (.int 1))) [1])) (gLst (gCons (gC (.int 0)) (gNil)))) (gNil))))
def fl (K : List (Int × MV)) : List Int := (K.filter fun p => !mIsN p.2).map fun p => p.1 / 8 + 1
theorem fl_take {K : List (Int × MV)} {i : Nat} {p : Int × MV} (e : K[i]? = some p) : fl (K.take (i + 1)) = fl (K.take i) ++ if mIsN p.2 = true then [] else [p.1 / 8 + 1] := by
  unfold fl
  rw [List.take_succ, e]
  show ((K.take i ++ [p]).filter _).map _ = _
  rw [List.filter_append, List.map_append]
  congr 1
  by_cases c : mIsN p.2 = true
  · rw [if_pos c]; simp [c]
  · rw [if_neg c]; simp [c]
theorem ints_map : ∀ l : List Int, intsOf (l.map MV.int) = some l
  | [] => rfl
  | x :: l => by
    show (intsOf (l.map MV.int)).map (fun l => x :: l) = _
    rw [ints_map l]; rfl
def sizeOf_ (K : List (Int × MV)) : Int := match fl K ++ [0] with
  | [] => 0
  | y :: l => lmax y l
theorem size_ok {h : MH} {k L : Nat} {K : List (Int × MV)} (a : Kn h k K L) (hL : L < 1000000) : ∃ h', mSize [.ref k] h = .ok (.int (sizeOf_ K)) h' ∧ Up h h' := by
  have hk := MH.get_lt a.at_
  -- the walk
  have f1' : (h.set k (.fdi (iKv K))).get k = some (.fdi (iKv K)) := set_get a.at_
  have ln : (iKv K).length = K.length := by unfold iKv; rw [List.length_map]
  have at_ : ∀ i h', (itK (iKv K)).at_ i h' = some (K[i]?.map fun p => .int p.1) := fun i h' => by
    show some ((iKv K)[i]?.map fun p => mOfK p.1) = _
    unfold iKv
    rw [List.getElem?_map]
    cases K[i]? <;> rfl
  obtain ⟨acc, h1, e1, p1, g1⟩ := lc_loop (it := itK (iKv K)) (c := .one 1) (t := gB (gNotN (gBin mIx (gVar 0) (gVar 1)))) (e := gBin mAdd (gBin mDiv (gVar 1) (gC (.int 8))) (gC (.int 1))) (D := h.n) (mw := [some (.ref k), none]) (N := K.length) (by have := a.len; omega)
    (fun i acc h' => Up (h.set k (.fdi (iKv K))) h' ∧ acc = (fl (K.take i)).map MV.int) (fun _ _ _ => by rw [at_, List.getElem?_eq_none (Nat.le_refl _)]; rfl) (fun i acc h' hi p g => by
      obtain ⟨u, rfl⟩ := p
      have fk := u.at f1'
      obtain ⟨p, hp⟩ : ∃ p, K[i]? = some p := ⟨K[i], List.getElem?_eq_getElem hi⟩
      have hv := kfind_of_mem a.nd (List.mem_of_getElem? hp)
      have v0 : ∀ h, gVar 0 [some (.ref k), some (.int p.1)] h = .ok (.ref k) h := fun h => rfl
      have v1 : ∀ h, gVar 1 [some (.ref k), some (.int p.1)] h = .ok (.int p.1) h := fun h => rfl
      have ix : mIx (.ref k) (.int p.1) h' = .ok p.2 h' := by simp [mIx, isD, fk, mIxD, dGet, mkey, dval_iKv, hv, oV]
      refine ⟨.int p.1, [some (.ref k), some (.int p.1)], h', !mIsN p.2, h', by rw [at_, hp]; rfl, rfl, by simp [gB, gNotN, gUn, gBin, v0, v1, Out.bind, ix], fun z => ?_, fun z => ?_⟩
      · have z' : mIsN p.2 = true := by simpa using z
        refine ⟨⟨u, ?_⟩, g⟩
        rw [fl_take hp, if_pos z', List.append_nil]
      · have z' : ¬ mIsN p.2 = true := by simpa using z
        refine ⟨.int (p.1 / 8 + 1), h', ?_, g, u.set (Nat.le_refl _) g, ?_⟩
        · have e2 : ∀ h, mDiv (.int p.1) (.int 8) h = .ok (.int (p.1 / 8)) h := fun h => rfl
          simp [gBin, v1, gC, Out.bind, e2, mAdd]
        · rw [fl_take hp, if_neg z', List.map_append]; rfl)
    (K.length + 1) 0 [] ((h.set k (.fdi (iKv K))).push (.lst [])) (by omega) (Nat.zero_le _) (by simp) ⟨Up.push, rfl⟩ get_top
  obtain ⟨u1, rfl⟩ := p1
  rw [List.take_of_length_le (Nat.le_refl _)] at g1
  have gk1 := u1.at f1'
  have lc : gLc (gWalk itK (gVar 0)) (.one 1) (gB (gNotN (gBin mIx (gVar 0) (gVar 1)))) (gBin mAdd (gBin mDiv (gVar 1) (gC (.int 8))) (gC (.int 1))) [1] [some (.ref k), none] (h.set k (.fdi (iKv K))) = .ok (.ref h.n) h1 := by
    have w : gWalk itK (gVar 0) [some (.ref k), none] (h.set k (.fdi (iKv K))) = .ok (itK (iKv K)) (h.set k (.fdi (iKv K))) := by
      simp [gWalk, gVar, Out.bind, f1']
    unfold gLc
    rw [w]
    simp only [Out.bind]
    have sz : (itK (iKv K)).size (h.set k (.fdi (iKv K))) = K.length := ln
    rw [sz]
    exact e1
  have lk : gLock (pkV 0) (gLc (gWalk itK (gVar 0)) (.one 1) (gB (gNotN (gBin mIx (gVar 0) (gVar 1)))) (gBin mAdd (gBin mDiv (gVar 1) (gC (.int 8))) (gC (.int 1))) [1]) [some (.ref k), none] h = .ok (.ref h.n) (h1.set k (.dic (iKv K))) := by
    have pk : pkV 0 [some (.ref k), none] h = some k := rfl
    unfold gLock
    rw [pk]
    simp only [a.at_, lc]
  have u2 : Up h (h1.set k (.dic (iKv K))) := ⟨u1.n, fun j hj => by
    by_cases z : j = k
    · rw [z, set_get gk1, a.at_]
    · rw [set_ne gk1 z, u1.get j hj, set_ne a.at_ z]⟩
  have gD : (h1.set k (.dic (iKv K))).get h.n = some (.lst ((fl K).map MV.int)) := by rw [set_ne gk1 (by omega)]; exact g1
  have flen : (fl K).length ≤ L := by
    unfold fl
    rw [List.length_map]
    exact Nat.le_trans (List.length_filter_le _ _) a.len
  refine ⟨((h1.set k (.dic (iKv K))).push (.lst [.int 0])).push (.lst ((fl K ++ [0]).map MV.int)), body_rt ?_, u2.trans (Up.push.trans Up.push)⟩
  have gD2 := (Up.push (h := h1.set k (.dic (iKv K))) (o := .lst [.int 0])).at gD
  have gT : ((h1.set k (.dic (iKv K))).push (.lst [.int 0])).get (h1.set k (.dic (iKv K))).n = some (.lst [.int 0]) := get_top
  have ad : mAdd (.ref h.n) (.ref (h1.set k (.dic (iKv K))).n) ((h1.set k (.dic (iKv K))).push (.lst [.int 0])) = .ok (.ref ((h1.set k (.dic (iKv K))).push (.lst [.int 0])).n) (((h1.set k (.dic (iKv K))).push (.lst [.int 0])).push (.lst ((fl K ++ [0]).map MV.int))) := by
    have e2 : (fl K).map MV.int ++ [.int 0] = (fl K ++ [0]).map MV.int := by simp
    simp only [mAdd, gD2, gT]
    rw [if_pos (by simp; omega), e2]
  have gE : (((h1.set k (.dic (iKv K))).push (.lst [.int 0])).push (.lst ((fl K ++ [0]).map MV.int))).get ((h1.set k (.dic (iKv K))).push (.lst [.int 0])).n = some (.lst ((fl K ++ [0]).map MV.int)) := get_top
  have mx : mMaxL (.ref ((h1.set k (.dic (iKv K))).push (.lst [.int 0])).n) (((h1.set k (.dic (iKv K))).push (.lst [.int 0])).push (.lst ((fl K ++ [0]).map MV.int))) = .ok (.int (sizeOf_ K)) (((h1.set k (.dic (iKv K))).push (.lst [.int 0])).push (.lst ((fl K ++ [0]).map MV.int))) := by
    unfold mMaxL sizeOf_
    simp only [seqOf, gE]
    simp only [Option.bind, ints_map]
    cases e : fl K ++ [0] with
    | nil => simp at e
    | cons y l => rfl
  show gRet _ [some (.ref k), none] h = _
  simp only [gRet, gCB, gCons, gNil, gBin, lk, Out.bind, gLst, gC, List.length_cons, List.length_nil, f1]
  simp only [Nat.reduceAdd, Nat.reduceLeDiff, if_pos, ad, mx, Out.bindS]
/-- the memory's size is the law's -/
theorem many_eq {C : Nat} {h h2 : MH} {s r b L k L2 : Nat} {R : Rows} {K : List (Int × MV)} (M : MemW C h s r b R L) (N : Ne R) (a : Kn h2 k K L2) (e : ∀ c, rget R c = kget K c) : manyOf R = sizeOf_ K := by
  -- what the law's list has
  have mem : ∀ y : Int, y ∈ fl K ↔ ∃ c, kget K c ≠ .non ∧ y = c / 8 + 1 := fun y => by
    unfold fl
    rw [List.mem_map]
    constructor
    · rintro ⟨p, hp, rfl⟩
      obtain ⟨h1, h2⟩ := List.mem_filter.mp hp
      refine ⟨p.1, ?_, rfl⟩
      unfold kget
      rw [kfind_of_mem a.nd h1]
      intro z
      have z' : p.2 = .non := z
      rw [z'] at h2
      cases h2
    · rintro ⟨c, hc, rfl⟩
      unfold kget at hc
      cases z : kfind K c with
      | none => rw [z] at hc; exact absurd rfl hc
      | some v =>
        rw [z] at hc
        have hc' : v ≠ .non := hc
        refine ⟨(c, v), List.mem_filter.mpr ⟨kfind_mem z, ?_⟩, rfl⟩
        cases v <;> first | rfl | exact absurd rfl hc'
  have pos : ∀ c, kget K c ≠ .non → 0 ≤ c := fun c hc => by
    unfold kget at hc
    cases z : kfind K c with
    | none => rw [z] at hc; exact absurd rfl hc
    | some v => exact a.pos _ (kfind_mem z)
  -- a row has a cell
  have cell : ∀ p ∈ R, ∃ c, c / 8 = p.1 ∧ kget K c ≠ .non := fun p hp => by
    have m := M.row p hp
    have ne := N p hp
    have : ¬ ∀ x ∈ p.2.2, x = .non := fun z => ne (trim_nil.mpr z)
    obtain ⟨x, hx, hn⟩ : ∃ x ∈ p.2.2, x ≠ .non := by
      refine Classical.byContradiction fun z => this fun x hx => Classical.byContradiction fun y => z ⟨x, hx, y⟩
    obtain ⟨i, hi, rfl⟩ := List.getElem_of_mem hx
    have hi8 : i < 8 := by omega
    refine ⟨8 * p.1 + (i : Nat), by omega, ?_⟩
    rw [← e]
    unfold rget
    have d1 : (8 * p.1 + (i : Nat)) / 8 = p.1 := by omega
    have d2 : ((8 * p.1 + (i : Nat)) % 8).toNat = i := by omega
    rw [d1, look_of_mem M.keys hp]
    dsimp only
    unfold cellOf
    rw [d2, List.getElem?_eq_getElem hi]
    exact hn
  have key : ∀ c, kget K c ≠ .non → c / 8 ∈ R.map fun p => p.1 := fun c hc => by
    rw [← e] at hc
    unfold rget at hc
    cases z : look R (c / 8) with
    | none => rw [z] at hc; exact absurd rfl hc
    | some q => exact List.mem_map.mpr ⟨_, look_mem z, rfl⟩
  unfold manyOf sizeOf_
  cases e1 : fl K ++ [0] with
  | nil => simp at e1
  | cons y l =>
    dsimp only
    cases e2 : R.map fun p => p.1 with
    | nil =>
      dsimp only
      refine lmax_uniq ?_ fun z hz => ?_
      · rw [← e1]; simp
      · rw [← e1] at hz
        rcases List.mem_append.mp hz with hz | hz
        · obtain ⟨c, hc, _⟩ := (mem z).mp hz
          have := key c hc
          rw [e2] at this
          cases this
        · rw [List.mem_singleton.mp hz]; exact Int.le_refl _
    | cons y2 l2 =>
      dsimp only
      obtain ⟨g1, g2⟩ := lmax_ge l2 y2
      have mm : lmax y2 l2 ∈ R.map fun p => p.1 := by
        rw [e2]
        rcases lmax_mem l2 y2 with z | z
        · rw [z]; exact List.mem_cons_self
        · exact List.mem_cons_of_mem _ z
      obtain ⟨p, hp, hpe⟩ := List.mem_map.mp mm
      obtain ⟨c, hc1, hc2⟩ := cell p hp
      refine lmax_uniq ?_ fun z hz => ?_
      · rw [← e1]
        refine List.mem_append.mpr (.inl ((mem _).mpr ⟨c, hc2, ?_⟩))
        rw [← hpe, hc1]
      · rw [← e1] at hz
        rcases List.mem_append.mp hz with hz | hz
        · obtain ⟨c', hc', rfl⟩ := (mem z).mp hz
          have := key c' hc'
          rw [e2] at this
          rcases List.mem_cons.mp this with w | w
          · rw [w]; omega
          · have := g2 _ w; omega
        · rw [List.mem_singleton.mp hz]
          have := pos c hc2
          have : 0 ≤ lmax y2 l2 := by rw [← hpe, ← hc1]; omega
          omega
end XM
set_option Elab.async false
set_option linter.all false
set_option maxRecDepth 100000
set_option maxHeartbeats 4000000
namespace XM
open MI XG
open L2 (atI ixN)
/-- what is there at the places of h but s, is there -/
theorem Sq.keep {h h' : MH} {v : MV} {xs : List MV} {s C : Nat} {fs : List (Nat × MV)} (q : Sq h v xs) (hs : h.get s = some (.ins C fs)) (k : Kp [s] h h') : Sq h' v xs := by
  cases q with
  | tup => exact .tup _
  | ref e => exact .ref (k.at e (by intro z; rw [List.mem_singleton.mp z, hs] at e; cases e))
theorem enum_it {h : MH} {pv : MV} {vs : List MV} (sq : Sq h pv vs) : ∃ it, (∀ m a, a m h = .ok pv h → gEnumA a m h = .ok it h) ∧ it.size h = vs.length ∧ ∀ h', Sq h' pv vs → ∀ i : Nat, it.at_ i h' = some (vs[i]?.map fun x => .tup [.int (i : Nat), x]) := by
  cases sq with
  | tup => exact ⟨it1E vs, fun m a e => by simp [gEnumA, e, Out.bind], rfl, fun h' _ i => rfl⟩
  | @ref q _ e0 =>
    refine ⟨it1EL q, fun m a e => by simp [gEnumA, e, Out.bind, e0], by simp [it1EL, e0], fun h' s i => ?_⟩
    cases s with
    | ref e1 => simp [it1EL, e1]
theorem iter_it {h : MH} {pv : MV} {vs : List MV} (sq : Sq h pv vs) : ∃ it, (∀ m a, a m h = .ok pv h → gIter a m h = .ok it h) ∧ it.size h = vs.length ∧ ∀ h', Sq h' pv vs → ∀ i : Nat, it.at_ i h' = some vs[i]? := by
  cases sq with
  | tup => exact ⟨it1 vs, fun m a e => by simp [gIter, e, Out.bind, mIter], rfl, fun h' _ i => rfl⟩
  | @ref q _ e0 =>
    refine ⟨it1L q, fun m a e => by simp [gIter, e, Out.bind, mIter, e0], by simp [it1L, e0], fun h' s i => ?_⟩
    cases s with
    | ref e1 => simp [it1L, e1]
def pget (P : List (List MV)) (c : Int) : MV := if 0 ≤ c then ((P[(c / 8).toNat]?).bind fun xs => xs[(c % 8).toNat]?).getD .non else .non
theorem pget_take {P : List (List MV)} {i : Nat} {xs : List MV} (e : P[i]? = some xs) (c : Int) : pget (P.take (i + 1)) c = if c / 8 = (i : Nat) then (xs[(c % 8).toNat]?).getD .non else pget (P.take i) c := by
  unfold pget
  have hi : i < P.length := (List.getElem?_eq_some_iff.mp e).1
  by_cases h0 : 0 ≤ c
  · rw [if_pos h0, if_pos h0]
    by_cases z : c / 8 = (i : Nat)
    · rw [if_pos z, z, Int.toNat_natCast, List.getElem?_take, if_pos (by omega), e]; rfl
    · rw [if_neg z, List.getElem?_take, List.getElem?_take]
      by_cases y : (c / 8).toNat < i
      · rw [if_pos y, if_pos (by omega)]
      · rw [if_neg y, if_neg (by omega)]
  · rw [if_neg h0, if_neg h0, if_neg (by omega)]
theorem pget_zero (P : List (List MV)) (c : Int) : pget (P.take 0) c = .non := by
  unfold pget
  split <;> simp
/-- a memory that is being begun -/
structure Ini (C : Nat) (h0 : MH) (s : Nat) (P : List (List MV)) (i : Nat) (h : MH) (R : Rows) : Prop where
  kp : Kp [s] h0 h
  ins : h.get s = some (.ins C [(fR, .ref h0.n)])
  dr : h.get h0.n = some (.dic (rKv R))
  row : ∀ p ∈ R, h.get p.2.1 = some (.lst p.2.2) ∧ p.2.2.length = 8 ∧ ∀ x ∈ p.2.2, atB x = true
  nd : (R.map fun p => p.2.1).Nodup
  fresh : ∀ p ∈ R, h0.n < p.2.1
  keys : (R.map fun p => p.1).Nodup
  lt : ∀ p ∈ R, p.1 < (i : Nat)
  len : R.length ≤ i
  ne : Ne R
  val : ∀ c, rget R c = pget (P.take i) c
theorem Ini.up {C : Nat} {h0 h h' : MH} {s i : Nat} {P : List (List MV)} {R : Rows} (a : Ini C h0 s P i h R) (u : Up h h') : Ini C h0 s P i h' R :=
  ⟨a.kp.trans u.kp, u.at a.ins, u.at a.dr, fun p hp => ⟨u.at (a.row p hp).1, (a.row p hp).2⟩, a.nd, a.fresh, a.keys, a.lt, a.len, a.ne, a.val⟩
theorem reps_non : ∀ n : Nat, reps [MV.non] n = List.replicate n .non
  | 0 => rfl
  | n + 1 => by
    show MV.non :: reps [MV.non] n = _
    rw [reps_non n, List.replicate_succ]
theorem trim_app {xs : List MV} {n : Nat} (h : trim xs ≠ []) : trim (xs ++ List.replicate n .non) ≠ [] := fun z => by
  refine h (trim_nil.mpr fun x hx => trim_nil.mp z x (List.mem_append.mpr (.inl hx)))
def initBody (C : Nat) : MS := gIfS (gTru (gCall mWE [] 1 (gCons (gVar 3) (gNil)))) (gAsg (gBin mAdd (gCB (f1 mList) (gCons (gVar 3) (gNil))) (gBin mMulA (gLst (gCons (gC .non) (gNil))) (gBin mSub (gC (.int 8)) (gCB (f1 mLenV) (gCons (gVar 3) (gNil)))))) (tgSub (gFld [C] fR (gVar 0)) (gVar 2))) (gNext)
theorem init_step {C : Nat} {h0 h : MH} {s i : Nat} {P : List (List MV)} {R : Rows} {pv v : MV} {xs : List MV} (hs : h0.get s = some (.ins C [])) (hi : i < 100) (a : Ini C h0 s P i h R) (e : P[i]? = some xs) (sv : Sq h0 v xs) (lx : xs.length ≤ 8) (ax : ∀ x ∈ xs, atB x = true) :
    ∃ h' R', initBody C [some (.ref s), some pv, some (.int (i : Nat)), some v] h = .nx [some (.ref s), some pv, some (.int (i : Nat)), some v] h' ∧ Ini C h0 s P (i + 1) h' R' := by
  have hsn := MH.get_lt hs
  have sv1 := sv.keep hs a.kp
  obtain ⟨h1, e1, u1⟩ := we_ok sv1 (by omega)
  have a1 := a.up u1
  have sv2 := sv1.up u1
  have v0 : ∀ h, gVar 0 [some (.ref s), some pv, some (.int (i : Nat)), some v] h = .ok (.ref s) h := fun h => rfl
  have v2 : ∀ h, gVar 2 [some (.ref s), some pv, some (.int (i : Nat)), some v] h = .ok (.int (i : Nat)) h := fun h => rfl
  have v3 : ∀ h, gVar 3 [some (.ref s), some pv, some (.int (i : Nat)), some v] h = .ok v h := fun h => rfl
  have cd : gTru (gCall mWE [] 1 (gCons (gVar 3) (gNil))) [some (.ref s), some pv, some (.int (i : Nat)), some v] h = .ok (!(trim xs).isEmpty) h1 := by
    have := (call1 (n := 1) (v3 h) rfl).trans e1
    simp [gTru, this, Out.bind, mTru, seqOf]
  cases t : (trim xs).isEmpty with
  | true =>
    rw [t] at cd
    have t' : trim xs = [] := by simpa using t
    refine ⟨h1, R, (ifS_f cd).trans rfl, ⟨a1.kp, a1.ins, a1.dr, a1.row, a1.nd, a1.fresh, a1.keys, fun p hp => by have := a1.lt p hp; omega, by have := a1.len; omega, a1.ne, fun c => ?_⟩⟩
    rw [a1.val, pget_take e]
    by_cases z : c / 8 = (i : Nat)
    · rw [if_pos z, ← a1.val]
      unfold rget
      have nl : look R (c / 8) = none := by
        cases k : look R (c / 8) with
        | none => rfl
        | some q => have := a1.lt _ (look_mem k); dsimp only at this; omega
      rw [nl]
      cases y : xs[(c % 8).toNat]? with
      | none => rfl
      | some x => exact (trim_nil.mp t' x (List.mem_of_getElem? y)).symm
    · rw [if_neg z]
  | false =>
    rw [t] at cd
    have t' : trim xs ≠ [] := fun y => by rw [y] at t; cases t
    -- the things made on the way
    have ls : seqOf h1 v = some xs := by
      cases sv2 with
      | tup => rfl
      | ref q => simp [seqOf, q]
    have n0 : h0.n ≤ h1.n := a1.kp.n
    have hp1 : (h1.push (.lst xs)).get h1.n = some (.lst xs) := get_top
    have u2 : Up h1 (((h1.push (.lst xs)).push (.lst [.non])).push (.lst (List.replicate (8 - xs.length) .non))) := (Up.push.trans Up.push).trans Up.push
    have g1 : (((h1.push (.lst xs)).push (.lst [.non])).push (.lst (List.replicate (8 - xs.length) .non))).get h1.n = some (.lst xs) := (Up.push.trans Up.push).at hp1
    have g2 : (((h1.push (.lst xs)).push (.lst [.non])).push (.lst (List.replicate (8 - xs.length) .non))).get (h1.n + 2) = some (.lst (List.replicate (8 - xs.length) .non)) := get_top
    have g3 : ((h1.push (.lst xs)).push (.lst [.non])).get (h1.n + 1) = some (.lst [.non]) := get_top
    have kq : (8 - (xs.length : Int)).toNat = 8 - xs.length := by omega
    have mk : gBin mAdd (gCB (f1 mList) (gCons (gVar 3) (gNil))) (gBin mMulA (gLst (gCons (gC .non) (gNil))) (gBin mSub (gC (.int 8)) (gCB (f1 mLenV) (gCons (gVar 3) (gNil))))) [some (.ref s), some pv, some (.int (i : Nat)), some v] h1 =
        .ok (.ref (h1.n + 3)) ((((h1.push (.lst xs)).push (.lst [.non])).push (.lst (List.replicate (8 - xs.length) .non))).push (.lst (xs ++ List.replicate (8 - xs.length) .non))) := by
      have l2 := (sv2.up (Up.push.trans Up.push : Up h1 ((h1.push (.lst xs)).push (.lst [.non])))).len
      have rl : mRepL (.ref (h1.n + 1)) (.int (8 - (xs.length : Int))) ((h1.push (.lst xs)).push (.lst [.non])) = .ok (.ref (h1.n + 2)) (((h1.push (.lst xs)).push (.lst [.non])).push (.lst (List.replicate (8 - xs.length) .non))) := by
        simp only [mRepL, g3]
        rw [if_pos (by simp; omega), kq, reps_non]; rfl
      have ad : mAdd (.ref h1.n) (.ref (h1.n + 2)) (((h1.push (.lst xs)).push (.lst [.non])).push (.lst (List.replicate (8 - xs.length) .non))) = .ok (.ref (h1.n + 3)) ((((h1.push (.lst xs)).push (.lst [.non])).push (.lst (List.replicate (8 - xs.length) .non))).push (.lst (xs ++ List.replicate (8 - xs.length) .non))) := by
        simp only [mAdd, g1, g2]
        rw [if_pos (by simp; omega)]; rfl
      have ml : ∀ h, f1 mList [v] h = mList v h := fun h => rfl
      have m8 : ∀ h, mSub (.int 8) (.int (xs.length : Int)) h = .ok (.int (8 - (xs.length : Int))) h := fun h => rfl
      have lv : f1 mLenV [v] ((h1.push (.lst xs)).push (.lst [.non])) = .ok (.int xs.length) ((h1.push (.lst xs)).push (.lst [.non])) := l2
      have e1 : mList v h1 = .ok (.ref h1.n) (h1.push (.lst xs)) := by simp [mList, ls]
      have lst1 : gLst (gCons (gC .non) gNil) [some (.ref s), some pv, some (.int (i : Nat)), some v] (h1.push (.lst xs)) = .ok (.ref (h1.n + 1)) ((h1.push (.lst xs)).push (.lst [.non])) := rfl
      have mm : mMulA (.ref (h1.n + 1)) (.int (8 - (xs.length : Int))) ((h1.push (.lst xs)).push (.lst [.non])) = mRepL (.ref (h1.n + 1)) (.int (8 - (xs.length : Int))) ((h1.push (.lst xs)).push (.lst [.non])) := rfl
      show (Out.bind ((gCB (f1 mList) (gCons (gVar 3) (gNil))) _ h1) _) = _
      simp only [gBin, gCB, gCons, gNil, v3, Out.bind, ml, e1, lst1, gC, lv, m8, mm, rl, ad]
    have a2 := a1.up (u2.trans (Up.push (o := .lst (xs ++ List.replicate (8 - xs.length) .non))))
    have gq : ((((h1.push (.lst xs)).push (.lst [.non])).push (.lst (List.replicate (8 - xs.length) .non))).push (.lst (xs ++ List.replicate (8 - xs.length) .non))).get (h1.n + 3) = some (.lst (xs ++ List.replicate (8 - xs.length) .non)) := get_top
    generalize ((((h1.push (.lst xs)).push (.lst [.non])).push (.lst (List.replicate (8 - xs.length) .non))).push (.lst (xs ++ List.replicate (8 - xs.length) .non))) = H at mk a2 gq
    have nl : look R (i : Nat) = none := by
      cases k : look R (i : Nat) with
      | none => rfl
      | some q => have := a1.lt _ (look_mem k); dsimp only at this; omega
    have nw : dval keq (rKv R) (.inl (i : Nat)) = none := by rw [dval_rKv, nl]; rfl
    have ln : (rKv R).length < 1000000 := by unfold rKv; rw [List.length_map]; have := a1.len; omega
    have kv : rKv R ++ [(.inl ((i : Nat) : Int), .ref (h1.n + 3))] = rKv (R ++ [(((i : Nat) : Int), h1.n + 3, xs ++ List.replicate (8 - xs.length) .non)]) := by simp [rKv]
    have rlt : h0.n < h1.n := MH.get_lt a1.dr
    have snr : s ≠ h0.n := by omega
    have old : ∀ p ∈ R, p.2.1 < h1.n := fun p hp => MH.get_lt (a1.row p hp).1
    refine ⟨_, R ++ [(((i : Nat) : Int), h1.n + 3, xs ++ List.replicate (8 - xs.length) .non)], (ifS_t cd).trans (?_ : _ = SO.nx _ (MH.set H h0.n (.dic (rKv (R ++ [(((i : Nat) : Int), h1.n + 3, xs ++ List.replicate (8 - xs.length) .non)]))))), ⟨⟨a2.kp.n, fun j hj hf => ?_⟩, ?_, set_get a2.dr, fun p hp => ?_, ?_, fun p hp => ?_, ?_, fun p hp => ?_, ?_, fun p hp => ?_, fun c => ?_⟩⟩
    · unfold gAsg
      rw [mk]
      have l3 : List.lookup fR [(fR, MV.ref h0.n)] = some (.ref h0.n) := rfl
      have fr : gFld [C] fR (gVar 0) [some (.ref s), some pv, some (.int (i : Nat)), some v] H = .ok (.ref h0.n) H := by
        simp [gFld, gUn, v0, Out.bind, mFld, a2.ins, l3]
      have dd := a2.dr
      simp only [Out.bindS, tgSub, fr, v2, putM]
      rw [if_pos (by simp [isD, dd])]
      simp only [dPutM, dd, mkey, dput_new nw, kv]
      rw [if_pos ln]; rfl
    · rw [set_ne a2.dr (by omega)]; exact a2.kp.get j hj hf
    · rw [set_ne a2.dr snr]; exact a2.ins
    · rcases List.mem_append.mp hp with hp | hp
      · have f := a2.fresh p hp
        exact ⟨by rw [set_ne a2.dr (by omega)]; exact (a2.row p hp).1, (a2.row p hp).2⟩
      · cases List.mem_singleton.mp hp
        refine ⟨by rw [set_ne a2.dr (by dsimp only; omega)]; exact gq, by simp; omega, fun x hx => ?_⟩
        rcases List.mem_append.mp hx with hx | hx
        · exact ax x hx
        · rw [List.eq_of_mem_replicate hx]; rfl
    · rw [List.map_append]
      refine List.nodup_append.mpr ⟨a.nd, by simp, fun y hy z hz => ?_⟩
      obtain ⟨p, hp, rfl⟩ := List.mem_map.mp hy
      have := old p hp
      simp only [List.map_cons, List.map_nil, List.mem_singleton] at hz
      omega
    · rcases List.mem_append.mp hp with hp | hp
      · exact a2.fresh p hp
      · cases List.mem_singleton.mp hp
        dsimp only; omega
    · rw [List.map_append]
      refine List.nodup_append.mpr ⟨a.keys, by simp, fun y hy z hz => ?_⟩
      obtain ⟨p, hp, rfl⟩ := List.mem_map.mp hy
      have := a.lt p hp
      simp only [List.map_cons, List.map_nil, List.mem_singleton] at hz
      omega
    · rcases List.mem_append.mp hp with hp | hp
      · have := a.lt p hp; omega
      · cases List.mem_singleton.mp hp
        dsimp only; omega
    · rw [List.length_append]; have := a.len; simp; omega
    · rcases List.mem_append.mp hp with hp | hp
      · exact a.ne p hp
      · cases List.mem_singleton.mp hp
        exact trim_app t'
    · rw [pget_take e, ← a.val]
      unfold rget
      rw [look_snoc]
      by_cases z : c / 8 = (i : Nat)
      · rw [if_pos z, z, nl]
        dsimp only
        rw [if_pos rfl]
        dsimp only
        unfold cellOf
        by_cases y : (c % 8).toNat < xs.length
        · rw [List.getElem?_append_left y]
        · rw [List.getElem?_append_right (by omega), List.getElem?_replicate, List.getElem?_eq_none (l := xs) (by omega)]
          split <;> rfl
      · rw [if_neg z]
        cases k : look R (c / 8) with
        | some q => rfl
        | none =>
          dsimp only
          rw [if_neg (fun y => z y.symm)]
end XM
set_option Elab.async false
set_option linter.all false
set_option maxRecDepth 100000
set_option maxHeartbeats 4000000
namespace XM
open MI XG
open L2 (atI ixN)
theorem fldS_ok {C f s : Nat} {v : ME} {m : ML} {h h1 : MH} {y : MV} {fs : List (Nat × MV)} (ev : v m h = .ok y h1) (e0 : m[0]? = some (some (.ref s))) (g : h1.get s = some (.ins C fs)) (l : fs.length < 900) :
    gFldS [C] f v (gVar 0) m h = .nx m (h1.set s (.ins C (mput f y fs))) := by
  have v0 : gVar 0 m h1 = .ok (.ref s) h1 := var_at e0
  simp [gFldS, ev, Out.bindS, v0, g, l]
theorem init_ok0 {C : Nat} {h : MH} {s : Nat} {pv : MV} {vs : List MV} {P : List (List MV)} (hs : h.get s = some (.ins C [])) (sq : Sq h pv vs) (lv : vs.length = P.length) (l100 : P.length < 100)
    (hp : ∀ (i : Nat) v xs, vs[i]? = some v → P[i]? = some xs → Sq h v xs) (ok : ∀ xs ∈ P, xs.length ≤ 8 ∧ ∀ x ∈ xs, atB x = true) :
    ∃ h' b R, mInit C [.ref s, pv] h = .ok .non h' ∧ MemW C h' s h.n b R 100 ∧ Ne R ∧ (∀ c, rget R c = pget P c) ∧ Kp [s] h h' ∧ (∀ j ∈ fp s h.n b R, j = s ∨ h.n ≤ j) ∧ h'.get b = some (.dic []) := by
  have hsn := MH.get_lt hs
  have hs1 : (h.push (.dic [])).get s = some (.ins C []) := Up.push.at hs
  have s1 := fldS_ok (C := C) (f := fR) (v := gDic) (m := [some (.ref s), some pv, none, none]) (h := h) rfl rfl hs1 (by decide)
  have eI : mput fR (.ref h.n) [] = [(fR, MV.ref h.n)] := rfl
  rw [eI] at s1
  have k0 : Kp [s] h ((h.push (.dic [])).set s (.ins C [(fR, .ref h.n)])) := Up.push.kp.trans (Kp.set (by show s < h.n + 1; omega) (by simp))
  have I0 : Ini C h s P 0 ((h.push (.dic [])).set s (.ins C [(fR, .ref h.n)])) [] := by
    refine ⟨k0, set_get hs1, ?_, fun p hp => (by cases hp), List.nodup_nil, fun p hp => (by cases hp), List.nodup_nil, fun p hp => (by cases hp), Nat.le_refl _, fun p hp => (by cases hp), fun c => ?_⟩
    · rw [set_ne hs1 (by omega)]; exact get_top
    · rw [pget_zero]; rfl
  have sq0 := sq.keep hs k0
  obtain ⟨it, i1, i2, i3⟩ := enum_it sq0
  obtain ⟨m', hB, e1, ⟨R, o2, o3, rfl, I1⟩⟩ := for_loop (it := it) (t := tgTup [2, 3]) (b := initBody C) (N := P.length)
    (fun i m h' => ∃ R o2 o3, m = [some (.ref s), some pv, o2, o3] ∧ Ini C h s P i h' R)
    (fun m h' ⟨R, _, _, _, I⟩ => by rw [i3 h' (sq.keep hs I.kp), List.getElem?_eq_none (by omega)]; rfl)
    (fun i m h' hi ⟨R, o2, o3, em, I⟩ => by
      subst em
      obtain ⟨v, hv⟩ : ∃ v, vs[i]? = some v := ⟨vs[i], List.getElem?_eq_getElem (by omega)⟩
      obtain ⟨xs, hx⟩ : ∃ xs, P[i]? = some xs := ⟨P[i], List.getElem?_eq_getElem hi⟩
      obtain ⟨k1, k2⟩ := ok xs (List.mem_of_getElem? hx)
      obtain ⟨h2, R2, e2, I2⟩ := init_step (pv := pv) hs (by omega) I hx (hp i v xs hv hx) k1 k2
      exact ⟨.tup [.int (i : Nat), v], _, h', _, h2, by rw [i3 h' (sq.keep hs I.kp), hv]; rfl, rfl, e2, R2, _, _, rfl, I2⟩)
    (P.length + 1) 0 [some (.ref s), some pv, none, none] _ (by omega) (Nat.zero_le _) ⟨[], none, none, rfl, I0⟩
  have s2 : gFor (gEnumA (gVar 1)) (tgTup [2, 3]) (initBody C) [some (.ref s), some pv, none, none] ((h.push (.dic [])).set s (.ins C [(fR, .ref h.n)])) = .nx [some (.ref s), some pv, o2, o3] hB := by
    unfold gFor
    rw [i1 _ (gVar 1) rfl]
    simp only [Out.bindS]
    rw [i2, lv]
    exact e1
  have gi := I1.ins
  have sB := MH.get_lt gi
  have g1 : (hB.push (.dic [])).get s = some (.ins C [(fR, .ref h.n)]) := Up.push.at gi
  have s3 := fldS_ok (C := C) (f := fB) (v := gDic) (m := [some (.ref s), some pv, o2, o3]) (h := hB) rfl rfl g1 (by simp)
  have e3 : mput fB (.ref hB.n) [(fR, MV.ref h.n)] = [(fR, MV.ref h.n), (fB, .ref hB.n)] := rfl
  rw [e3] at s3
  have g2 := set_get (o := .ins C [(fR, MV.ref h.n), (fB, .ref hB.n)]) g1
  have s4 := fldS_ok (C := C) (f := fK) (v := gC .non) (m := [some (.ref s), some pv, o2, o3]) rfl rfl g2 (by simp)
  have e4 : mput fK .non [(fR, MV.ref h.n), (fB, .ref hB.n)] = [(fR, MV.ref h.n), (fB, .ref hB.n), (fK, .non)] := rfl
  rw [e4] at s4
  have g3 := set_get (o := .ins C [(fR, MV.ref h.n), (fB, .ref hB.n), (fK, .non)]) g2
  have s5 := fldS_ok (C := C) (f := fM) (v := gC (.int 0)) (m := [some (.ref s), some pv, o2, o3]) rfl rfl g3 (by simp)
  have e5 : mput fM (.int 0) [(fR, MV.ref h.n), (fB, .ref hB.n), (fK, .non)] = [(fR, MV.ref h.n), (fB, .ref hB.n), (fK, .non), (fM, .int 0)] := rfl
  rw [e5] at s5
  have g4 := set_get (o := .ins C [(fR, MV.ref h.n), (fB, .ref hB.n), (fK, .non), (fM, .int 0)]) g3
  have s6 := fldS_ok (C := C) (f := fP) (v := gC (.int 0)) (m := [some (.ref s), some pv, o2, o3]) rfl rfl g4 (by simp)
  have e6 : mput fP (.int 0) [(fR, MV.ref h.n), (fB, .ref hB.n), (fK, .non), (fM, .int 0)] = flds h.n hB.n 0 := rfl
  rw [e6] at s6
  have g5 := set_get (o := .ins C (flds h.n hB.n 0)) g4
  have other : ∀ j, j ≠ s → ((((((hB.push (.dic [])).set s (.ins C [(fR, MV.ref h.n), (fB, .ref hB.n)])).set s (.ins C [(fR, MV.ref h.n), (fB, .ref hB.n), (fK, .non)])).set s (.ins C [(fR, MV.ref h.n), (fB, .ref hB.n), (fK, .non), (fM, .int 0)])).set s (.ins C (flds h.n hB.n 0))).get j) = (hB.push (.dic [])).get j := fun j hj => by
    rw [set_ne g4 hj, set_ne g3 hj, set_ne g2 hj, set_ne g1 hj]
  have hn : h.n < hB.n := MH.get_lt I1.dr
  have rl : ∀ p ∈ R, p.2.1 < hB.n := fun p hp => MH.get_lt (I1.row p hp).1
  refine ⟨_, hB.n, R, body_nx (m := [some (.ref s), some pv, o2, o3]) ((seq_nx s1).trans ((seq_nx s2).trans ((seq_nx s3).trans ((seq_nx s4).trans ((seq_nx s5).trans s6))))), ⟨⟨0, g5⟩, ?_, ⟨[], by simp, ?_⟩, fun p hp => ⟨?_, (I1.row p hp).2⟩, ?_, I1.keys, by have := I1.len; omega⟩, I1.ne, ?_, ?_, fun j hj => ?_, ?_⟩
  · rw [other _ (by omega)]; exact Up.push.at I1.dr
  · rw [other _ (by omega)]; exact get_top
  · have f := I1.fresh p hp
    rw [other _ (by omega)]; exact Up.push.at (I1.row p hp).1
  · have a1 : ∀ j ∈ R.map (fun p => p.2.1), h.n < j ∧ j < hB.n := fun j hj => by
      obtain ⟨p, hp, rfl⟩ := List.mem_map.mp hj
      exact ⟨I1.fresh p hp, rl p hp⟩
    simp only [List.nodup_cons, List.mem_cons, not_or]
    exact ⟨⟨by omega, by omega, fun z => by have := a1 _ z; omega⟩, ⟨by omega, fun z => by have := a1 _ z; omega⟩, fun z => by have := a1 _ z; omega, I1.nd⟩
  · have := I1.val
    rw [List.take_of_length_le (Nat.le_refl _)] at this
    exact this
  · refine ⟨?_, fun j hj hf => ?_⟩
    · show h.n ≤ hB.n + 1; omega
    · have js : j ≠ s := by simpa using hf
      rw [other j js, MH.get_push, if_neg (by omega), I1.kp.get j hj hf]
  · simp only [fp, List.mem_cons, List.mem_map] at hj
    rcases hj with z | z | z | ⟨p, hp, z⟩
    · exact .inl z
    · exact .inr (by omega)
    · exact .inr (by omega)
    · have := I1.fresh p hp
      exact .inr (by omega)
  · rw [other _ (by omega)]; exact get_top
theorem init_ok {C : Nat} {h : MH} {s : Nat} {pv : MV} {vs : List MV} {P : List (List MV)} (hs : h.get s = some (.ins C [])) (sq : Sq h pv vs) (lv : vs.length = P.length) (l100 : P.length < 100)
    (hp : ∀ (i : Nat) v xs, vs[i]? = some v → P[i]? = some xs → Sq h v xs) (ok : ∀ xs ∈ P, xs.length ≤ 8 ∧ ∀ x ∈ xs, atB x = true) :
    ∃ h' b R, mInit C [.ref s, pv] h = .ok .non h' ∧ MemW C h' s h.n b R 100 ∧ Ne R ∧ (∀ c, rget R c = pget P c) ∧ Kp [s] h h' ∧ (∀ j ∈ fp s h.n b R, j = s ∨ h.n ≤ j) := by
  obtain ⟨h', b, R, a1, a2, a3, a4, a5, a6, _⟩ := init_ok0 hs sq lv l100 hp ok
  exact ⟨h', b, R, a1, a2, a3, a4, a5, a6⟩
end XM
set_option Elab.async false
set_option linter.all false
set_option maxRecDepth 100000
set_option maxHeartbeats 4000000
namespace XM
open MI XG
open L2 (atI ixN)
theorem kp_of {i : Nat} {h h' : MH} (k : Keep i h h') : Kp [i] h h' := ⟨k.n, fun j hj hf => k.get j hj (by simpa using hf)⟩
theorem keep_of {i : Nat} {h h' : MH} (k : Kp [i] h h') : Keep i h h' := ⟨k.n, fun j hj hf => k.get j hj (by simpa using hf)⟩
theorem _root_.XG.Box.up {h h' : MH} {i : Nat} {f : Int} (b : Box h i f) (u : Up h h') : Box h' i f := by
  obtain ⟨a, s, e, h1, h2, h3⟩ := b
  exact ⟨a, s, e, u.at h1, h2, h3⟩
theorem _root_.XG.Box.kp {h h' : MH} {i : Nat} {f : Int} {F : List Nat} (b : Box h i f) (u : Kp F h h') (hi : i ∉ F) : Box h' i f := by
  obtain ⟨a, s, e, h1, h2, h3⟩ := b
  exact ⟨a, s, e, u.at h1 hi, h2, h3⟩
/-- a number below n -/
theorem tk_ok {h : MH} {i : Nat} {f : Int} (n : Int) (b : Box h i f) (hn : 0 < n) (hn2 : n < 1073741824) (hf2 : f < 1000000000000) :
    ∃ (r : Nat) (h' : MH), (r : Int) < n ∧ mTake [.ref i, .int n] h = .ok (.int (r : Nat)) h' ∧ Box h' i (f + 1) ∧ Kp [i] h h' ∧ h'.n = h.n := by
  obtain ⟨r, h', h1, h2, h3, h4, h5, h6⟩ := take_ok b hn hn2 hf2
  have e : ((r.toNat : Nat) : Int) = r := by omega
  exact ⟨r.toNat, h', by rw [e]; exact h2, by rw [e]; exact h3, h4, kp_of h5, h6⟩
def mOf : MF := gBody 2 (gRet (gBin mIx (gVar 1) (gCall mTake [] 2 (gCons (gVar 0) (gCons (gCB (f1 mLenV) (gCons (gVar 1) (gNil))) (gNil))))))
theorem Sq.kp {h h' : MH} {v : MV} {xs : List MV} {F : List Nat} (q : Sq h v xs) (k : Kp F h h') (n : ∀ q, v = .ref q → q ∉ F) : Sq h' v xs := by
  cases q with
  | tup => exact .tup _
  | ref e => exact .ref (k.at e (n _ rfl))
theorem of_ok {h : MH} {i : Nat} {f : Int} {v : MV} {xs : List MV} (b : Box h i f) (s : Sq h v xs) (n : ∀ q, v = .ref q → q ≠ i) (h0 : 0 < xs.length) (h1 : xs.length < 1000000) (hf : f < 1000000000000) :
    ∃ x h', mOf [.ref i, v] h = .ok x h' ∧ x ∈ xs ∧ Box h' i (f + 1) ∧ Kp [i] h h' ∧ h'.n = h.n := by
  obtain ⟨r, h', a1, a2, a3, a4, a5⟩ := tk_ok (xs.length : Int) b (by omega) (by omega) hf
  have hr : r < xs.length := by omega
  have hx : xs[r]? = some xs[r] := List.getElem?_eq_getElem hr
  have s' := s.kp a4 (fun q e => by have := n q e; simpa using this)
  have ix := s'.ix hx
  have l := s.len
  have v0 : ∀ h, gVar 0 [some (.ref i), some v] h = .ok (.ref i) h := fun h => rfl
  have v1 : ∀ h, gVar 1 [some (.ref i), some v] h = .ok v h := fun h => rfl
  have cl : gCall mTake [] 2 (gCons (gVar 0) (gCons (gCB (f1 mLenV) (gCons (gVar 1) (gNil))) (gNil))) [some (.ref i), some v] h = .ok (.int (r : Nat)) h' := by
    refine (call2 (n := 2) (v0 h) (y := .int xs.length) (h2 := h) ?_ rfl).trans a2
    simp [gCB, gCons, gNil, v1, Out.bind, f1, l]
  refine ⟨xs[r], h', body_rt ?_, List.getElem_mem hr, a3, a4, a5⟩
  show gRet _ [some (.ref i), some v] h = _
  simp only [gRet, gBin, v1, Out.bind, cl, ix, Out.bindS]
def mThing : MF := gBody 2 (gSeq (gAsg (gLst (gCons (gC .non) (gCons (gC (.int 0)) (gCons (gUn mNeg (gC (.int 1))) (gCons (gC (.int 7)) (gCons (gBin mPow (gC (.int 10)) (gC (.int 40))) (gCons (gC (.str [])) (gCons (gC (.str [120])) (gCons (gC (.str [64, 48])) (gCons (gC (.str [64, 57])) (gCons (gC (.str [116, 119, 111, 32, 119, 111, 114, 100, 115])) (gCons (gCall mTake [] 2 (gCons (gVar 0) (gCons (gC (.int 1000)) (gNil)))) (gCons (gCB (f1 mStr) (gCons (gCall mTake [] 2 (gCons (gVar 0) (gCons (gC (.int 99)) (gNil)))) (gNil))) (gNil)))))))))))))) (tgName 1)) (gRet (gCall mOf [] 2 (gCons (gVar 0) (gCons (gVar 1) (gNil))))))
def things (r t : Nat) : List MV := [.non, .int 0, .int (-1), .int 7, .int (10 ^ 40), .str [], .str [120], .str [64, 48], .str [64, 57], .str [116, 119, 111, 32, 119, 111, 114, 100, 115], .int (r : Nat), .str (itoa (t : Nat))]
theorem itoa_at : ∀ t : Nat, t < 99 → atB (.str (itoa (t : Nat))) = true := by decide +kernel
theorem things_at {r t : Nat} (hr : r < 1000) (ht : t < 99) : ∀ x ∈ things r t, atB x = true := by
  intro x hx
  simp only [things, List.mem_cons, List.not_mem_nil, or_false] at hx
  rcases hx with rfl | rfl | rfl | rfl | rfl | rfl | rfl | rfl | rfl | rfl | rfl | rfl
  all_goals first
    | rfl
    | decide +kernel
    | exact itoa_at t ht
    | (show decide _ = true
       exact decide_eq_true (by omega))
theorem thing_ok {h : MH} {i : Nat} {f : Int} (b : Box h i f) (hf : f + 3 < 1000000000000) : ∃ x h', mThing [.ref i] h = .ok x h' ∧ atB x = true ∧ Box h' i (f + 3) ∧ Kp [i] h h' := by
  obtain ⟨r, h1, a1, a2, a3, a4, a5⟩ := tk_ok 1000 b (by decide) (by decide) (by omega)
  obtain ⟨t, h2, b1, b2, b3, b4, b5⟩ := tk_ok 99 a3 (by decide) (by decide) (by omega)
  have v0 : ∀ o h, gVar 0 [some (.ref i), o] h = .ok (.ref i) h := fun o h => rfl
  have c1 : gCall mTake [] 2 (gCons (gVar 0) (gCons (gC (.int 1000)) (gNil))) [some (.ref i), none] h = .ok (.int (r : Nat)) h1 := (call2 (n := 2) (v0 none h) rfl rfl).trans a2
  have c2 : gCall mTake [] 2 (gCons (gVar 0) (gCons (gC (.int 99)) (gNil))) [some (.ref i), none] h1 = .ok (.int (t : Nat)) h2 := (call2 (n := 2) (v0 none h1) rfl rfl).trans b2
  have sm : mStr (.int (t : Nat)) h2 = .ok (.str (itoa (t : Nat))) h2 := by
    have : iSmall ((t : Nat) : Int) = true := by unfold iSmall; exact decide_eq_true (by omega)
    simp [mStr, this]
  have p40 : ∀ h, mPow (.int 10) (.int 40) h = .ok (.int (10 ^ 40)) h := fun h => rfl
  have lst : gLst (gCons (gC .non) (gCons (gC (.int 0)) (gCons (gUn mNeg (gC (.int 1))) (gCons (gC (.int 7)) (gCons (gBin mPow (gC (.int 10)) (gC (.int 40))) (gCons (gC (.str [])) (gCons (gC (.str [120])) (gCons (gC (.str [64, 48])) (gCons (gC (.str [64, 57])) (gCons (gC (.str [116, 119, 111, 32, 119, 111, 114, 100, 115])) (gCons (gCall mTake [] 2 (gCons (gVar 0) (gCons (gC (.int 1000)) (gNil)))) (gCons (gCB (f1 mStr) (gCons (gCall mTake [] 2 (gCons (gVar 0) (gCons (gC (.int 99)) (gNil)))) (gNil))) (gNil))))))))))))) [some (.ref i), none] h = .ok (.ref h2.n) (h2.push (.lst (things r t))) := by
    have ng : ∀ h, mNeg (.int 1) h = .ok (.int (-1)) h := fun h => rfl
    simp only [gLst, gCons, gC, gUn, gBin, gNil, ng, p40, c1, c2, gCB, f1, sm, Out.bind]
    rfl
  have b6 : Box (h2.push (.lst (things r t))) i (f + 1 + 1) := b3.up Up.push
  have hi := b3.lt
  obtain ⟨x, h3, d1, d2, d3, d4, d5⟩ := of_ok (v := .ref h2.n) b6 (.ref get_top) (fun q e => by cases e; omega) (by simp [things]) (by simp [things]) (by omega)
  refine ⟨x, h3, body_rt ((seq_nx (asg_nx lst)).trans ?_), things_at (by omega) (by omega) x d2, d3.le (by omega), (a4.trans b4).trans (Up.push.kp.trans d4)⟩
  have cl : gCall mOf [] 2 (gCons (gVar 0) (gCons (gVar 1) gNil)) [some (.ref i), some (.ref h2.n)] (h2.push (.lst (things r t))) = .ok x h3 := (call2 (n := 2) rfl rfl rfl).trans d1
  show gRet (gCall mOf [] 2 (gCons (gVar 0) (gCons (gVar 1) gNil))) [some (.ref i), some (.ref h2.n)] _ = _
  simp only [gRet, cl, Out.bindS]
end XM
set_option Elab.async false
set_option linter.all false
set_option maxRecDepth 100000
set_option maxHeartbeats 4000000
namespace XM
open MI XG
open L2 (atI ixN)
theorem pget_snoc (P : List (List MV)) (ys : List MV) (c : Int) : pget (P ++ [ys]) c = if c / 8 = (P.length : Nat) then (ys[(c % 8).toNat]?).getD .non else pget P c := by
  have e : (P ++ [ys])[P.length]? = some ys := by simp
  have := pget_take e c
  rw [List.take_of_length_le (by simp), List.take_left] at this
  exact this
theorem Kp.set_new {F : List Nat} {h h' : MH} (k : Kp F h h') {D : Nat} {o o' : MO} (hD : h.n ≤ D) (g : h'.get D = some o') : Kp F h (h'.set D o) :=
  ⟨k.n, fun j hj hf => by rw [set_ne g (by omega)]; exact k.get j hj hf⟩
def eRow : ME := gLc (gRng1 (gCall mTake [] 2 (gCons (gVar 0) (gCons (gC (.int 9)) (gNil))))) (.one 7) (gYes) (gCall mThing [] 1 (gCons (gVar 0) (gNil))) [7]
theorem row_ok {h : MH} {i : Nat} {f : Int} {m : ML} (b : Box h i f) (e0 : m[0]? = some (some (.ref i))) (hf : f + 100 < 1000000000000) :
    ∃ xs D h', eRow m h = .ok (.ref D) h' ∧ h'.get D = some (.lst xs) ∧ xs.length ≤ 8 ∧ (∀ x ∈ xs, atB x = true) ∧ Box h' i (f + 25) ∧ Kp [i] h h' ∧ h.n ≤ D := by
  obtain ⟨r, h1, a1, a2, a3, a4, a5⟩ := tk_ok 9 b (by decide) (by decide) (by omega)
  have rg : gRng1 (gCall mTake [] 2 (gCons (gVar 0) (gCons (gC (.int 9)) (gNil)))) m h = .ok (it1R 0 r) h1 := by
    have c1 : gCall mTake [] 2 (gCons (gVar 0) (gCons (gC (.int 9)) (gNil))) m h = .ok (.int (r : Nat)) h1 := (call2 (n := 2) (var_at e0) rfl rfl).trans a2
    simp only [gRng1, c1, Out.bind]
    rw [if_pos (by omega), Int.toNat_natCast]
  have hi := a3.lt
  obtain ⟨acc, h2, e1, ⟨p1, p2, p3, p4⟩, g1⟩ := lc_loop (it := it1R 0 r) (c := .one 7) (t := gYes) (e := gCall mThing [] 1 (gCons (gVar 0) (gNil))) (D := h1.n) (mw := m.set 7 none) (N := r) (by omega)
    (fun j acc h' => Box h' i (f + 1 + 3 * (j : Nat)) ∧ Kp [i] h1 h' ∧ acc.length = j ∧ ∀ x ∈ acc, atB x = true) (fun _ _ _ => rng_end) (fun j acc h' hj ⟨q1, q2, q3, q4⟩ g => by
      obtain ⟨x, h3, t1, t2, t3, t4⟩ := thing_ok q1 (by omega)
      have hD : h1.n ∉ [i] := by simp; omega
      have g3 := t4.at g hD
      refine ⟨.int (j : Nat), (m.set 7 none).set 7 (some (.int (j : Nat))), h', true, h', rng_at0 hj, rfl, rfl, (fun z => nomatch z), fun _ => ⟨x, h3, ?_, g3, ?_, (q2.trans t4).set_new (Nat.le_refl _) g3, by simp [q3], fun y hy => ?_⟩⟩
      · have e7 : ((m.set 7 none).set 7 (some (.int (j : Nat))))[0]? = some (some (.ref i)) := by
          rw [List.getElem?_set_ne (by decide), List.getElem?_set_ne (by decide)]; exact e0
        exact (call1 (n := 1) (var_at e7) rfl).trans t1
      · obtain ⟨a, s, e, z1, z2, z3⟩ := t3
        exact ⟨a, s, e, by rw [set_ne g3 (by omega)]; exact z1, z2, by omega⟩
      · rcases List.mem_append.mp hy with hy | hy
        · exact q4 y hy
        · rw [List.mem_singleton.mp hy]; exact t2)
    (r + 1) 0 [] (h1.push (.lst [])) (by omega) (Nat.zero_le _) (by simp) ⟨(a3.up Up.push).le (by omega), Up.push.kp, rfl, by simp⟩ get_top
  refine ⟨acc, h1.n, h2, ?_, g1, by omega, p4, p1.le (by omega), a4.trans p2, by omega⟩
  unfold eRow gLc
  rw [rg]
  exact e1
/-- the cells of a page are told -/
def bFill : MS := gAsg (gVar 5) (tgSub (gVar 2) (gBin mAdd (gBin mMulA (gC (.int 8)) (gVar 6)) (gVar 1)))
theorem fill_ok {h : MH} {k L D t : Nat} {xs : List MV} {P : List (List MV)} {K : List (Int × MV)} {A o1 o3 o4 o5 o7 : Option MV} (a : Kn h k K L) (hL : L + 8 < 1000000) (g : h.get D = some (.lst xs)) (hl : xs.length ≤ 8) (hx : ∀ x ∈ xs, atB x = true)
    (e : ∀ c, kget K c = pget P c) (ht : P.length = t) (hk : ∀ p ∈ K, p.1 < 8 * (t : Nat)) (e3 : o3 = some (.ref D)) :
    ∃ h' K' p1 p5, gFor (gEnumA (gVar 3)) (tgTup [1, 5]) bFill [A, o1, some (.ref k), o3, o4, o5, some (.int (t : Nat)), o7] h = .nx [A, p1, some (.ref k), o3, o4, p5, some (.int (t : Nat)), o7] h' ∧ Kn h' k K' (L + 8) ∧ (∀ c, kget K' c = pget (P ++ [xs]) c) ∧ Kp [k] h h' ∧ ∀ p ∈ K', p.1 < 8 * ((t + 1 : Nat) : Int) := by
  subst e3
  have kD : D ≠ k := fun z => by have := a.at_; rw [← z, g] at this; cases this
  obtain ⟨it, i1, i2, i3⟩ := enum_it (.ref g : Sq h (.ref D) xs)
  obtain ⟨m', h', q1, K', p1, p5, q2, q3, q4, q5, q6⟩ := for_loop (it := it) (t := tgTup [1, 5]) (b := bFill) (N := xs.length)
    (fun j m h' => ∃ K' p1 p5, m = [A, p1, some (.ref k), some (.ref D), o4, p5, some (.int (t : Nat)), o7] ∧ Kn h' k K' (L + j) ∧ (∀ c, kget K' c = pget (P ++ [xs.take j]) c) ∧ Kp [k] h h' ∧ ∀ p ∈ K', p.1 < 8 * ((t + 1 : Nat) : Int))
    (fun m h' ⟨_, _, _, _, _, _, q, _⟩ => by rw [i3 h' (.ref (q.at g (by simpa using kD))), List.getElem?_eq_none (Nat.le_refl _)]; rfl)
    (fun j m h' hj ⟨K', p1, p5, em, q1, q2, q3, q4⟩ => by
      subst em
      have hv : xs[j]? = some xs[j] := List.getElem?_eq_getElem hj
      have c8 : cMul 8 (t : Int) = true := cm_l (by decide)
      have v1 : ∀ h, gVar 1 [A, some (.int (j : Nat)), some (.ref k), some (.ref D), o4, some xs[j], some (.int (t : Nat)), o7] h = .ok (.int (j : Nat)) h := fun h => rfl
      have v6 : ∀ h, gVar 6 [A, some (.int (j : Nat)), some (.ref k), some (.ref D), o4, some xs[j], some (.int (t : Nat)), o7] h = .ok (.int (t : Nat)) h := fun h => rfl
      obtain ⟨s1, s2⟩ := kset_ok (m := [A, some (.int (j : Nat)), some (.ref k), some (.ref D), o4, some xs[j], some (.int (t : Nat)), o7]) (d := gVar 2) (e := gBin mAdd (gBin mMulA (gC (.int 8)) (gVar 6)) (gVar 1)) (c := 8 * (t : Nat) + (j : Nat)) (v := xs[j]) q1 (by omega) rfl
        (by simp [gBin, gC, v1, v6, Out.bind, mMulA, isTup, isStr, mMulV, isRep, mMul, mIc, c8, mAdd]) (by omega) (hx _ (List.getElem_mem hj))
      refine ⟨.tup [.int (j : Nat), xs[j]], [A, some (.int (j : Nat)), some (.ref k), some (.ref D), o4, some xs[j], some (.int (t : Nat)), o7], h', [A, some (.int (j : Nat)), some (.ref k), some (.ref D), o4, some xs[j], some (.int (t : Nat)), o7], _, by rw [i3 h' (.ref (q3.at g (by simpa using kD))), hv]; rfl, rfl, ?_, kput (8 * (t : Nat) + (j : Nat)) xs[j] K', some (.int (j : Nat)), some xs[j], rfl, s2, fun c => ?_, q3.trans (Kp.set (MH.get_lt q1.at_) (by simp)), fun p hp => ?_⟩
      · show gAsg (gVar 5) (tgSub (gVar 2) (gBin mAdd (gBin mMulA (gC (.int 8)) (gVar 6)) (gVar 1))) _ h' = _
        have v5 : gVar 5 [A, some (.int (j : Nat)), some (.ref k), some (.ref D), o4, some xs[j], some (.int (t : Nat)), o7] h' = .ok xs[j] h' := rfl
        unfold gAsg
        rw [v5]
        simp only [Out.bindS, s1, SO.only]
      · rw [kget_kput, q2, pget_snoc, pget_snoc, ht]
        by_cases z : c = 8 * (t : Nat) + (j : Nat)
        · rw [if_pos z, if_pos (by omega), List.getElem?_take, if_pos (by omega)]
          have : (c % 8).toNat = j := by omega
          rw [this, hv]; rfl
        · rw [if_neg z]
          by_cases y : c / 8 = (t : Nat)
          · rw [if_pos y, if_pos y, List.getElem?_take, List.getElem?_take]
            by_cases w : (c % 8).toNat < j
            · rw [if_pos w, if_pos (by omega)]
            · rw [if_neg w, if_neg (by omega)]
          · rw [if_neg y, if_neg y]
      · rcases kput_keys K' p hp with z | ⟨p', z1, z2⟩
        · rw [z]; omega
        · rw [← z2]; exact q4 p' z1)
    (xs.length + 1) 0 [A, o1, some (.ref k), some (.ref D), o4, o5, some (.int (t : Nat)), o7] h (by omega) (Nat.zero_le _) ⟨K, o1, o5, rfl, a, fun c => by
      rw [e, pget_snoc]
      by_cases y : c / 8 = (P.length : Nat)
      · rw [if_pos y]
        show pget P c = .non
        unfold pget
        rw [y, Int.toNat_natCast, List.getElem?_eq_none (Nat.le_refl _)]
        split <;> rfl
      · rw [if_neg y], .refl, fun p hp => by have := hk p hp; omega⟩
  rw [List.take_of_length_le (Nat.le_refl _)] at q4
  subst q2
  refine ⟨h', K', p1, p5, ?_, ⟨q3.at_, q3.nd, Nat.le_trans q3.len (by omega), q3.pos, q3.ok⟩, q4, q5, q6⟩
  unfold gFor
  rw [i1 _ (gVar 3) rfl]
  simp only [Out.bindS]
  rw [i2]
  exact q1
end XM
set_option Elab.async false
set_option linter.all false
set_option maxRecDepth 100000
set_option maxHeartbeats 4000000
namespace XM
open MI XG
open L2 (atI ixN)
/-- the list of pages at sl -/
structure Pg (h : MH) (sl : Nat) (vs : List MV) (P : List (List MV)) (lo : Nat) : Prop where
  at_ : h.get sl = some (.lst vs)
  len : vs.length = P.length
  sq : ∀ (j : Nat) v xs, vs[j]? = some v → P[j]? = some xs → Sq h v xs
  fresh : ∀ v ∈ vs, ∀ q, v = .ref q → lo ≤ q
  ok : ∀ xs ∈ P, xs.length ≤ 8 ∧ ∀ x ∈ xs, atB x = true
theorem Pg.kp {h h' : MH} {sl lo : Nat} {vs : List MV} {P : List (List MV)} {F : List Nat} (a : Pg h sl vs P lo) (k : Kp F h h') (s : sl ∉ F) (l : ∀ j ∈ F, j < lo) : Pg h' sl vs P lo :=
  ⟨k.at a.at_ s, a.len, fun j v xs e1 e2 => (a.sq j v xs e1 e2).kp k fun q e z => by have := a.fresh v (List.mem_of_getElem? e1) q e; have := l q z; omega, a.fresh, a.ok⟩
def eApp : ME := gBM "list" lApp (gVar 4) (gCons (gIf (gB (gBin mEqA (gCall mTake [] 2 (gCons (gVar 0) (gCons (gC (.int 2)) (gNil)))) (gC (.int 0)))) (gVar 3) (gCB (f1 mTuple) (gCons (gVar 3) (gNil)))) (gNil))
theorem app_ok {h : MH} {i sl D : Nat} {f : Int} {m : ML} {vs xs : List MV} (b : Box h i f) (hf : f + 1 < 1000000000000) (e0 : m[0]? = some (some (.ref i))) (e3 : m[3]? = some (some (.ref D))) (e4 : m[4]? = some (some (.ref sl))) (g : h.get D = some (.lst xs)) (gs : h.get sl = some (.lst vs)) (hl : vs.length < 100)
    (hD : D ≠ i) (hs : sl ≠ i) : ∃ v h', eApp m h = .ok .non (h'.set sl (.lst (vs ++ [v]))) ∧ Kp [i] h h' ∧ Box h' i (f + 1) ∧ Sq h' v xs ∧ (∀ q, v = .ref q → q = D) ∧ h'.get sl = some (.lst vs) := by
  obtain ⟨r, h1, a1, a2, a3, a4, a5⟩ := tk_ok 2 b (by decide) (by decide) (by omega)
  have v3 : gVar 3 m h1 = .ok (.ref D) h1 := var_at e3
  have v4 : gVar 4 m h = .ok (.ref sl) h := var_at e4
  have c1 : gCall mTake [] 2 (gCons (gVar 0) (gCons (gC (.int 2)) (gNil))) m h = .ok (.int (r : Nat)) h1 := (call2 (n := 2) (var_at e0) rfl rfl).trans a2
  have gs1 := a4.at gs (by simpa using hs)
  have gD1 := a4.at g (by simpa using hD)
  have cd : gB (gBin mEqA (gCall mTake [] 2 (gCons (gVar 0) (gCons (gC (.int 2)) (gNil)))) (gC (.int 0))) m h = .ok (decide ((r : Int) = 0)) h1 := by
    simp [gB, gBin, c1, Out.bind, gC, mEqA, isRow, mEqV, mEq, oB]
  have ty : isTy h "list" (.ref sl) = true := by simp [isTy, gs]
  by_cases z : (r : Int) = 0
  · rw [decide_eq_true z] at cd
    have iv : gIf (gB (gBin mEqA (gCall mTake [] 2 (gCons (gVar 0) (gCons (gC (.int 2)) (gNil)))) (gC (.int 0)))) (gVar 3) (gCB (f1 mTuple) (gCons (gVar 3) (gNil))) m h = .ok (.ref D) h1 := by
      simp [gIf, cd, Out.bind, v3]
    refine ⟨.ref D, h1, ?_, a4, a3, .ref gD1, fun q e => by cases e; rfl, gs1⟩
    unfold eApp
    simp only [gBM, v4, Out.bind, ty, if_pos, gCons, iv, gNil, lApp, gs1]
    rw [if_pos (by omega)]
  · rw [decide_eq_false z] at cd
    have iv : gIf (gB (gBin mEqA (gCall mTake [] 2 (gCons (gVar 0) (gCons (gC (.int 2)) (gNil)))) (gC (.int 0)))) (gVar 3) (gCB (f1 mTuple) (gCons (gVar 3) (gNil))) m h = .ok (.tup xs) h1 := by
      have t := (Sq.ref gD1 : Sq h1 (.ref D) xs).tuple
      simp [gIf, cd, Out.bind, gCB, gCons, gNil, v3, f1, t]
    refine ⟨.tup xs, h1, ?_, a4, a3, .tup _, fun q e => (by cases e), gs1⟩
    unfold eApp
    simp only [gBM, v4, Out.bind, ty, if_pos, gCons, iv, gNil, lApp, gs1]
    rw [if_pos (by omega)]
def bTurn : MS := gSeq (gAsg eRow (tgName 3)) (gSeq (gFor (gEnumA (gVar 3)) (tgTup [1, 5]) bFill) (gExpr eApp))
def mBegun : MF := gBody 8 (gSeq (gPar 4 2 (gCons (gLst (gNil)) (gCons (gDic) (gNil)))) (gSeq (gFor (gRng1 (gCall mTake [] 2 (gCons (gVar 0) (gCons (gC (.int 5)) (gNil))))) (tgName 6) bTurn) (gRet (gTup (gCons (gVar 4) (gCons (gVar 2) (gNil)))))))
theorem begun_ok {h : MH} {i : Nat} {f : Int} (b : Box h i f) (hf : f + 1000 < 1000000000000) :
    ∃ h' vs P K, mBegun [.ref i] h = .ok (.tup [.ref h.n, .ref (h.n + 1)]) h' ∧ Pg h' h.n vs P (h.n + 2) ∧ P.length ≤ 4 ∧ Kn h' (h.n + 1) K 40 ∧ (∀ c, kget K c = pget P c) ∧ Box h' i (f + 200) ∧ Kp [i] h h' ∧ ∀ p ∈ K, p.1 < 100 := by
  have hi := b.lt
  have u0 : Up h ((h.push (.lst [])).push (.dic [])) := Up.push.trans Up.push
  have gs0 : ((h.push (.lst [])).push (.dic [])).get h.n = some (.lst []) := Up.push.at get_top
  have gk0 : ((h.push (.lst [])).push (.dic [])).get (h.n + 1) = some (.dic []) := get_top
  have s1 : gPar 4 2 (gCons (gLst (gNil)) (gCons (gDic) (gNil))) [some (.ref i), none, none, none, none, none, none, none] h = .nx [some (.ref i), none, some (.ref (h.n + 1)), none, some (.ref h.n), none, none, none] ((h.push (.lst [])).push (.dic [])) := rfl
  obtain ⟨r, h1, a1, a2, a3, a4, a5⟩ := tk_ok 5 (b.up u0) (by decide) (by decide) (by omega)
  have rg : gRng1 (gCall mTake [] 2 (gCons (gVar 0) (gCons (gC (.int 5)) (gNil)))) [some (.ref i), none, some (.ref (h.n + 1)), none, some (.ref h.n), none, none, none] ((h.push (.lst [])).push (.dic [])) = .ok (it1R 0 r) h1 := by
    have c1 : gCall mTake [] 2 (gCons (gVar 0) (gCons (gC (.int 5)) (gNil))) [some (.ref i), none, some (.ref (h.n + 1)), none, some (.ref h.n), none, none, none] ((h.push (.lst [])).push (.dic [])) = .ok (.int (r : Nat)) h1 := (call2 (n := 2) (var_at rfl) rfl rfl).trans a2
    simp only [gRng1, c1, Out.bind]
    rw [if_pos (by omega), Int.toNat_natCast]
  obtain ⟨m', h', e1, vs, P, K, o1, o3, o5, o6, o7, rfl, q1, q2, q3, q4, q5, q6, q7⟩ := for_loop (it := it1R 0 r) (t := tgName 6) (b := bTurn) (N := r)
    (fun j m h' => ∃ vs P K o1 o3 o5 o6 o7, m = [some (.ref i), o1, some (.ref (h.n + 1)), o3, some (.ref h.n), o5, o6, o7] ∧ Pg h' h.n vs P (h.n + 2) ∧ P.length = j ∧ Kn h' (h.n + 1) K (8 * j) ∧ (∀ c, kget K c = pget P c) ∧ Box h' i (f + 1 + 26 * (j : Nat)) ∧ Kp [i] h h' ∧ ∀ p ∈ K, p.1 < 8 * (j : Nat))
    (fun _ _ _ => rng_end)
    (fun j m hj hjr ⟨vs, P, K, o1, o3, o5, o6, o7, em, q1, q2, q3, q4, q5, q6, q7⟩ => by
      subst em
      obtain ⟨xs, D, h2, r1, r2, r3, r4, r5, r6, r7⟩ := row_ok (m := [some (.ref i), o1, some (.ref (h.n + 1)), o3, some (.ref h.n), o5, some (.int (j : Nat)), o7]) q5 rfl (by omega)
      have hn : h.n ≤ hj.n := q6.n
      have kl := MH.get_lt q3.at_
      have p1 := q1.kp r6 (by simp; omega) (fun j hj => by rw [List.mem_singleton.mp hj]; omega)
      have k1 : Kn h2 (h.n + 1) K (8 * j) := q3.frame (r6.get _ kl (by simp; omega))
      obtain ⟨h3, K3, p1', p5', f1', f2, f3, f4, f5⟩ := fill_ok (A := some (.ref i)) (o1 := o1) (o3 := some (.ref D)) (o4 := some (.ref h.n)) (o5 := o5) (o7 := o7) k1 (by omega) r2 r3 r4 q4 q2 q7 rfl
      have p2 := p1.kp f4 (by simp) (fun j hj => by rw [List.mem_singleton.mp hj]; omega)
      have kD : D ≠ h.n + 1 := fun z => by have := k1.at_; rw [← z, r2] at this; cases this
      have gD3 := f4.at r2 (by simpa using kD)
      have b3 : Box h3 i (f + 1 + 26 * (j : Nat) + 25) := r5.kp f4 (by simp; omega)
      have sD : D ≠ h.n := fun z => by have := MH.get_lt q1.at_; omega
      obtain ⟨v, h4, t1, t2, t3, t4, t5, t6⟩ := app_ok (m := [some (.ref i), p1', some (.ref (h.n + 1)), some (.ref D), some (.ref h.n), p5', some (.int (j : Nat)), o7]) b3 (by omega) rfl rfl rfl gD3 p2.at_ (by rw [p2.len, q2]; omega) (by omega) (by omega)
      have p4 := p2.kp t2 (by simp; omega) (fun j hj => by rw [List.mem_singleton.mp hj]; omega)
      have K4 : Kn h4 (h.n + 1) K3 (8 * j + 8) := f2.frame (t2.get _ (MH.get_lt f2.at_) (by simp; omega))
      have ks : Kp [h.n] h4 (h4.set h.n (.lst (vs ++ [v]))) := Kp.set (MH.get_lt t6) (by simp)
      refine ⟨.int (j : Nat), _, hj, [some (.ref i), p1', some (.ref (h.n + 1)), some (.ref D), some (.ref h.n), p5', some (.int (j : Nat)), o7], _, rng_at0 hjr, rfl, ?_, vs ++ [v], P ++ [xs], K3, p1', some (.ref D), p5', _, o7, rfl, ⟨set_get t6, by simp [p4.len], fun l w ys e1 e2 => ?_, fun w hw q e => ?_, fun ys hys => ?_⟩, by simp [q2], ?_, f3, ?_, ?_, f5⟩
      · exact (seq_nx (asg_nx r1)).trans ((seq_nx f1').trans (expr_nx t1))
      · by_cases hl : l < vs.length
        · rw [List.getElem?_append_left hl] at e1
          rw [List.getElem?_append_left (by rw [← p4.len]; exact hl)] at e2
          refine (p4.sq l w ys e1 e2).kp ks fun q e z => ?_
          have := p4.fresh w (List.mem_of_getElem? e1) q e
          rw [List.mem_singleton.mp z] at this
          omega
        · have l1 : l = vs.length := by
            have := (List.getElem?_eq_some_iff.mp e1).1
            simp at this; omega
          subst l1
          rw [List.getElem?_append_right (Nat.le_refl _)] at e1
          rw [p4.len, List.getElem?_append_right (Nat.le_refl _)] at e2
          simp at e1 e2
          subst e1 e2
          exact t4.kp ks fun q e z => sD (by rw [← t5 q e]; exact List.mem_singleton.mp z)
      · rcases List.mem_append.mp hw with hw | hw
        · exact p4.fresh w hw q e
        · rw [List.mem_singleton.mp hw] at e
          rw [t5 q e]
          omega
      · rcases List.mem_append.mp hys with hys | hys
        · exact p4.ok ys hys
        · rw [List.mem_singleton.mp hys]; exact ⟨r3, r4⟩
      · refine ⟨?_, K4.nd, by have := K4.len; omega, K4.pos, K4.ok⟩
        rw [set_ne t6 (by omega)]; exact K4.at_
      · exact (t3.kp ks (by simp; omega)).le (by omega)
      · refine ⟨?_, fun l hl hf => ?_⟩
        · have a := r6.n
          have b := f4.n
          have c := t2.n
          show h.n ≤ h4.n
          omega
        · have li : l ≠ i := by simpa using hf
          have a := r6.n
          have c := f4.n
          rw [set_ne t6 (by omega), t2.get l (by omega) (by simpa using li), f4.get l (by omega) (by simp; omega), r6.get l (by omega) (by simpa using li), q6.get l hl hf])
    (r + 1) 0 [some (.ref i), none, some (.ref (h.n + 1)), none, some (.ref h.n), none, none, none] h1 (by omega) (Nat.zero_le _)
    ⟨[], [], [], none, none, none, none, none, rfl, ⟨a4.at gs0 (by simp; omega), rfl, fun j v xs e => (by simp at e), fun v hv => (by cases hv), fun v hv => (by cases hv)⟩, rfl, ⟨a4.at gk0 (by simp; omega), List.nodup_nil, Nat.le_refl _, fun p hp => (by cases hp), fun p hp => (by cases hp)⟩, fun c => by unfold kget pget; split <;> rfl, a3.le (by omega), u0.kp.trans a4, fun p hp => (by cases hp)⟩
  refine ⟨h', vs, P, K, body_rt ((seq_nx s1).trans ((seq_nx (?_ : _ = SO.nx [some (.ref i), o1, some (.ref (h.n + 1)), o3, some (.ref h.n), o5, o6, o7] h')).trans ?_)), q1, by omega, ⟨q3.at_, q3.nd, Nat.le_trans q3.len (by omega), q3.pos, q3.ok⟩, q4, q5.le (by omega), q6, fun p hp => by have := q7 p hp; omega⟩
  · unfold gFor
    rw [rg]
    exact e1
  · rfl
end XM
set_option Elab.async false
set_option linter.all false
set_option maxRecDepth 100000
set_option maxHeartbeats 4000000
namespace XM
open MI XG PySem
open L2 (atI ixN)
/-- small data: its depth, its bulk -/
structure Dk (k B : Nat) (d : PyData) : Prop where
  s : d.showable = true
  nd : d.hasDict = false
  dp : d.depth ≤ k
  ls : d.leavesShort 60 = true
  bk : d.bulk ≤ B
  eq : ∀ n, k < n → dEq n d d = true
theorem Dk.le {k k' B B' : Nat} {d : PyData} (a : Dk k B d) (h1 : k ≤ k') (h2 : B ≤ B') : Dk k' B' d := ⟨a.s, a.nd, Nat.le_trans a.dp h1, a.ls, Nat.le_trans a.bk h2, fun n hn => a.eq n (by omega)⟩
theorem Dk.okA {k B : Nat} {d : PyData} (a : Dk k B d) (h1 : k ≤ 60) (h2 : B ≤ 262144) : dOkA d = true := by
  unfold dOkA
  rw [a.s, a.nd, a.ls, decide_eq_true (Nat.le_trans a.dp h1), decide_eq_true (Nat.le_trans a.bk h2)]
  rfl
def aD : MV → PyData
  | .non => .none
  | .int i => .int i
  | .str s => .str ⟨s.toArray⟩
  | _ => .none
theorem leq_refl : ∀ l : List Nat, leq l l = true := fun l => leq_iff.mpr rfl
theorem aD_ok {x : MV} (a : atB x = true) : Dk 0 20 (aD x) := by
  cases x with
  | non => exact ⟨rfl, rfl, Nat.le_refl _, rfl, Nat.zero_le _, fun n hn => by cases n with | zero => omega | succ n => rfl⟩
  | int i =>
    have hi : i.natAbs < 100000000000000000000000000000000000000000000000000 := of_decide_eq_true a
    refine ⟨?_, rfl, Nat.le_refl _, ?_, Nat.zero_le _, fun n hn => by cases n with | zero => omega | succ n => exact decide_eq_true rfl⟩
    · show decide (i.natAbs.log2 < 1920) = true
      refine decide_eq_true (iSmall_ok ?_)
      unfold iSmall
      exact decide_eq_true (by omega)
    · show decide ((PyData.shown (.int i)).length ≤ 60) = true
      refine decide_eq_true ?_
      have e : PyData.shown (.int i) = Str.ofString (toString i) := by simp only [PyData.shown]
      rw [e]
      have a := int_text_length_le10 (a := i) (k := 50) (by decide) (by have : (10 : Nat) ^ 50 = 100000000000000000000000000000000000000000000000000 := by decide +kernel
                                                                        omega)
      have b : (Str.ofString (toString i)).length = (toString i).length := by
        rw [ofS]
        show ((toString i).toList.map Char.toNat).toArray.size = _
        simp only [List.size_toArray, List.length_map]
        first | rfl | exact String.length_toList | exact (toString i).length_toList
      omega
  | str s =>
    have a' : (decide (s.length ≤ 20) && s.all fun c => decide (c < 1114112)) = true := a
    simp only [Bool.and_eq_true, decide_eq_true_eq, List.all_eq_true] at a'
    refine ⟨rfl, rfl, Nat.le_refl _, ?_, ?_, fun n hn => by cases n with | zero => omega | succ n => exact leq_refl _⟩
    · show (s.toArray.toList.all fun c => decide (c < 16 ^ 8)) = true
      simp only [List.all_eq_true, decide_eq_true_eq]
      intro c hc
      have := a'.2 c (by simpa using hc)
      have e : (16 : Nat) ^ 8 = 4294967296 := by decide
      omega
    · show s.toArray.size ≤ 20
      simpa using a'.1
  | _ => cases a
theorem all_ok {k B : Nat} : ∀ {ds : List PyData}, (∀ d ∈ ds, Dk k B d) → PyData.showableAll ds = true ∧ PyData.hasDictAll ds = false ∧ PyData.depthAll ds ≤ k ∧ PyData.leavesShortAll 60 ds = true ∧ PyData.bulkAll ds ≤ ds.length * (B + 1) ∧ ∀ n, k < n → allEq (dEq n) ds ds = true
  | [], _ => ⟨rfl, rfl, Nat.zero_le _, rfl, Nat.zero_le _, fun _ _ => rfl⟩
  | d :: ds, h => by
    have a := h d List.mem_cons_self
    obtain ⟨h1, h2, h3, h4, h5, h6⟩ := all_ok fun d hd => h d (List.mem_cons_of_mem _ hd)
    refine ⟨?_, ?_, ?_, ?_, ?_, fun n hn => ?_⟩
    · simp only [PyData.showableAll, a.s, h1, Bool.and_self]
    · simp only [PyData.hasDictAll, a.nd, h2, Bool.or_self]
    · simp only [PyData.depthAll]; exact Nat.max_le.mpr ⟨a.dp, h3⟩
    · simp only [PyData.leavesShortAll, a.ls, h4, Bool.and_self]
    · simp only [PyData.bulkAll, List.length_cons, Nat.add_mul]
      have := a.bk
      omega
    · show (dEq n d d && allEq (dEq n) ds ds) = true
      rw [a.eq n hn, h6 n hn]; rfl
theorem Dk.list {k B n : Nat} {ds : List PyData} (h : ∀ d ∈ ds, Dk k B d) (hn : ds.length ≤ n) : Dk (k + 1) (n * (B + 1)) (.list ds) := by
  obtain ⟨h1, h2, h3, h4, h5, h6⟩ := all_ok h
  refine ⟨by simpa only [PyData.showable] using h1, by simpa only [PyData.hasDict] using h2, by simp only [PyData.depth]; omega, by simpa only [PyData.leavesShort] using h4, by simp only [PyData.bulk]; exact Nat.le_trans h5 (Nat.mul_le_mul_right _ hn), fun m hm => ?_⟩
  cases m with
  | zero => omega
  | succ m => exact h6 m (by omega)
theorem Dk.tuple {k B n : Nat} {ds : List PyData} (h : ∀ d ∈ ds, Dk k B d) (hn : ds.length ≤ n) : Dk (k + 1) (n * (B + 1)) (.tuple ds) := by
  obtain ⟨h1, h2, h3, h4, h5, h6⟩ := all_ok h
  refine ⟨by simpa only [PyData.showable] using h1, by simpa only [PyData.hasDict] using h2, by simp only [PyData.depth]; omega, by simpa only [PyData.leavesShort] using h4, by simp only [PyData.bulk]; exact Nat.le_trans h5 (Nat.mul_le_mul_right _ hn), fun m hm => ?_⟩
  cases m with
  | zero => omega
  | succ m => exact h6 m (by omega)
theorem toD_at {h : MH} {x : MV} {n : Nat} (a : atB x = true) : toD h (n + 1) x = some (aD x) := by cases x <;> first | rfl | cases a
theorem allD_map {f : MV → Option PyData} {g : MV → PyData} : ∀ {xs : List MV}, (∀ x ∈ xs, f x = some (g x)) → allD f xs = some (xs.map g)
  | [], _ => rfl
  | x :: xs, h => by
    have e1 := h x List.mem_cons_self
    have e2 := allD_map fun y hy => h y (List.mem_cons_of_mem _ hy)
    simp only [allD, e1, e2, List.map_cons]
theorem toD_tup {h : MH} {xs : List MV} {g : MV → PyData} {n : Nat} (k : ∀ x ∈ xs, toD h n x = some (g x)) : toD h (n + 1) (.tup xs) = some (.tuple (xs.map g)) := by
  show (allD (toD h n) xs).map PyData.tuple = _
  rw [allD_map k]; rfl
theorem toD_lst {h : MH} {q : Nat} {xs : List MV} {g : MV → PyData} {n : Nat} (e : h.get q = some (.lst xs)) (k : ∀ x ∈ xs, toD h n x = some (g x)) : toD h (n + 1) (.ref q) = some (.list (xs.map g)) := by
  show (match h.get q with
      | some (.lst xs) => (allD (toD h n) xs).map PyData.list
      | _ => none) = _
  rw [e]
  dsimp only
  rw [allD_map k]; rfl
def mSame : MF := gBody 2 (gRet (gSameA (gVar 0) (gVar 1)))
theorem same_ok {h : MH} {x y : MV} {d : PyData} {k B : Nat} (rx : isRow x = true) (ry : isRow y = true) (ex : toD h 61 x = some d) (ey : toD h 61 y = some d) (a : Dk k B d) (h1 : k ≤ 60) (h2 : B ≤ 262144) : mSame [x, y] h = .ok (.bl true) h := by
  have o := a.okA h1 h2
  have v0 : ∀ h, gVar 0 [some x, some y] h = .ok x h := fun h => rfl
  have v1 : ∀ h, gVar 1 [some x, some y] h = .ok y h := fun h => rfl
  refine body_rt (v := .bl true) (h' := h) ?_
  show gRet (gSameA (gVar 0) (gVar 1)) [some x, some y] h = _
  simp only [gRet, gSameA, v0, v1, Out.bind, rx, ry, ex, ey, if_pos, o, a.eq 61 (by omega), and_self, Out.bindS]
theorem same_int {h : MH} {i : Int} (hi : iSmall i = true) : mSame [.int i, .int i] h = .ok (.bl true) h := by
  have v0 : ∀ h, gVar 0 [some (.int i), some (.int i)] h = .ok (.int i) h := fun h => rfl
  have v1 : ∀ h, gVar 1 [some (.int i), some (.int i)] h = .ok (.int i) h := fun h => rfl
  have e : eqS (.int i) (.int i) = true := by simp [eqS, hi]
  refine body_rt (v := .bl true) (h' := h) ?_
  show gRet (gSameA (gVar 0) (gVar 1)) [some (.int i), some (.int i)] h = _
  simp [gRet, gSameA, v0, v1, Out.bind, isRow, e, Out.bindS]
theorem repr_ok {h : MH} {x : MV} {d : PyData} {k B : Nat} (rx : isRow x = true) (ex : toD h 61 x = some d) (a : Dk k B d) (h1 : k ≤ 60) (h2 : B ≤ 262144) : mRepr x h = .ok (.str d.shown.cps.toList) h := by
  obtain ⟨f1, f2, f3, f4⟩ := fineA_of (a.okA h1 h2)
  rw [sizeLine_eq] at f4
  unfold mRepr
  rw [if_pos rx, ex]
  dsimp only
  rw [if_pos ⟨f1, f2, f3, f4⟩]
end XM
set_option Elab.async false
set_option linter.all false
set_option maxRecDepth 100000
set_option maxHeartbeats 4000000
namespace XM
open MI XG PySem
open L2 (atI ixN)
def row1 (x : MV) : Prop := atB x = true ∨ ∃ xs, x = .tup xs ∧ xs.length ≤ 8 ∧ ∀ y ∈ xs, atB y = true
def gD : MV → PyData
  | .tup xs => .tuple (xs.map aD)
  | x => aD x
theorem gD_ok {x : MV} (a : row1 x) : (∀ h n, toD h (n + 2) x = some (gD x)) ∧ Dk 1 168 (gD x) := by
  rcases a with a | ⟨xs, rfl, l, a⟩
  · have e : gD x = aD x := by cases x <;> first | rfl | cases a
    rw [e]
    exact ⟨fun h n => toD_at a, (aD_ok a).le (by decide) (by decide)⟩
  · refine ⟨fun h n => toD_tup fun y hy => toD_at (a y hy), ?_⟩
    exact Dk.tuple (k := 0) (B := 20) (n := 8) (fun d hd => by obtain ⟨y, hy, rfl⟩ := List.mem_map.mp hd; exact aD_ok (a y hy)) (by simpa using l)
theorem lists_same {h : MH} {p q : Nat} {E : List MV} (g1 : h.get p = some (.lst E)) (g2 : h.get q = some (.lst E)) (a : ∀ x ∈ E, row1 x) (l : E.length ≤ 100) : mSame [.ref p, .ref q] h = .ok (.bl true) h := by
  refine same_ok (k := 2) (B := 100 * (168 + 1)) rfl rfl (toD_lst (g := gD) g1 fun x hx => (gD_ok (a x hx)).1 h 58) (toD_lst (g := gD) g2 fun x hx => (gD_ok (a x hx)).1 h 58) (Dk.list (fun d hd => ?_) (by simpa using l)) (by decide) (by decide)
  obtain ⟨x, hx, rfl⟩ := List.mem_map.mp hd
  exact (gD_ok (a x hx)).2
theorem trim_row {xs : List MV} (l : xs.length ≤ 8) (a : ∀ x ∈ xs, atB x = true) : row1 (.tup (trim xs)) :=
  .inr ⟨_, rfl, by unfold trim; rw [List.length_take]; omega, fun y hy => a y (List.mem_of_mem_take hy)⟩
/-- a list of what e makes of each, e growing the heap alone -/
theorem comp_up {gi : MI1} {it : It1} {ws : List MV} {m : ML} {h : MH} {sl : Nat} {e : ME} {F : MV → MV} (ev : gi m h = .ok it h) (hsz : it.size h = ws.length) (hw : ws.length < 1000) (hat : ∀ h', Up h h' → ∀ j : Nat, it.at_ j h' = some ws[j]?)
    (he : ∀ x ∈ ws, ∀ h', Up h h' → ∃ h2, e ((m.set sl none).set sl (some x)) h' = .ok (F x) h2 ∧ Up h' h2) :
    ∃ h', gLc gi (.one sl) gYes e [sl] m h = .ok (.ref h.n) h' ∧ h'.get h.n = some (.lst (ws.map F)) ∧ Up h h' := by
  obtain ⟨acc, h1, e1, ⟨u1, rfl⟩, g1⟩ := lc_loop (it := it) (c := .one sl) (t := gYes) (e := e) (D := h.n) (mw := m.set sl none) (N := ws.length) (by omega)
    (fun j acc h' => Up h h' ∧ acc = (ws.take j).map F) (fun acc h' p => by rw [hat h' p.1, List.getElem?_eq_none (Nat.le_refl _)]) (fun j acc h' hj p g => by
      obtain ⟨u, rfl⟩ := p
      have hx : ws[j]? = some ws[j] := List.getElem?_eq_getElem hj
      obtain ⟨h2, a1, a2⟩ := he _ (List.getElem_mem hj) h' u
      have g2 := a2.at g
      refine ⟨ws[j], (m.set sl none).set sl (some ws[j]), h', true, h', by rw [hat h' u, hx], rfl, rfl, (fun z => nomatch z), fun _ => ⟨F ws[j], h2, a1, g2, (u.trans a2).set (Nat.le_refl _) g2, ?_⟩⟩
      rw [List.take_succ, hx, List.map_append]; rfl)
    (ws.length + 1) 0 [] (h.push (.lst [])) (by omega) (Nat.zero_le _) (by simp) ⟨Up.push, rfl⟩ get_top
  rw [List.take_of_length_le (Nat.le_refl _)] at g1
  refine ⟨h1, ?_, g1, u1⟩
  unfold gLc
  rw [ev]
  simp only [Out.bind]
  rw [hsz]
  exact e1
/-- the state between two turns -/
structure St (C : Nat) (h0 : MH) (i : Nat) (h : MH) (s r b k : Nat) (R : Rows) (K : List (Int × MV)) (L : Nat) (f : Int) : Prop where
  mem : MemW C h s r b R L
  ne : Ne R
  kn : Kn h k K L
  eq : ∀ c, rget R c = kget K c
  box : Box h i f
  kf : k ∉ fp s r b R
  lo : ∀ j ∈ fp s r b R, h0.n ≤ j
  lok : h0.n ≤ k
  il : i < h0.n
  kp : Kp [i] h0 h
  hi : ∀ p ∈ K, p.1 ≤ 2000000
section
variable {C : Nat} {h0 h : MH} {i s r b k L : Nat} {R : Rows} {K : List (Int × MV)} {f : Int}
theorem St.up {h' : MH} (a : St C h0 i h s r b k R K L f) (u : Up h h') : St C h0 i h' s r b k R K L f :=
  ⟨a.mem.up u, a.ne, a.kn.up u, a.eq, a.box.up u, a.kf, a.lo, a.lok, a.il, a.kp.trans u.kp, a.hi⟩
theorem St.bx {h' : MH} {f' : Int} (a : St C h0 i h s r b k R K L f) (u : Kp [i] h h') (b' : Box h' i f') : St C h0 i h' s r b k R K L f' := by
  have il := a.il
  refine ⟨a.mem.frame fun j hj l => u.get j l (by have := a.lo j hj; simp; omega), a.ne, a.kn.frame (u.get k (MH.get_lt a.kn.at_) (by have := a.lok; simp; omega)), a.eq, b', a.kf, a.lo, a.lok, a.il, a.kp.trans u, a.hi⟩
/-- a cell is put and told -/
theorem St.put (a : St C h0 i h s r b k R K L f) (hL : L + 2 < 1000000) {c : Int} {v : MV} (hc : 0 ≤ c) (hc2 : c ≤ 2000000) (hv : atB v = true) :
    ∃ h1 R', mPut C [.ref s, .int c, v] h = .ok .non h1 ∧ Kn h1 k K L ∧ St C h0 i (h1.set k (.dic (iKv (kput c v K)))) s r b k R' (kput c v K) (L + 2) f := by
  obtain ⟨h1, R', e1, m1, n1, g1, k1, f1⟩ := put_ok a.mem a.ne hL c hv
  have kl := MH.get_lt a.kn.at_
  have kk := a.kn.frame (k1.get k kl a.kf)
  have kf' : k ∉ fp s r b R' := fun z => by
    rcases f1 k z with y | y
    · exact a.kf y
    · omega
  have ifp : i ∉ fp s r b R := fun z => by have := a.lo i z; have := a.il; omega
  have lo' : ∀ j ∈ fp s r b R', h0.n ≤ j := fun j hj => by
    rcases f1 j hj with y | y
    · exact a.lo j y
    · have := a.kp.n; omega
  obtain ⟨-, s2⟩ := kset_ok (m := [some (.ref k), some (.int c)]) (d := gVar 0) (e := gVar 1) (c := c) (v := v) kk (by omega) rfl rfl hc hv
  refine ⟨h1, R', e1, kk, ⟨m1.frame fun j hj l => set_ne kk.at_ (fun z => kf' (by rw [← z]; exact hj)), n1, ⟨s2.at_, s2.nd, Nat.le_trans s2.len (by omega), s2.pos, s2.ok⟩, fun x => ?_, ?_, kf', lo', a.lok, a.il, ⟨?_, fun j hj hf => ?_⟩, fun p hp => ?_⟩⟩
  · rw [g1, kget_kput, a.eq]
  · have b1 := a.box.kp k1 ifp
    obtain ⟨x, y, z, w1, w2, w3⟩ := b1
    exact ⟨x, y, z, by rw [set_ne kk.at_ (by have := a.il; have := a.lok; omega)]; exact w1, w2, w3⟩
  · show h0.n ≤ h1.n
    have := a.kp.n; have := k1.n; omega
  · have := a.kp.n
    rw [set_ne kk.at_ (by have := a.lok; omega), k1.get j (by omega) (fun z => by have := a.lo j z; omega), a.kp.get j hj hf]
  · rcases kput_keys K p hp with z | ⟨p', z1, z2⟩
    · omega
    · rw [← z2]; exact a.hi p' z1
/-- a cell that is drawn -/
def eSpot : ME := gCall mOf [] 2 (gCons (gVar 0) (gCons (gLst (gCons (gCall mTake [] 2 (gCons (gVar 0) (gCons (gC (.int 60)) (gNil)))) (gCons (gCall mTake [] 2 (gCons (gVar 0) (gCons (gC (.int 60)) (gNil)))) (gCons (gCall mTake [] 2 (gCons (gVar 0) (gCons (gC (.int 9)) (gNil)))) (gCons (gBin mAdd (gBin mPow (gC (.int 10)) (gC (.int 6))) (gCall mTake [] 2 (gCons (gVar 0) (gCons (gC (.int 20)) (gNil))))) (gNil)))))) (gNil)))
theorem spot_ok {m : ML} (b : Box h i f) (e0 : m[0]? = some (some (.ref i))) (hf : f + 100 < 1000000000000) : ∃ (c : Nat) (h' : MH), eSpot m h = .ok (.int (c : Nat)) h' ∧ c ≤ 1000020 ∧ Box h' i (f + 5) ∧ Kp [i] h h' := by
  obtain ⟨r1, h1, a1, a2, a3, a4, a5⟩ := tk_ok 60 b (by decide) (by decide) (by omega)
  obtain ⟨r2, h2, b1, b2, b3, b4, b5⟩ := tk_ok 60 a3 (by decide) (by decide) (by omega)
  obtain ⟨r3, h3, c1, c2, c3, c4, c5⟩ := tk_ok 9 b3 (by decide) (by decide) (by omega)
  obtain ⟨r4, h4, d1, d2, d3, d4, d5⟩ := tk_ok 20 c3 (by decide) (by decide) (by omega)
  have v0 : ∀ h, gVar 0 m h = .ok (.ref i) h := fun h => var_at e0
  have t1 : gCall mTake [] 2 (gCons (gVar 0) (gCons (gC (.int 60)) (gNil))) m h = .ok (.int (r1 : Nat)) h1 := (call2 (n := 2) (v0 h) rfl rfl).trans a2
  have t2 : gCall mTake [] 2 (gCons (gVar 0) (gCons (gC (.int 60)) (gNil))) m h1 = .ok (.int (r2 : Nat)) h2 := (call2 (n := 2) (v0 h1) rfl rfl).trans b2
  have t3 : gCall mTake [] 2 (gCons (gVar 0) (gCons (gC (.int 9)) (gNil))) m h2 = .ok (.int (r3 : Nat)) h3 := (call2 (n := 2) (v0 h2) rfl rfl).trans c2
  have t4 : gCall mTake [] 2 (gCons (gVar 0) (gCons (gC (.int 20)) (gNil))) m h3 = .ok (.int (r4 : Nat)) h4 := (call2 (n := 2) (v0 h3) rfl rfl).trans d2
  have p6 : ∀ h, mPow (.int 10) (.int 6) h = .ok (.int 1000000) h := fun h => rfl
  have e4 : (1000000 : Int) + (r4 : Int) = ((1000000 + r4 : Nat) : Int) := by omega
  have ad : ∀ h, mAdd (.int 1000000) (.int (r4 : Nat)) h = .ok (.int ((1000000 + r4 : Nat) : Int)) h := fun h => by rw [← e4]; rfl
  have lst : gLst (gCons (gCall mTake [] 2 (gCons (gVar 0) (gCons (gC (.int 60)) (gNil)))) (gCons (gCall mTake [] 2 (gCons (gVar 0) (gCons (gC (.int 60)) (gNil)))) (gCons (gCall mTake [] 2 (gCons (gVar 0) (gCons (gC (.int 9)) (gNil)))) (gCons (gBin mAdd (gBin mPow (gC (.int 10)) (gC (.int 6))) (gCall mTake [] 2 (gCons (gVar 0) (gCons (gC (.int 20)) (gNil))))) (gNil))))) m h =
      .ok (.ref h4.n) (h4.push (.lst [.int (r1 : Nat), .int (r2 : Nat), .int (r3 : Nat), .int ((1000000 + r4 : Nat) : Int)])) := by
    have c6 : ∀ h, gBin mPow (gC (.int 10)) (gC (.int 6)) m h = .ok (.int 1000000) h := fun h => rfl
    have t5 : gBin mAdd (gBin mPow (gC (.int 10)) (gC (.int 6))) (gCall mTake [] 2 (gCons (gVar 0) (gCons (gC (.int 20)) (gNil)))) m h3 = .ok (.int ((1000000 + r4 : Nat) : Int)) h4 := by
      unfold gBin
      rw [show ((gC (.int 10) m h3).bind fun x h1 => (gC (.int 6) m h1).bind fun y h2 => mPow x y h2) = .ok (.int 1000000) h3 from rfl]
      simp only [Out.bind, t4, ad]
    simp only [gLst, gCons, t1, t2, t3, t5, gNil, Out.bind]
    rfl
  have b6 : Box (h4.push (.lst [.int (r1 : Nat), .int (r2 : Nat), .int (r3 : Nat), .int ((1000000 + r4 : Nat) : Int)])) i (f + 1 + 1 + 1 + 1) := d3.up Up.push
  have hi := d3.lt
  obtain ⟨x, h6, f1, f2, f3, f4, f5⟩ := of_ok (v := .ref h4.n) b6 (.ref get_top) (fun q e => by cases e; omega) (by simp) (by simp) (by omega)
  have cl : eSpot m h = .ok x h6 := (call2 (n := 2) (v0 h) lst rfl).trans f1 |> fun z => by
    unfold eSpot
    exact z
  have key : ∃ c : Nat, x = .int (c : Nat) ∧ c ≤ 1000020 := by
    simp only [List.mem_cons, List.not_mem_nil, or_false] at f2
    rcases f2 with rfl | rfl | rfl | rfl
    · exact ⟨r1, rfl, by omega⟩
    · exact ⟨r2, rfl, by omega⟩
    · exact ⟨r3, rfl, by omega⟩
    · exact ⟨1000000 + r4, rfl, by omega⟩
  obtain ⟨c, rfl, hc⟩ := key
  exact ⟨c, h6, cl, hc, f3.le (by omega), (a4.trans b4).trans ((c4.trans d4).trans (Up.push.kp.trans f4))⟩
end
end XM
set_option Elab.async false
set_option linter.all false
set_option maxRecDepth 100000
set_option maxHeartbeats 4000000
namespace XM
open MI XG PySem
open L2 (atI ixN)
def eP1 (C : Nat) : ME := gMethK C nPut (mPut C) [] 3 1 2 [(0, 0), (2, 1), (2, 0)] (gVar 7) (gNil) (gCons (gVar 8) (gCons (gVar 6) (gNil)))
def eP2 (C : Nat) : ME := gMeth C nPut (mPut C) [] 3 (gVar 7) (gCons (gVar 6) (gCons (gVar 8) (gNil)))
def ePut (C : Nat) : ME := gIf (gB (gBin mEqA (gBin mMod (gVar 10) (gC (.int 2))) (gC (.int 0)))) (eP1 C) (eP2 C)
def eG1 (C : Nat) : ME := gMeth C nGet (mGet C) [] 2 (gVar 7) (gCons (gVar 6) (gNil))
def eG2 (C : Nat) : ME := gMeth C nGet (mGet C) [] 2 (gVar 7) (gCons (gBin mAdd (gVar 6) (gC (.int 1))) (gNil))
def ePg (C : Nat) : ME := gMethK C nPage (mPage C) [] 2 1 1 [(0, 0), (2, 0)] (gVar 7) (gNil) (gCons (gBin mDiv (gVar 6) (gC (.int 8))) (gNil))
def eFound (C : Nat) : ME := gLst (gCons (gVar 9) (gCons (eG1 C) (gCons (eG2 C) (gCons (ePg C) (gNil)))))
def eLf : ME := gCall mLeaf [] 2 (gCons (gVar 3) (gCons (gBin mDiv (gVar 6) (gC (.int 8))) (gNil)))
def eDue : ME := gLst (gCons (gC .non) (gCons (gVar 8) (gCons (gDget (gVar 3) (gBin mAdd (gVar 6) (gC (.int 1)))) (gCons eLf (gNil)))))
def cS1 : MT := gNot (gTru (gCall mSame [] 2 (gCons (gVar 1) (gCons eDue (gNil)))))
def cS2 (C : Nat) : MT := gNot (gTru (gCall mSame [] 2 (gCons (gMeth C nMany (mMany C) [] 1 (gVar 7) gNil) (gCons (gCall mSize [] 1 (gCons (gVar 3) (gNil))) (gNil)))))
def bStep (C : Nat) : MS := gSeq (gAsg eSpot (tgName 6)) (gSeq (gAsg (gCall mThing [] 1 (gCons (gVar 0) (gNil))) (tgName 8)) (gSeq (gAsg (ePut C) (tgName 9)) (gSeq (gAsg (gVar 8) (tgSub (gVar 3) (gVar 6))) (gSeq (gAsg (eFound C) (tgName 1)) (gSeq (gIfS cS1 (gRet (gC (.bl false))) (gNext)) (gIfS (cS2 C) (gRet (gC (.bl false))) (gNext)))))))
section
variable {C : Nat} {h0 h : MH} {i s r b k L : Nat} {R : Rows} {K : List (Int × MV)} {f : Int}
theorem fl_lt {K : List (Int × MV)} (hi : ∀ p ∈ K, p.1 ≤ 2000000) (lo : ∀ p ∈ K, 0 ≤ p.1) : iSmall (sizeOf_ K) = true := by
  have a : ∀ y ∈ fl K ++ [0], 0 ≤ y ∧ y ≤ 300000 := fun y hy => by
    rcases List.mem_append.mp hy with hy | hy
    · unfold fl at hy
      obtain ⟨p, hp, rfl⟩ := List.mem_map.mp hy
      have h1 := hi p (List.mem_filter.mp hp).1
      have h2 := lo p (List.mem_filter.mp hp).1
      omega
    · rw [List.mem_singleton.mp hy]; omega
  unfold sizeOf_
  cases e : fl K ++ [0] with
  | nil => rfl
  | cons y l =>
    dsimp only
    rw [e] at a
    have : lmax y l ∈ y :: l := by
      rcases lmax_mem l y with z | z
      · rw [z]; exact List.mem_cons_self
      · exact List.mem_cons_of_mem _ z
    have := a _ this
    unfold iSmall
    exact decide_eq_true (by omega)
theorem step_ok (a : St C h0 i h s r b k R K L f) (hL : L + 10 < 1000000) (hf : f + 100 < 1000000000000) {t : Nat} {o1 o2 o4 o5 o6 o8 o9 o11 : Option MV} :
    ∃ h' R' K' p1 p6 p8 p9, bStep C [some (.ref i), o1, o2, some (.ref k), o4, o5, o6, some (.ref s), o8, o9, some (.int (t : Nat)), o11] h = .nx [some (.ref i), p1, o2, some (.ref k), o4, o5, p6, some (.ref s), p8, p9, some (.int (t : Nat)), o11] h' ∧
      St C h0 i h' s r b k R' K' (L + 2) (f + 8) := by
  obtain ⟨c, h1, a1, a2, a3, a4⟩ := spot_ok (m := [some (.ref i), o1, o2, some (.ref k), o4, o5, o6, some (.ref s), o8, o9, some (.int (t : Nat)), o11]) a.box rfl hf
  have st1 := a.bx a4 a3
  obtain ⟨v, h2, b1, b2, b3, b4⟩ := thing_ok st1.box (by omega)
  have st2 := st1.bx b4 b3
  obtain ⟨h3, R', c1, c2, st3⟩ := st2.put (by omega) (c := (c : Nat)) (by omega) (by omega) b2
  obtain ⟨p2, hp2⟩ := st2.mem.ins
  obtain ⟨p3, hp3⟩ := st3.mem.ins
  have lk : ∀ p, (flds r b p).lookup nPut = none := fun p => rfl
  have lg : ∀ p, (flds r b p).lookup nGet = none := fun p => rfl
  have lp : ∀ p, (flds r b p).lookup nPage = none := fun p => rfl
  have lm : ∀ p, (flds r b p).lookup nMany = none := fun p => rfl
  -- the put
  have e3 : ePut C [some (.ref i), o1, o2, some (.ref k), o4, o5, some (.int (c : Nat)), some (.ref s), some v, o9, some (.int (t : Nat)), o11] h2 = .ok .non h3 := by
    have cd : gB (gBin mEqA (gBin mMod (gVar 10) (gC (.int 2))) (gC (.int 0))) [some (.ref i), o1, o2, some (.ref k), o4, o5, some (.int (c : Nat)), some (.ref s), some v, o9, some (.int (t : Nat)), o11] h2 = .ok (decide ((t : Int) % 2 = 0)) h2 := by
      have v10 : gVar 10 [some (.ref i), o1, o2, some (.ref k), o4, o5, some (.int (c : Nat)), some (.ref s), some v, o9, some (.int (t : Nat)), o11] h2 = .ok (.int (t : Nat)) h2 := rfl
      have md : ∀ h, mMod (.int (t : Nat)) (.int 2) h = .ok (.int ((t : Int) % 2)) h := fun h => rfl
      simp [gB, gBin, v10, gC, Out.bind, md, mEqA, isRow, mEqV, mEq, oB]
    unfold ePut
    by_cases z : (t : Int) % 2 = 0
    · rw [decide_eq_true z] at cd
      have : eP1 C [some (.ref i), o1, o2, some (.ref k), o4, o5, some (.int (c : Nat)), some (.ref s), some v, o9, some (.int (t : Nat)), o11] h2 = mPut C [.ref s, .int (c : Nat), v] h2 := by
        have v7 : gVar 7 [some (.ref i), o1, o2, some (.ref k), o4, o5, some (.int (c : Nat)), some (.ref s), some v, o9, some (.int (t : Nat)), o11] h2 = .ok (.ref s) h2 := rfl
        have v8 : gVar 8 [some (.ref i), o1, o2, some (.ref k), o4, o5, some (.int (c : Nat)), some (.ref s), some v, o9, some (.int (t : Nat)), o11] h2 = .ok v h2 := rfl
        have v6 : gVar 6 [some (.ref i), o1, o2, some (.ref k), o4, o5, some (.int (c : Nat)), some (.ref s), some v, o9, some (.int (t : Nat)), o11] h2 = .ok (.int (c : Nat)) h2 := rfl
        simp [eP1, gMethK, v7, Out.bind, hp2, lk, gNil, gCons, v8, v6, pick]
      simp only [gIf, cd, Out.bind, if_pos, this, c1]
    · rw [decide_eq_false z] at cd
      have : eP2 C [some (.ref i), o1, o2, some (.ref k), o4, o5, some (.int (c : Nat)), some (.ref s), some v, o9, some (.int (t : Nat)), o11] h2 = mPut C [.ref s, .int (c : Nat), v] h2 := by
        have v7 : gVar 7 [some (.ref i), o1, o2, some (.ref k), o4, o5, some (.int (c : Nat)), some (.ref s), some v, o9, some (.int (t : Nat)), o11] h2 = .ok (.ref s) h2 := rfl
        have v8 : gVar 8 [some (.ref i), o1, o2, some (.ref k), o4, o5, some (.int (c : Nat)), some (.ref s), some v, o9, some (.int (t : Nat)), o11] h2 = .ok v h2 := rfl
        have v6 : gVar 6 [some (.ref i), o1, o2, some (.ref k), o4, o5, some (.int (c : Nat)), some (.ref s), some v, o9, some (.int (t : Nat)), o11] h2 = .ok (.int (c : Nat)) h2 := rfl
        simp [eP2, gMeth, v7, Out.bind, hp2, lk, gNil, gCons, v8, v6]
      have e := this.trans c1
      simp only [gIf, cd, Out.bind]
      rw [if_neg (by decide)]
      exact e
  -- told
  have e4 : gAsg (gVar 8) (tgSub (gVar 3) (gVar 6)) [some (.ref i), o1, o2, some (.ref k), o4, o5, some (.int (c : Nat)), some (.ref s), some v, some .non, some (.int (t : Nat)), o11] h3 =
      .nx [some (.ref i), o1, o2, some (.ref k), o4, o5, some (.int (c : Nat)), some (.ref s), some v, some .non, some (.int (t : Nat)), o11] (h3.set k (.dic (iKv (kput (c : Nat) v K)))) := by
    obtain ⟨s1, -⟩ := kset_ok (m := [some (.ref i), o1, o2, some (.ref k), o4, o5, some (.int (c : Nat)), some (.ref s), some v, some .non, some (.int (t : Nat)), o11]) (d := gVar 3) (e := gVar 6) (c := (c : Nat)) (v := v) c2 (by omega) rfl rfl (by omega) b2
    have v8 : gVar 8 [some (.ref i), o1, o2, some (.ref k), o4, o5, some (.int (c : Nat)), some (.ref s), some v, some .non, some (.int (t : Nat)), o11] h3 = .ok v h3 := rfl
    unfold gAsg
    rw [v8]
    simp only [Out.bindS, s1, SO.only]
  generalize h3.set k (.dic (iKv (kput (c : Nat) v K))) = h4 at e4 st3 hp3
  -- found
  obtain ⟨h5, d1, u5⟩ := page_ok st3.mem ((c : Int) / 8)
  have st5 := st3.up u5
  have cv : rget R' (c : Nat) = v := by rw [st3.eq, kget_kput, if_pos rfl]
  have e5 : eFound C [some (.ref i), o1, o2, some (.ref k), o4, o5, some (.int (c : Nat)), some (.ref s), some v, some .non, some (.int (t : Nat)), o11] h4 = .ok (.ref h5.n) (h5.push (.lst [.non, v, rget R' ((c : Nat) + 1), .tup (pageOf R' ((c : Int) / 8))])) := by
    have v7 : ∀ h, gVar 7 [some (.ref i), o1, o2, some (.ref k), o4, o5, some (.int (c : Nat)), some (.ref s), some v, some .non, some (.int (t : Nat)), o11] h = .ok (.ref s) h := fun h => rfl
    have v6 : ∀ h, gVar 6 [some (.ref i), o1, o2, some (.ref k), o4, o5, some (.int (c : Nat)), some (.ref s), some v, some .non, some (.int (t : Nat)), o11] h = .ok (.int (c : Nat)) h := fun h => rfl
    have v9 : ∀ h, gVar 9 [some (.ref i), o1, o2, some (.ref k), o4, o5, some (.int (c : Nat)), some (.ref s), some v, some .non, some (.int (t : Nat)), o11] h = .ok .non h := fun h => rfl
    have g1 : eG1 C [some (.ref i), o1, o2, some (.ref k), o4, o5, some (.int (c : Nat)), some (.ref s), some v, some .non, some (.int (t : Nat)), o11] h4 = .ok v h4 := ((meth1 (v7 h4) hp3 (lg p3) (v6 h4) rfl).trans (get_ok st3.mem _)).trans (by rw [cv])
    have g2 : eG2 C [some (.ref i), o1, o2, some (.ref k), o4, o5, some (.int (c : Nat)), some (.ref s), some v, some .non, some (.int (t : Nat)), o11] h4 = .ok (rget R' ((c : Nat) + 1)) h4 := (meth1 (v7 h4) hp3 (lg p3) (x := .int ((c : Nat) + 1)) (h2 := h4) rfl rfl).trans (get_ok st3.mem _)
    have g3 : ePg C [some (.ref i), o1, o2, some (.ref k), o4, o5, some (.int (c : Nat)), some (.ref s), some v, some .non, some (.int (t : Nat)), o11] h4 = .ok (.tup (pageOf R' ((c : Int) / 8))) h5 := by
      have dv : ∀ h, gBin mDiv (gVar 6) (gC (.int 8)) [some (.ref i), o1, o2, some (.ref k), o4, o5, some (.int (c : Nat)), some (.ref s), some v, some .non, some (.int (t : Nat)), o11] h = .ok (.int ((c : Int) / 8)) h := fun h => rfl
      have : ePg C [some (.ref i), o1, o2, some (.ref k), o4, o5, some (.int (c : Nat)), some (.ref s), some v, some .non, some (.int (t : Nat)), o11] h4 = mPage C [.ref s, .int ((c : Int) / 8)] h4 := by
        simp [ePg, gMethK, v7, Out.bind, hp3, lp, gNil, gCons, dv, pick]
      exact this.trans d1
    unfold eFound gLst
    simp only [gCons, v9, g1, g2, g3, gNil, Out.bind]
    rfl
  have gF : (h5.push (.lst [.non, v, rget R' ((c : Nat) + 1), .tup (pageOf R' ((c : Int) / 8))])).get h5.n = some (.lst [.non, v, rget R' ((c : Nat) + 1), .tup (pageOf R' ((c : Int) / 8))]) := get_top
  have st6 := st5.up (Up.push (o := .lst [.non, v, rget R' ((c : Nat) + 1), .tup (pageOf R' ((c : Int) / 8))]))
  generalize h5.push (.lst [.non, v, rget R' ((c : Nat) + 1), .tup (pageOf R' ((c : Int) / 8))]) = h6 at e5 gF st6
  -- due
  obtain ⟨h7, d7, u7⟩ := leaf_ok st6.kn ((c : Int) / 8)
  have pe := page_eq st3.mem st3.eq ((c : Int) / 8)
  have ge := st3.eq ((c : Nat) + 1)
  have e6 : eDue [some (.ref i), some (.ref h5.n), o2, some (.ref k), o4, o5, some (.int (c : Nat)), some (.ref s), some v, some .non, some (.int (t : Nat)), o11] h6 = .ok (.ref h7.n) (h7.push (.lst [.non, v, rget R' ((c : Nat) + 1), .tup (pageOf R' ((c : Int) / 8))])) := by
    have v8 : ∀ h, gVar 8 [some (.ref i), some (.ref h5.n), o2, some (.ref k), o4, o5, some (.int (c : Nat)), some (.ref s), some v, some .non, some (.int (t : Nat)), o11] h = .ok v h := fun h => rfl
    have dg : gDget (gVar 3) (gBin mAdd (gVar 6) (gC (.int 1))) [some (.ref i), some (.ref h5.n), o2, some (.ref k), o4, o5, some (.int (c : Nat)), some (.ref s), some v, some .non, some (.int (t : Nat)), o11] h6 = .ok (rget R' ((c : Nat) + 1)) h6 :=
      (dget_ok (c := (c : Nat) + 1) st6.kn rfl rfl).trans (by rw [ge])
    have lf : eLf [some (.ref i), some (.ref h5.n), o2, some (.ref k), o4, o5, some (.int (c : Nat)), some (.ref s), some v, some .non, some (.int (t : Nat)), o11] h6 = .ok (.tup (pageOf R' ((c : Int) / 8))) h7 :=
      ((call2 (n := 2) (x := .ref k) (y := .int ((c : Int) / 8)) (h1 := h6) (h2 := h6) rfl rfl rfl).trans d7).trans (by rw [pe])
    unfold eDue gLst
    simp only [gCons, gC, v8, dg, lf, gNil, Out.bind]
    rfl
  have gF7 := (u7.trans (Up.push (o := .lst [.non, v, rget R' ((c : Nat) + 1), .tup (pageOf R' ((c : Int) / 8))]))).at gF
  have gG : (h7.push (.lst [.non, v, rget R' ((c : Nat) + 1), .tup (pageOf R' ((c : Int) / 8))])).get h7.n = some (.lst [.non, v, rget R' ((c : Nat) + 1), .tup (pageOf R' ((c : Int) / 8))]) := get_top
  have st8 := st6.up (u7.trans (Up.push (o := .lst [.non, v, rget R' ((c : Nat) + 1), .tup (pageOf R' ((c : Int) / 8))])))
  generalize h7.push (.lst [.non, v, rget R' ((c : Nat) + 1), .tup (pageOf R' ((c : Int) / 8))]) = h8 at e6 gF7 gG st8
  have rows : ∀ x ∈ [MV.non, v, rget R' ((c : Nat) + 1), .tup (pageOf R' ((c : Int) / 8))], row1 x := fun x hx => by
    simp only [List.mem_cons, List.not_mem_nil, or_false] at hx
    rcases hx with rfl | rfl | rfl | rfl
    · exact .inl rfl
    · exact .inl b2
    · exact .inl (st3.mem.at _)
    · rw [pe]
      refine trim_row (by simp [ks]) fun x hx => ?_
      unfold ks at hx
      obtain ⟨j, _, rfl⟩ := List.mem_map.mp hx
      exact st3.kn.atk _
  have sm := lists_same gF7 gG rows (by simp)
  have e7 : cS1 [some (.ref i), some (.ref h5.n), o2, some (.ref k), o4, o5, some (.int (c : Nat)), some (.ref s), some v, some .non, some (.int (t : Nat)), o11] h6 = .ok false h8 := by
    have := (call2 (n := 2) (a := gVar 1) (x := .ref h5.n) (h1 := h6) (m := [some (.ref i), some (.ref h5.n), o2, some (.ref k), o4, o5, some (.int (c : Nat)), some (.ref s), some v, some .non, some (.int (t : Nat)), o11]) rfl e6 rfl).trans sm
    simp [cS1, gNot, gTru, this, Out.bind, mTru]
  -- the sizes
  obtain ⟨p8, hp8⟩ := st8.mem.ins
  obtain ⟨h9, d9, u9⟩ := size_ok st8.kn (by omega)
  have me := many_eq st8.mem st8.ne st8.kn st8.eq
  have e8 : cS2 C [some (.ref i), some (.ref h5.n), o2, some (.ref k), o4, o5, some (.int (c : Nat)), some (.ref s), some v, some .non, some (.int (t : Nat)), o11] h8 = .ok false h9 := by
    have mn : gMeth C nMany (mMany C) [] 1 (gVar 7) gNil [some (.ref i), some (.ref h5.n), o2, some (.ref k), o4, o5, some (.int (c : Nat)), some (.ref s), some v, some .non, some (.int (t : Nat)), o11] h8 = .ok (.int (sizeOf_ (kput (c : Nat) v K))) h8 :=
      ((meth0 (n := 1) (h1 := h8) rfl hp8 (lm p8) rfl).trans (many_ok st8.mem)).trans (by rw [me])
    have sz : gCall mSize [] 1 (gCons (gVar 3) (gNil)) [some (.ref i), some (.ref h5.n), o2, some (.ref k), o4, o5, some (.int (c : Nat)), some (.ref s), some v, some .non, some (.int (t : Nat)), o11] h8 = .ok (.int (sizeOf_ (kput (c : Nat) v K))) h9 :=
      (call1 (n := 1) (x := .ref k) (h2 := h8) rfl rfl).trans d9
    have := (call2 (n := 2) mn sz rfl).trans (same_int (fl_lt st8.hi st8.kn.pos))
    simp [cS2, gNot, gTru, this, Out.bind, mTru]
  refine ⟨h9, R', _, some (.ref h5.n), some (.int (c : Nat)), some v, some .non, ?_, ⟨st8.mem.up u9, st8.ne, st8.kn.up u9, st8.eq, (st8.box.up u9).le (by omega), st8.kf, st8.lo, st8.lok, st8.il, st8.kp.trans u9.kp, st8.hi⟩⟩
  have e2 : gCall mThing [] 1 (gCons (gVar 0) (gNil)) [some (.ref i), o1, o2, some (.ref k), o4, o5, some (.int (c : Nat)), some (.ref s), o8, o9, some (.int (t : Nat)), o11] h1 = .ok v h2 := (call1 (n := 1) (x := .ref i) (h2 := h1) rfl rfl).trans b1
  refine (seq_nx (asg_nx a1)).trans ?_
  refine (seq_nx (asg_nx e2)).trans ?_
  refine (seq_nx (asg_nx e3)).trans ?_
  refine (seq_nx e4).trans ?_
  refine (seq_nx (asg_nx e5)).trans ?_
  refine (seq_nx ((ifS_f e7).trans rfl)).trans ?_
  exact (ifS_f e8).trans rfl
end
end XM
set_option Elab.async false
set_option linter.all false
set_option maxRecDepth 100000
set_option maxHeartbeats 4000000
namespace XM
open MI XG PySem
open L2 (atI ixN)
def dPg : List MV → List (List MV) → List PyData
  | v :: vs, xs :: P => (if isTup v = true then PyData.tuple (xs.map aD) else .list (xs.map aD)) :: dPg vs P
  | _, _ => []
theorem pg_all {h : MH} : ∀ {vs : List MV} {P : List (List MV)}, vs.length = P.length → (∀ (j : Nat) v xs, vs[j]? = some v → P[j]? = some xs → Sq h v xs) → (∀ xs ∈ P, xs.length ≤ 8 ∧ ∀ x ∈ xs, atB x = true) →
    allD (toD h 60) vs = some (dPg vs P) ∧ (∀ d ∈ dPg vs P, Dk 1 168 d) ∧ (dPg vs P).length = P.length
  | [], [], _, _, _ => ⟨rfl, fun d hd => (by cases hd), rfl⟩
  | [], _ :: _, h, _, _ => by cases h
  | _ :: _, [], h, _, _ => by cases h
  | v :: vs, xs :: P, hl, hs, ho => by
    obtain ⟨a1, a2, a3⟩ := pg_all (vs := vs) (P := P) (by simpa using hl) (fun j v xs e1 e2 => hs (j + 1) v xs (by simpa using e1) (by simpa using e2)) fun ys hy => ho ys (List.mem_cons_of_mem _ hy)
    obtain ⟨l8, at8⟩ := ho xs List.mem_cons_self
    have sq := hs 0 v xs rfl rfl
    have ds : ∀ d ∈ xs.map aD, Dk 0 20 d := fun d hd => by obtain ⟨y, hy, rfl⟩ := List.mem_map.mp hd; exact aD_ok (at8 y hy)
    have one : toD h 60 v = some (if isTup v = true then PyData.tuple (xs.map aD) else .list (xs.map aD)) ∧ Dk 1 168 (if isTup v = true then PyData.tuple (xs.map aD) else .list (xs.map aD)) := by
      cases sq with
      | tup => exact ⟨toD_tup (n := 59) fun y hy => toD_at (at8 y hy), Dk.tuple (k := 0) (B := 20) (n := 8) ds (by simpa using l8)⟩
      | ref e => exact ⟨toD_lst (n := 59) e fun y hy => toD_at (at8 y hy), Dk.list (k := 0) (B := 20) (n := 8) ds (by simpa using l8)⟩
    refine ⟨?_, fun d hd => ?_, by show (dPg vs P).length + 1 = _; rw [a3]; rfl⟩
    · simp only [allD, one.1, a1]
      rfl
    · rcases List.mem_cons.mp hd with z | z
      · rw [z]; exact one.2
      · exact a2 d z
theorem pg_data {h : MH} {sl lo : Nat} {vs : List MV} {P : List (List MV)} (a : Pg h sl vs P lo) (l : P.length ≤ 4) : toD h 61 (.ref sl) = some (.list (dPg vs P)) ∧ Dk 2 (4 * (168 + 1)) (.list (dPg vs P)) := by
  obtain ⟨a1, a2, a3⟩ := pg_all a.len a.sq a.ok
  refine ⟨?_, Dk.list a2 (by omega)⟩
  show (match h.get sl with
      | some (.lst xs) => (allD (toD h 60) xs).map PyData.list
      | _ => none) = _
  rw [a.at_]
  dsimp only
  rw [a1]; rfl
def eMake (C : Nat) : ME := gIf (gB (gBin mEqA (gCall mTake [] 2 (gCons (gVar 0) (gCons (gC (.int 2)) (gNil)))) (gC (.int 0)))) (gMakeK C (mInit C) [.ktp []] 2 1 1 [(0, 0), (2, 0)] (gNil) (gCons (gVar 5) (gNil))) (gMake C (mInit C) [] 2 (gCons (gCB (f1 mTuple) (gCons (gVar 5) (gNil))) (gNil)))
def mkK (n : Nat) (r : MV) (h2 : MH) : Out MV := match r with
  | .non => .ok (.ref n) h2
  | _ => .bad
theorem make_ok {C : Nat} {h : MH} {i sl lo : Nat} {f : Int} {m : ML} {vs : List MV} {P : List (List MV)} (b : Box h i f) (hf : f + 1 < 1000000000000) (e0 : m[0]? = some (some (.ref i))) (e5 : m[5]? = some (some (.ref sl))) (a : Pg h sl vs P lo) (l : P.length ≤ 4) (hi : i < sl) (hlo : sl < lo) :
    ∃ s r bb R h1 h', eMake C m h = .ok (.ref s) h' ∧ Box h' i (f + 1) ∧ MemW C h' s r bb R 100 ∧ Ne R ∧ (∀ c, rget R c = pget P c) ∧ Kp [i] h h1 ∧ h1.n = h.n ∧ Up h1 h' ∧ (∀ j ∈ fp s r bb R, h.n ≤ j) := by
  obtain ⟨t, h1, a1, a2, a3, a4, a5⟩ := tk_ok 2 b (by decide) (by decide) (by omega)
  have c1 : gCall mTake [] 2 (gCons (gVar 0) (gCons (gC (.int 2)) (gNil))) m h = .ok (.int (t : Nat)) h1 := (call2 (n := 2) (var_at e0) rfl rfl).trans a2
  have p1 := a.kp a4 (by simp; omega) (fun j hj => by rw [List.mem_singleton.mp hj]; omega)
  have cd : gB (gBin mEqA (gCall mTake [] 2 (gCons (gVar 0) (gCons (gC (.int 2)) (gNil)))) (gC (.int 0))) m h = .ok (decide ((t : Int) = 0)) h1 := by
    simp [gB, gBin, c1, Out.bind, gC, mEqA, isRow, mEqV, mEq, oB]
  have u1 : Up h1 (h1.push (.ins C [])) := Up.push
  have v5 : gVar 5 m h1 = .ok (.ref sl) h1 := var_at e5
  have go : ∀ pv, Sq h1 pv vs → ∃ s r bb R h', (mInit C [.ref h1.n, pv] (h1.push (.ins C []))).bind (mkK h1.n) = .ok (.ref s) h' ∧ Box h' i (f + 1) ∧ MemW C h' s r bb R 100 ∧ Ne R ∧ (∀ c, rget R c = pget P c) ∧ Up h1 h' ∧ (∀ j ∈ fp s r bb R, h.n ≤ j) := fun pv sq => by
    obtain ⟨h', bb, R, q1, q2, q3, q4, q5, q6⟩ := init_ok (C := C) (s := h1.n) (pv := pv) (vs := vs) (P := P) get_top (sq.up u1) p1.len (by omega) (fun j v xs e1 e2 => (p1.sq j v xs e1 e2).up u1) p1.ok
    have u2 : Up h1 h' := ⟨by have := q5.n; have := u1.n; omega, fun j hj => by rw [q5.get j (by show j < h1.n + 1; omega) (by simp; omega), u1.get j hj]⟩
    refine ⟨h1.n, _, bb, R, h', by rw [q1]; rfl, a3.up u2, q2, q3, q4, u2, fun j hj => ?_⟩
    rcases q6 j hj with z | z
    · omega
    · have : (h1.push (.ins C [])).n = h1.n + 1 := rfl
      omega
  unfold eMake
  by_cases z : (t : Int) = 0
  · rw [decide_eq_true z] at cd
    obtain ⟨s, r, bb, R, h', g1, g2, g3, g4, g5, g6, g7⟩ := go (.ref sl) (.ref p1.at_)
    refine ⟨s, r, bb, R, h1, h', ?_, g2, g3, g4, g5, a4, a5, g6, g7⟩
    have : gMakeK C (mInit C) [.ktp []] 2 1 1 [(0, 0), (2, 0)] (gNil) (gCons (gVar 5) (gNil)) m h1 = (mInit C [.ref h1.n, .ref sl] (h1.push (.ins C []))).bind (mkK h1.n) := by
      have e1 : gCons (gVar 5) gNil m h1 = .ok [.ref sl] h1 := by simp [gCons, v5, gNil, Out.bind]
      unfold gMakeK
      simp only [gNil, Out.bind]
      rw [e1]
      rfl
    simp only [gIf, cd, Out.bind, if_pos]
    rw [this]
    exact g1
  · rw [decide_eq_false z] at cd
    obtain ⟨s, r, bb, R, h', g1, g2, g3, g4, g5, g6, g7⟩ := go (.tup vs) (.tup vs)
    refine ⟨s, r, bb, R, h1, h', ?_, g2, g3, g4, g5, a4, a5, g6, g7⟩
    have tp := (Sq.ref p1.at_ : Sq h1 (.ref sl) vs).tuple
    have : gMake C (mInit C) [] 2 (gCons (gCB (f1 mTuple) (gCons (gVar 5) (gNil))) (gNil)) m h1 = (mInit C [.ref h1.n, .tup vs] (h1.push (.ins C []))).bind (mkK h1.n) := by
      have e1 : gCons (gCB (f1 mTuple) (gCons (gVar 5) (gNil))) (gNil) m h1 = .ok [.tup vs] h1 := by simp [gNil, gCons, gCB, f1, v5, tp, Out.bind]
      unfold gMake
      rw [e1]
      rfl
    simp only [gIf, cd, Out.bind]
    rw [if_neg (by decide), this]
    exact g1
def bMut : MS := gIfS (gTru (gUn mIsL (gVar 4))) (gExpr (gBM "list" lApp (gVar 4) (gCons (gC (.str [109, 111, 114, 101])) (gNil)))) (gNext)
theorem mut_ok {h : MH} {sl lo : Nat} {vs : List MV} {P : List (List MV)} (a : Pg h sl vs P lo) (l : P.length ≤ 4) (hlo : sl < lo) {A0 A1 A2 A3 A4 A6 A7 A8 A9 A10 A11 : Option MV} :
    ∃ h' p4, gFor (gIter (gVar 5)) (tgName 4) bMut [A0, A1, A2, A3, A4, some (.ref sl), A6, A7, A8, A9, A10, A11] h = .nx [A0, A1, A2, A3, p4, some (.ref sl), A6, A7, A8, A9, A10, A11] h' ∧ h'.n = h.n ∧ ∀ j, (∀ v ∈ vs, v ≠ .ref j) → h'.get j = h.get j := by
  obtain ⟨it, i1, i2, i3⟩ := iter_it (.ref a.at_ : Sq h (.ref sl) vs)
  have nsl : ∀ v ∈ vs, v ≠ .ref sl := fun v hv e => by have := a.fresh v hv sl e; omega
  obtain ⟨m', h', e1, p4, rfl, q1, q2, q3⟩ := for_loop (it := it) (t := tgName 4) (b := bMut) (N := vs.length)
    (fun j m h' => ∃ p4, m = [A0, A1, A2, A3, p4, some (.ref sl), A6, A7, A8, A9, A10, A11] ∧ h'.n = h.n ∧ (∀ j, (∀ v ∈ vs, v ≠ .ref j) → h'.get j = h.get j) ∧ ∀ v ∈ vs, ∀ q, v = .ref q → ∃ ys, h'.get q = some (.lst ys) ∧ ys.length ≤ 8 + j)
    (fun m h' ⟨_, _, _, q, _⟩ => by rw [i3 h' (.ref ((q sl nsl).trans a.at_)), List.getElem?_eq_none (Nat.le_refl _)])
    (fun j m h' hj ⟨p4, em, q1, q2, q3⟩ => by
      subst em
      obtain ⟨v, hv⟩ : ∃ v, vs[j]? = some v := ⟨vs[j], List.getElem?_eq_getElem hj⟩
      obtain ⟨xs, hx⟩ : ∃ xs, P[j]? = some xs := ⟨P[j]'(by rw [← a.len]; exact hj), List.getElem?_eq_getElem _⟩
      have sq := a.sq j _ _ hv hx
      have mv := List.mem_of_getElem? hv
      have v4 : ∀ h, gVar 4 [A0, A1, A2, A3, some v, some (.ref sl), A6, A7, A8, A9, A10, A11] h = .ok v h := fun h => rfl
      have a0 : it.at_ j h' = some (some v) := by rw [i3 h' (.ref ((q2 sl nsl).trans a.at_)), hv]
      cases sq with
      | tup =>
        refine ⟨_, [A0, A1, A2, A3, some (.tup xs), some (.ref sl), A6, A7, A8, A9, A10, A11], h', [A0, A1, A2, A3, some (.tup xs), some (.ref sl), A6, A7, A8, A9, A10, A11], h', a0, rfl, ?_, some (.tup xs), rfl, q1, q2, fun v hv q e => by obtain ⟨ys, y1, y2⟩ := q3 v hv q e; exact ⟨ys, y1, by omega⟩⟩
        refine (ifS_f (h1 := h') ?_).trans rfl
        simp [gTru, gUn, v4, Out.bind, mIsL, mTru]
      | @ref q _ e0 =>
        obtain ⟨ys, y1, y2⟩ := q3 _ mv q rfl
        refine ⟨_, [A0, A1, A2, A3, some (.ref q), some (.ref sl), A6, A7, A8, A9, A10, A11], h', [A0, A1, A2, A3, some (.ref q), some (.ref sl), A6, A7, A8, A9, A10, A11], h'.set q (.lst (ys ++ [.str [109, 111, 114, 101]])), a0, rfl, ?_, some (.ref q), rfl, q1, fun j hj => ?_, fun w hw p e => ?_⟩
        · refine (ifS_t (h1 := h') ?_).trans (expr_nx (v := .non) ?_)
          · simp [gTru, gUn, v4, Out.bind, mIsL, y1, mTru]
          · have ty : isTy h' "list" (.ref q) = true := by simp [isTy, y1]
            simp only [gBM, v4, Out.bind, ty, if_pos, gCons, gC, gNil, lApp, y1]
            rw [if_pos (by have := a.len; omega)]
        · rw [set_ne y1 (fun z => hj _ mv (by rw [z]))]; exact q2 j hj
        · by_cases z : p = q
          · subst z
            exact ⟨_, set_get y1, by simp; omega⟩
          · obtain ⟨zs, z1, z2⟩ := q3 w hw p e
            exact ⟨zs, by rw [set_ne y1 z]; exact z1, by omega⟩)
    (vs.length + 1) 0 [A0, A1, A2, A3, A4, some (.ref sl), A6, A7, A8, A9, A10, A11] h (by omega) (Nat.zero_le _) ⟨A4, rfl, rfl, fun _ _ => rfl, fun v hv q e => by
      obtain ⟨j, hj, rfl⟩ := List.getElem_of_mem hv
      have hx : P[j]? = some (P[j]'(by rw [← a.len]; exact hj)) := List.getElem?_eq_getElem _
      have sq := a.sq j _ _ (List.getElem?_eq_getElem hj) hx
      have o8 := (a.ok _ (List.mem_of_getElem? hx)).1
      rw [e] at sq
      cases sq with
      | ref e0 => exact ⟨_, e0, by omega⟩⟩
  refine ⟨h', p4, ?_, q1, q2⟩
  unfold gFor
  rw [i1 _ (gVar 5) rfl]
  simp only [Out.bindS]
  rw [i2]
  exact e1
end XM
set_option Elab.async false
set_option linter.all false
set_option maxRecDepth 100000
set_option maxHeartbeats 4000000
namespace XM
open MI XG PySem
open L2 (atI ixN)
def cRep : MT := gB (gBin mNeA (gCB (f1 mRepr) (gCons (gVar 5) (gNil))) (gVar 2))
def eSome : ME := gBin mAdd (gLrg (gC (.int 10))) (gLst (gCons (gC (.int 125000)) (gCons (gC (.int 125001)) (gCons (gC (.int 125002)) (gCons (gC (.int 125003)) (gCons (gBin mPow (gC (.int 10)) (gC (.int 9))) (gNil)))))))
def ePgs (C : Nat) : ME := gLc (gIter (gVar 5)) (.one 11) (gYes) (gMeth C nPage (mPage C) [] 2 (gVar 7) (gCons (gVar 11) (gNil))) [11]
def eLfs : ME := gLc (gIter (gVar 5)) (.one 11) (gYes) (gCall mLeaf [] 2 (gCons (gVar 3) (gCons (gVar 11) (gNil)))) [11]
def cPages (C : Nat) : MT := gNot (gTru (gCall mSame [] 2 (gCons (ePgs C) (gCons eLfs (gNil)))))
def eGets (C : Nat) : ME := gLc (gRng1 (gC (.int 80))) (.one 6) (gYes) (gMeth C nGet (mGet C) [] 2 (gVar 7) (gCons (gVar 6) (gNil))) [6]
def eDgs : ME := gLc (gRng1 (gC (.int 80))) (.one 6) (gYes) (gDget (gVar 3) (gVar 6)) [6]
def eLast (C : Nat) : ME := gCall mSame [] 2 (gCons (eGets C) (gCons eDgs (gNil)))
def mRight (C : Nat) : MF := gBody 12 (gSeq (gAsg (gCall mBegun [] 1 (gCons (gVar 0) (gNil))) (tgTup [5, 3])) (gSeq (gAsg (gCB (f1 mRepr) (gCons (gVar 5) (gNil))) (tgName 2)) (gSeq (gAsg (eMake C) (tgName 7)) (gSeq (gIfS cRep (gRet (gC (.bl false))) (gNext)) (gSeq (gFor (gIter (gVar 5)) (tgName 4) bMut) (gSeq (gFor (gRng1 (gC (.int 30))) (tgName 10) (bStep C)) (gSeq (gAsg eSome (tgName 5)) (gSeq (gIfS (cPages C) (gRet (gC (.bl false))) (gNext)) (gRet (eLast C))))))))))
def wsI : List Int := [0, 1, 2, 3, 4, 5, 6, 7, 8, 9, 125000, 125001, 125002, 125003, 1000000000]
theorem some_ok {m : ML} {h : MH} : ∃ q h', eSome m h = .ok (.ref q) h' ∧ h'.get q = some (.lst (wsI.map MV.int)) ∧ Up h h' := by
  have l1 : gLrg (gC (.int 10)) m h = .ok (.ref h.n) (h.push (.lst (rgM 0 10))) := rfl
  have l2 : gLst (gCons (gC (.int 125000)) (gCons (gC (.int 125001)) (gCons (gC (.int 125002)) (gCons (gC (.int 125003)) (gCons (gBin mPow (gC (.int 10)) (gC (.int 9))) (gNil)))))) m (h.push (.lst (rgM 0 10))) =
      .ok (.ref (h.n + 1)) ((h.push (.lst (rgM 0 10))).push (.lst [.int 125000, .int 125001, .int 125002, .int 125003, .int 1000000000])) := rfl
  have g1 : ((h.push (.lst (rgM 0 10))).push (.lst [.int 125000, .int 125001, .int 125002, .int 125003, .int 1000000000])).get h.n = some (.lst (rgM 0 10)) := Up.push.at get_top
  have g2 : ((h.push (.lst (rgM 0 10))).push (.lst [.int 125000, .int 125001, .int 125002, .int 125003, .int 1000000000])).get (h.n + 1) = some (.lst [.int 125000, .int 125001, .int 125002, .int 125003, .int 1000000000]) := get_top
  have e : rgM 0 10 ++ [.int 125000, .int 125001, .int 125002, .int 125003, .int 1000000000] = wsI.map MV.int := rfl
  refine ⟨h.n + 2, ((h.push (.lst (rgM 0 10))).push (.lst [.int 125000, .int 125001, .int 125002, .int 125003, .int 1000000000])).push (.lst (wsI.map MV.int)), ?_, get_top, (Up.push.trans Up.push).trans Up.push⟩
  unfold eSome
  simp only [gBin, l1, Out.bind]
  rw [l2]
  simp only [mAdd, g1, g2, e]
  rw [if_pos (by decide)]
  rfl
def fPage (R : Rows) : MV → MV
  | .int n => .tup (pageOf R n)
  | x => x
def fGet (R : Rows) : MV → MV
  | .int n => rget R n
  | x => x
section
variable {C : Nat} {h0 h : MH} {i s r b k L : Nat} {R : Rows} {K : List (Int × MV)} {f : Int}
theorem pages_ok (a : St C h0 i h s r b k R K L f) {q : Nat} (g : h.get q = some (.lst (wsI.map MV.int))) {o1 o2 o4 o6 o8 o9 o10 o11 : Option MV} :
    ∃ h', cPages C [some (.ref i), o1, o2, some (.ref k), o4, some (.ref q), o6, some (.ref s), o8, o9, o10, o11] h = .ok false h' ∧ Up h h' := by
  have wl : (wsI.map MV.int).length < 1000 := by decide
  obtain ⟨it, i1, i2, i3⟩ := iter_it (.ref g : Sq h (.ref q) (wsI.map MV.int))
  obtain ⟨h1, e1, g1, u1⟩ := comp_up (gi := gIter (gVar 5)) (m := [some (.ref i), o1, o2, some (.ref k), o4, some (.ref q), o6, some (.ref s), o8, o9, o10, o11]) (sl := 11) (e := gMeth C nPage (mPage C) [] 2 (gVar 7) (gCons (gVar 11) (gNil))) (F := fPage R) (i1 _ (gVar 5) rfl) i2 wl (fun h' u j => i3 h' (.ref (u.at g)) j) (fun x hx h' u => by
    obtain ⟨n, _, rfl⟩ := List.mem_map.mp hx
    obtain ⟨p, hp⟩ := (a.mem.up u).ins
    obtain ⟨h2, d1, d2⟩ := page_ok (a.mem.up u) n
    have lp : (flds r b p).lookup nPage = none := rfl
    exact ⟨h2, (meth1 (n := 2) (o := gVar 7) (a := gVar 11) (x := .int n) (h1 := h') (h2 := h') rfl hp lp rfl rfl).trans d1, d2⟩)
  have a1 := a.up u1
  have gq1 := u1.at g
  obtain ⟨it2, j1, j2, j3⟩ := iter_it (.ref gq1 : Sq h1 (.ref q) (wsI.map MV.int))
  obtain ⟨h2, e2, g2, u2⟩ := comp_up (gi := gIter (gVar 5)) (m := [some (.ref i), o1, o2, some (.ref k), o4, some (.ref q), o6, some (.ref s), o8, o9, o10, o11]) (sl := 11) (e := gCall mLeaf [] 2 (gCons (gVar 3) (gCons (gVar 11) (gNil)))) (F := fPage R) (j1 _ (gVar 5) rfl) j2 wl (fun h' u j => j3 h' (.ref (u.at gq1)) j) (fun x hx h' u => by
    obtain ⟨n, _, rfl⟩ := List.mem_map.mp hx
    obtain ⟨h2, d1, d2⟩ := leaf_ok (a1.kn.up u) n
    refine ⟨h2, (call2 (n := 2) (a := gVar 3) (b := gVar 11) (x := .ref k) (y := .int n) (h1 := h') (h2 := h') rfl rfl rfl).trans (d1.trans ?_), d2⟩
    show _ = Out.ok (MV.tup (pageOf R n)) h2
    rw [page_eq a.mem a.eq n])
  have sm := lists_same (u2.at g1) g2 (fun x hx => by
    obtain ⟨y, hy, rfl⟩ := List.mem_map.mp hx
    obtain ⟨n, _, rfl⟩ := List.mem_map.mp hy
    show row1 (MV.tup (pageOf R n))
    rw [page_eq a.mem a.eq n]
    refine trim_row (by simp [ks]) fun x hx => ?_
    unfold ks at hx
    obtain ⟨j, _, rfl⟩ := List.mem_map.mp hx
    exact a.kn.atk _) (by simp [wsI])
  refine ⟨h2, ?_, u1.trans u2⟩
  have := (call2 (n := 2) (g := mSame) (a := ePgs C) (b := eLfs) e1 e2 rfl).trans sm
  simp [cPages, gNot, gTru, this, Out.bind, mTru]
theorem last_ok (a : St C h0 i h s r b k R K L f) {o1 o2 o4 o5 o6 o8 o9 o10 o11 : Option MV} :
    ∃ h', eLast C [some (.ref i), o1, o2, some (.ref k), o4, o5, o6, some (.ref s), o8, o9, o10, o11] h = .ok (.bl true) h' ∧ Up h h' := by
  have wl : ((List.range 80).map fun (j : Nat) => MV.int (j : Nat)).length < 1000 := by decide
  have rg : ∀ m h, gRng1 (gC (.int 80)) m h = .ok (it1R 0 80) h := fun m h => rfl
  have at_ : ∀ (h' : MH) (j : Nat), (it1R 0 80).at_ j h' = some ((List.range 80).map fun (j : Nat) => MV.int (j : Nat))[j]? := fun h' j => by
    rw [List.getElem?_map]
    by_cases hj : j < 80
    · rw [rng_at0 hj, List.getElem?_range hj]; rfl
    · rw [List.getElem?_eq_none (by simpa using hj)]
      show some (if j < 80 then some (MV.int (0 + (j : Nat))) else none) = _
      rw [if_neg hj]; rfl
  obtain ⟨h1, e1, g1, u1⟩ := comp_up (gi := gRng1 (gC (.int 80))) (h := h) (m := [some (.ref i), o1, o2, some (.ref k), o4, o5, o6, some (.ref s), o8, o9, o10, o11]) (sl := 6) (e := gMeth C nGet (mGet C) [] 2 (gVar 7) (gCons (gVar 6) (gNil))) (F := fGet R) (rg _ _) (by simp [it1R]) wl (fun h' u j => at_ h' j) (fun x hx h' u => by
    obtain ⟨n, _, rfl⟩ := List.mem_map.mp hx
    obtain ⟨p, hp⟩ := (a.mem.up u).ins
    have lg : (flds r b p).lookup nGet = none := rfl
    exact ⟨h', (meth1 (n := 2) (o := gVar 7) (a := gVar 6) (x := .int (n : Nat)) (h1 := h') (h2 := h') rfl hp lg rfl rfl).trans (get_ok (a.mem.up u) _), .refl⟩)
  have a1 := a.up u1
  obtain ⟨h2, e2, g2, u2⟩ := comp_up (gi := gRng1 (gC (.int 80))) (h := h1) (m := [some (.ref i), o1, o2, some (.ref k), o4, o5, o6, some (.ref s), o8, o9, o10, o11]) (sl := 6) (e := gDget (gVar 3) (gVar 6)) (F := fGet R) (rg _ _) (by simp [it1R]) wl (fun h' u j => at_ h' j) (fun x hx h' u => by
    obtain ⟨n, _, rfl⟩ := List.mem_map.mp hx
    refine ⟨h', (dget_ok (c := (n : Nat)) (a1.kn.up u) rfl rfl).trans ?_, .refl⟩
    show _ = Out.ok (rget R (n : Nat)) h'
    rw [a.eq])
  have sm := lists_same (u2.at g1) g2 (fun x hx => by
    obtain ⟨y, hy, rfl⟩ := List.mem_map.mp hx
    obtain ⟨n, _, rfl⟩ := List.mem_map.mp hy
    exact .inl (a.mem.at _)) (by simp)
  exact ⟨h2, (call2 (n := 2) (g := mSame) (a := eGets C) (b := eDgs) e1 e2 rfl).trans sm, u1.trans u2⟩
end
theorem right_ok {C : Nat} : Right (mRight C) 2000 := by
  intro h i f B hf0 hf
  have hi := B.lt
  obtain ⟨h1, vs, P, K, b1, b2, b3, b4, b5, b6, b7, b8⟩ := begun_ok B (by omega)
  have n1 : h.n + 1 < h1.n := MH.get_lt b4.at_
  obtain ⟨dt, dk⟩ := pg_data b2 b3
  have rp1 := repr_ok (x := .ref h.n) rfl dt dk (by decide) (by decide)
  -- the memory
  obtain ⟨s, r, bb, R, h2, h3, c1, c2, c3, c4, c5, c6, c7, c8, c9⟩ := make_ok (C := C) (m := [some (.ref i), none, some (.str (PyData.list (dPg vs P)).shown.cps.toList), some (.ref (h.n + 1)), none, some (.ref h.n), none, none, none, none, none, none]) b6 (by omega) rfl rfl b2 b3 hi (by omega)
  have p3 : Pg h3 h.n vs P (h.n + 2) := by
    have p2 := b2.kp c6 (by simp; omega) (fun j hj => by rw [List.mem_singleton.mp hj]; omega)
    exact p2.kp (c8.kp (F := [])) (by simp) (fun j hj => by cases hj)
  obtain ⟨dt3, _⟩ := pg_data p3 b3
  have rp3 := repr_ok (x := .ref h.n) rfl dt3 dk (by decide) (by decide)
  have k3 : Kn h3 (h.n + 1) K 40 := (b4.frame (c6.get _ (MH.get_lt b4.at_) (by simp; omega))).up c8
  -- what was handed in is changed
  obtain ⟨h4, p4, m1, m2, m3⟩ := mut_ok p3 b3 (by omega) (A0 := some (.ref i)) (A1 := none) (A2 := some (.str (PyData.list (dPg vs P)).shown.cps.toList)) (A3 := some (.ref (h.n + 1))) (A4 := none) (A6 := none) (A7 := some (.ref s)) (A8 := none) (A9 := none) (A10 := none) (A11 := none)
  have nq : ∀ j, (j < h.n + 2 ∨ h1.n ≤ j) → ∀ v ∈ vs, v ≠ .ref j := fun j hj v hv e => by
    have f1 := b2.fresh v hv j e
    obtain ⟨l, hl, rfl⟩ := List.getElem_of_mem hv
    have sq := b2.sq l _ _ (List.getElem?_eq_getElem hl) (List.getElem?_eq_getElem (by rw [← b2.len]; exact hl))
    rw [e] at sq
    cases sq with
    | ref e0 => have := MH.get_lt e0; omega
  have st4 : St C h i h4 s r bb (h.n + 1) R K 100 (f + 300) := by
    have kp4 : Kp [i] h h4 := ⟨by have := c8.n; omega, fun j hj hf => by
      have ji : j ≠ i := by simpa using hf
      rw [m3 j (nq j (.inl (by omega))), c8.get j (by omega), c6.get j (by omega) (by simpa using ji), b7.get j hj hf]⟩
    refine ⟨c3.frame fun j hj _ => m3 j (nq j (.inr (c9 j hj))), c4, ?_, fun c => by rw [c5, b5], ?_, ?_, fun j hj => by have := c9 j hj; omega, by omega, hi, kp4, fun p hp => ?_⟩
    · have k4 := k3.frame (m3 (h.n + 1) (nq _ (.inl (by omega))))
      exact ⟨k4.at_, k4.nd, Nat.le_trans k4.len (by decide), k4.pos, k4.ok⟩
    · obtain ⟨x, y, z, w1, w2, w3⟩ := c2
      exact ⟨x, y, z, by rw [m3 i (nq i (.inl (by omega)))]; exact w1, w2, by omega⟩
    · intro z
      have := c9 _ z
      omega
    · have := b8 p hp; omega
  -- thirty turns
  obtain ⟨m5, h5, t1, R5, K5, q1, q2, q4, q5, q6, q8, q9, q10, rfl, st5⟩ := for_loop (it := it1R 0 30) (t := tgName 10) (b := bStep C) (N := 30)
    (fun j m h' => ∃ R K q1 q2 q4 q5 q6 q8 q9 q10, m = [some (.ref i), q1, q2, some (.ref (h.n + 1)), q4, q5, q6, some (.ref s), q8, q9, q10, none] ∧ St C h i h' s r bb (h.n + 1) R K (100 + 2 * j) (f + 300 + 8 * (j : Nat)))
    (fun _ _ _ => rng_end)
    (fun j m h' hj ⟨R, K, q1, q2, q4, q5, q6, q8, q9, q10, em, st⟩ => by
      subst em
      obtain ⟨h'', R', K', p1, p6, p8, p9, e1, st'⟩ := step_ok (t := j) (o1 := q1) (o2 := q2) (o4 := q4) (o5 := q5) (o6 := q6) (o8 := q8) (o9 := q9) (o11 := none) st (by omega) (by omega)
      refine ⟨.int (j : Nat), [some (.ref i), q1, q2, some (.ref (h.n + 1)), q4, q5, q6, some (.ref s), q8, q9, some (.int (j : Nat)), none], h', [some (.ref i), p1, q2, some (.ref (h.n + 1)), q4, q5, p6, some (.ref s), p8, p9, some (.int (j : Nat)), none], h'', rng_at0 hj, rfl, e1, R', K', p1, q2, q4, q5, p6, p8, p9, some (.int (j : Nat)), rfl, ?_⟩
      have e1 : 100 + 2 * (j + 1) = 100 + 2 * j + 2 := by omega
      have e2 : f + 300 + 8 * ((j + 1 : Nat) : Int) = f + 300 + 8 * (j : Nat) + 8 := by omega
      rw [e1, e2]
      exact st')
    31 0 [some (.ref i), none, some (.str (PyData.list (dPg vs P)).shown.cps.toList), some (.ref (h.n + 1)), p4, some (.ref h.n), none, some (.ref s), none, none, none, none] h4 (by decide) (by decide) ⟨R, K, none, _, p4, _, none, none, none, none, rfl, by simpa using st4⟩
  obtain ⟨q, h6, s1, s2, s3⟩ := some_ok (m := [some (.ref i), q1, q2, some (.ref (h.n + 1)), q4, q5, q6, some (.ref s), q8, q9, q10, none]) (h := h5)
  have st6 := st5.up s3
  obtain ⟨h7, u1, u2⟩ := pages_ok st6 s2 (o1 := q1) (o2 := q2) (o4 := q4) (o6 := q6) (o8 := q8) (o9 := q9) (o10 := q10) (o11 := none)
  have st7 := st6.up u2
  obtain ⟨h8, w1, w2⟩ := last_ok st7 (o1 := q1) (o2 := q2) (o4 := q4) (o5 := some (.ref q)) (o6 := q6) (o8 := q8) (o9 := q9) (o10 := q10) (o11 := none)
  have st8 := st7.up w2
  refine ⟨h8, body_rt (v := .bl true) ?_, st8.box.le (by omega), keep_of st8.kp⟩
  have e1 : gAsg (gCall mBegun [] 1 (gCons (gVar 0) (gNil))) (tgTup [5, 3]) [some (.ref i), none, none, none, none, none, none, none, none, none, none, none] h = .nx [some (.ref i), none, none, some (.ref (h.n + 1)), none, some (.ref h.n), none, none, none, none, none, none] h1 := by
    have := (call1 (n := 1) (a := gVar 0) (x := .ref i) (h2 := h) (m := [some (.ref i), none, none, none, none, none, none, none, none, none, none, none]) rfl rfl).trans b1
    unfold gAsg
    rw [this]; rfl
  have e2 : gCB (f1 mRepr) (gCons (gVar 5) (gNil)) [some (.ref i), none, none, some (.ref (h.n + 1)), none, some (.ref h.n), none, none, none, none, none, none] h1 = .ok (.str (PyData.list (dPg vs P)).shown.cps.toList) h1 := rp1
  have e4 : cRep [some (.ref i), none, some (.str (PyData.list (dPg vs P)).shown.cps.toList), some (.ref (h.n + 1)), none, some (.ref h.n), none, some (.ref s), none, none, none, none] h3 = .ok false h3 := by
    have : gCB (f1 mRepr) (gCons (gVar 5) (gNil)) [some (.ref i), none, some (.str (PyData.list (dPg vs P)).shown.cps.toList), some (.ref (h.n + 1)), none, some (.ref h.n), none, some (.ref s), none, none, none, none] h3 = .ok (.str (PyData.list (dPg vs P)).shown.cps.toList) h3 := rp3
    have v2 : ∀ h', gVar 2 [some (.ref i), none, some (.str (PyData.list (dPg vs P)).shown.cps.toList), some (.ref (h.n + 1)), none, some (.ref h.n), none, some (.ref s), none, none, none, none] h' = .ok (.str (PyData.list (dPg vs P)).shown.cps.toList) h' := fun h' => rfl
    simp [cRep, gB, gBin, this, v2, Out.bind, mNeA, isRow, mNeV, mEq, leq_refl, oB]
  have e6 : gFor (gRng1 (gC (.int 30))) (tgName 10) (bStep C) [some (.ref i), none, some (.str (PyData.list (dPg vs P)).shown.cps.toList), some (.ref (h.n + 1)), p4, some (.ref h.n), none, some (.ref s), none, none, none, none] h4 = .nx [some (.ref i), q1, q2, some (.ref (h.n + 1)), q4, q5, q6, some (.ref s), q8, q9, q10, none] h5 := t1
  refine (seq_nx e1).trans ?_
  refine (seq_nx (asg_nx e2)).trans ?_
  refine (seq_nx (asg_nx c1)).trans ?_
  refine (seq_nx ((ifS_f e4).trans rfl)).trans ?_
  refine (seq_nx m1).trans ?_
  refine (seq_nx e6).trans ?_
  refine (seq_nx (asg_nx s1)).trans ?_
  refine (seq_nx ((ifS_f u1).trans rfl)).trans ?_
  show gRet (eLast C) [some (.ref i), q1, q2, some (.ref (h.n + 1)), q4, some (.ref q), q6, some (.ref s), q8, q9, q10, none] h7 = _
  unfold gRet
  rw [w1]; rfl
end XM
set_option Elab.async false
set_option linter.all false
set_option maxRecDepth 100000
set_option maxHeartbeats 4000000
namespace XK
open MI XG XM
open L2 (atI ixN)
def flds (r b : Nat) (q : MV × Int) (p : Int) : List (Nat × MV) := [(fR, .ref r), (fB, .ref b), (fK, q.1), (fM, .int q.2), (fP, .int p)]
/-- what a memory's things are, as its rows tell -/
structure MemW (C : Nat) (h : MH) (s r b : Nat) (R : Rows) (L : Nat) (B : List (Int × MV)) (q : MV × Int) : Prop where
  ins : ∃ p, h.get s = some (.ins C (flds r b q p))
  dr : h.get r = some (.dic (rKv R))
  db : B.length ≤ L ∧ h.get b = some (.dic (iKv B))
  row : ∀ p ∈ R, h.get p.2.1 = some (.lst p.2.2) ∧ p.2.2.length = 8 ∧ ∀ x ∈ p.2.2, atB x = true
  nd : (s :: r :: b :: R.map fun p => p.2.1).Nodup
  keys : (R.map fun p => p.1).Nodup
  len : R.length ≤ L
theorem MemW.frame {C : Nat} {h h' : MH} {s r b L : Nat} {R : Rows} {B : List (Int × MV)} {q : MV × Int} (m : MemW C h s r b R L B q) (e : ∀ j ∈ fp s r b R, j < h.n → h'.get j = h.get j) : MemW C h' s r b R L B q := by
  have g : ∀ {j : Nat} {o : MO}, j ∈ fp s r b R → h.get j = some o → h'.get j = some o := fun hj q => (e _ hj (MH.get_lt q)).trans q
  obtain ⟨p, hp⟩ := m.ins
  obtain ⟨hB, hb⟩ := m.db
  exact ⟨⟨p, g (by simp) hp⟩, g (by simp) m.dr, ⟨hB, g (by simp) hb⟩, fun p hp => ⟨g (by simp; exact .inr (.inr (.inr ⟨_, _, hp⟩))) (m.row p hp).1, (m.row p hp).2⟩, m.nd, m.keys, m.len⟩
theorem MemW.up {C : Nat} {h h' : MH} {s r b L : Nat} {R : Rows} {B : List (Int × MV)} {q : MV × Int} (m : MemW C h s r b R L B q) (u : Up h h') : MemW C h' s r b R L B q := m.frame fun j _ hj => u.get j hj
theorem MemW.lt {C : Nat} {h : MH} {s r b L : Nat} {R : Rows} {B : List (Int × MV)} {q : MV × Int} (m : MemW C h s r b R L B q) : ∀ j ∈ fp s r b R, j < h.n := by
  intro j hj
  obtain ⟨p, hp⟩ := m.ins
  obtain ⟨hB, hb⟩ := m.db
  simp only [fp, List.mem_cons, List.mem_map] at hj
  rcases hj with rfl | rfl | rfl | ⟨p, hp, rfl⟩
  · exact MH.get_lt hp
  · exact MH.get_lt m.dr
  · exact MH.get_lt hb
  · exact MH.get_lt (m.row p hp).1
theorem MemW.le {C : Nat} {h : MH} {s r b L L' : Nat} {R : Rows} {B : List (Int × MV)} {q : MV × Int} (m : MemW C h s r b R L B q) (k : L ≤ L') : MemW C h s r b R L' B q :=
  ⟨m.ins, m.dr, ⟨Nat.le_trans m.db.1 k, m.db.2⟩, m.row, m.nd, m.keys, Nat.le_trans m.len k⟩
theorem MemW.at {C : Nat} {h : MH} {s r b L : Nat} {R : Rows} {B : List (Int × MV)} {q : MV × Int} (m : MemW C h s r b R L B q) (c : Int) : atB (rget R c) = true := by
  unfold rget
  cases k : look R (c / 8) with
  | none => rfl
  | some q =>
    dsimp only
    unfold cellOf
    cases e : q.2[(c % 8).toNat]? with
    | none => rfl
    | some x => exact (m.row _ (look_mem k)).2.2 x (List.mem_of_getElem? e)
section
variable {C : Nat} {h : MH} {s r b L : Nat} {R : Rows} {B : List (Int × MV)} {q : MV × Int}
/-- a memory's field -/
theorem fldR {m : ML} (M : MemW C h s r b R L B q) (e : m[0]? = some (some (.ref s))) : gFld [C] fR (gVar 0) m h = .ok (.ref r) h := by
  obtain ⟨p, hp⟩ := M.ins
  have l : (flds r b q p).lookup fR = some (.ref r) := rfl
  simp [gFld, gUn, gVar, e, Out.bind, mFld, hp, l]
theorem fldB {m : ML} (M : MemW C h s r b R L B q) (e : m[0]? = some (some (.ref s))) : gFld [C] fB (gVar 0) m h = .ok (.ref b) h := by
  obtain ⟨p, hp⟩ := M.ins
  have l : (flds r b q p).lookup fB = some (.ref b) := rfl
  simp [gFld, gUn, gVar, e, Out.bind, mFld, hp, l]
theorem fldK {m : ML} (M : MemW C h s r b R L B q) (e : m[0]? = some (some (.ref s))) : gFld [C] fK (gVar 0) m h = .ok q.1 h := by
  obtain ⟨p, hp⟩ := M.ins
  have l : (flds r b q p).lookup fK = some q.1 := rfl
  simp [gFld, gUn, gVar, e, Out.bind, mFld, hp, l]
theorem isD_r (M : MemW C h s r b R L B q) : isD h (.ref r) = true := by simp [isD, M.dr]
theorem dGet_r (M : MemW C h s r b R L B q) (n : Int) : dGet h (.ref r) (.int n) = some ((look R n).map fun q => .ref q.1) := by simp [dGet, M.dr, mkey, dval_rKv]
theorem get_ok (M : MemW C h s r b R L B q) (c : Int) : mGet C [.ref s, .int c] h = .ok (rget R c) h := by
  have f := fldR (m := [some (.ref s), some (.int c)]) M rfl
  have d := isD_r M
  have g := dGet_r M (c / 8)
  have e1 : ∀ h, mDiv (.int c) (.int 8) h = .ok (.int (c / 8)) h := fun h => rfl
  have e2 : ∀ h, mMod (.int c) (.int 8) h = .ok (.int (c % 8)) h := fun h => rfl
  have v1 : ∀ h, gVar 1 [some (.ref s), some (.int c)] h = .ok (.int c) h := fun h => rfl
  unfold rget
  cases k : look R (c / 8) with
  | none =>
    rw [k] at g
    simp [mGet, gBody, gSeq, gIfS, gB, gBin, gC, v1, Out.bind, Out.bindS, e1, f, mIn, d, mInD, g, gRet, SO.next]
  | some q =>
    rw [k] at g
    obtain ⟨m1, m2, m3⟩ := M.row _ (look_mem k)
    dsimp only at m1 m2
    have hb : (c % 8).toNat < q.2.length := by omega
    have hx : q.2[(c % 8).toNat]? = some (q.2[(c % 8).toNat]) := List.getElem?_eq_getElem hb
    have ix := (Sq.ref m1).ix hx
    have ec : ((c % 8).toNat : Int) = c % 8 := by omega
    rw [ec] at ix
    have i1 : mIx (.ref r) (.int (c / 8)) h = .ok (.ref q.1) h := by simp [mIx, d, mIxD, g, oV]
    simp [mGet, gBody, gSeq, gIfS, gB, gBin, gC, v1, Out.bind, Out.bindS, e1, e2, f, mIn, d, mInD, g, gRet, gNext, SO.next, i1, ix, cellOf, hx]
theorem page_ok (M : MemW C h s r b R L B q) (n : Int) : ∃ h', mPage C [.ref s, .int n] h = .ok (.tup (pageOf R n)) h' ∧ Up h h' := by
  have f := fldR (m := [some (.ref s), some (.int n)]) M rfl
  have d := isD_r M
  have M1 := M.up (Up.push (o := .lst []))
  have g := dGet_r M1 n
  have v1 : ∀ h, gVar 1 [some (.ref s), some (.int n)] h = .ok (.int n) h := fun h => rfl
  unfold pageOf
  cases k : look R n with
  | none =>
    rw [k] at g
    obtain ⟨h', e, u⟩ := we_ok (h := h.push (.lst [])) (v := .ref h.n) (xs := []) (.ref get_top) (by decide)
    refine ⟨h', ?_, Up.push.trans u⟩
    have t : trim [] = [] := rfl
    rw [t] at e
    simp [mPage, gBody, gRet, gCall, gCons, gNil, gDget2, f, d, v1, gLst, Out.bind, Out.bindS, g, e]
  | some q =>
    rw [k] at g
    obtain ⟨m1, m2, m3⟩ := M1.row _ (look_mem k)
    dsimp only at m1 m2
    obtain ⟨h', e, u⟩ := we_ok (h := h.push (.lst [])) (v := .ref q.1) (xs := q.2) (.ref m1) (by omega)
    refine ⟨h', ?_, Up.push.trans u⟩
    simp [mPage, gBody, gRet, gCall, gCons, gNil, gDget2, f, d, v1, gLst, Out.bind, Out.bindS, g, e]
end
end XK
set_option Elab.async false
set_option linter.all false
set_option maxRecDepth 100000
set_option maxHeartbeats 4000000
namespace XK
open MI XG XM
open L2 (atI ixN)
def addk (n : Int) (v : MV) (B : List (Int × MV)) : List (Int × MV) := match kfind B n with
  | some _ => B
  | none => B ++ [(n, v)]
abbrev KO := Option (Nat × List (Int × MV))
def kv : KO → MV
  | none => .non
  | some p => .ref p.1
def kr : KO → List Nat
  | none => []
  | some p => [p.1]
structure MemK (C : Nat) (h : MH) (s r b : Nat) (R : Rows) (L : Nat) (B : List (Int × MV)) (ko : KO) (km : Int) : Prop where
  w : MemW C h s r b R L B (kv ko, km)
  k : ∀ kf KB, ko = some (kf, KB) → h.get kf = some (.dic (iKv KB)) ∧ KB.length ≤ L ∧ kf ∉ fp s r b R
section
variable {C : Nat} {h : MH} {s r b L : Nat} {R : Rows} {B : List (Int × MV)} {ko : KO} {km : Int}
theorem MemW.ne {q : MV × Int} (M : MemW C h s r b R L B q) : s ≠ r ∧ s ≠ b ∧ r ≠ b ∧ (∀ p ∈ R, p.2.1 ≠ s ∧ p.2.1 ≠ r ∧ p.2.1 ≠ b) := by
  have nd := M.nd
  simp only [List.nodup_cons, List.mem_cons, List.mem_map, not_or, not_exists, not_and] at nd
  obtain ⟨⟨a1, a2, a3⟩, ⟨b1, b2⟩, c1, _⟩ := nd
  exact ⟨a1, a2, b1, fun p hp => ⟨a3 p hp, b2 p hp, c1 p hp⟩⟩
theorem MemK.frame {h' : MH} (m : MemK C h s r b R L B ko km) (e : ∀ j ∈ fp s r b R ++ kr ko, j < h.n → h'.get j = h.get j) : MemK C h' s r b R L B ko km :=
  ⟨m.w.frame fun j hj => e j (List.mem_append.mpr (.inl hj)), fun kf KB ek => by
    obtain ⟨a1, a2, a3⟩ := m.k kf KB ek
    exact ⟨(e kf (List.mem_append.mpr (.inr (by rw [ek]; simp [kr]))) (MH.get_lt a1)).trans a1, a2, a3⟩⟩
theorem MemK.up {h' : MH} (m : MemK C h s r b R L B ko km) (u : Up h h') : MemK C h' s r b R L B ko km := m.frame fun j _ hj => u.get j hj
theorem MemK.le {L' : Nat} (m : MemK C h s r b R L B ko km) (k : L ≤ L') : MemK C h s r b R L' B ko km :=
  ⟨m.w.le k, fun kf KB ek => by obtain ⟨a1, a2, a3⟩ := m.k kf KB ek; exact ⟨a1, Nat.le_trans a2 k, a3⟩⟩
theorem keep_ok (M : MemK C h s r b R L B ko km) (hL : L < 1000000) (n : Int) :
    ∃ h', mKeep C [.ref s, .int n] h = .ok .non h' ∧ MemK C h' s r b R (L + 1) (addk n (.tup (pageOf R n)) B) (ko.map fun p => (p.1, addk n (.tup (pageOf R n)) p.2)) km ∧ Kp (b :: kr ko) h h' := by
  obtain ⟨n1, n2, n3, n4⟩ := M.w.ne
  have v0 : ∀ h, gVar 0 [some (.ref s), some (.int n)] h = .ok (.ref s) h := fun h => rfl
  have v1 : ∀ h, gVar 1 [some (.ref s), some (.int n)] h = .ok (.int n) h := fun h => rfl
  have lpg : ∀ p, (flds r b (kv ko, km) p).lookup nPage = none := fun p => rfl
  -- the base
  have one : ∃ h1, gIfS (gB (gBin (mIn fun b => !b) (gVar 1) (gFld [C] fB (gVar 0)))) (gAsg (gMeth C nPage (mPage C) [] 2 (gVar 0) (gCons (gVar 1) (gNil))) (tgSub (gFld [C] fB (gVar 0)) (gVar 1))) (gNext) [some (.ref s), some (.int n)] h = .nx [some (.ref s), some (.int n)] h1 ∧
      MemK C h1 s r b R (L + 1) (addk n (.tup (pageOf R n)) B) ko km ∧ Kp [b] h h1 := by
    have fb := fldB (m := [some (.ref s), some (.int n)]) M.w rfl
    obtain ⟨hB, hb⟩ := M.w.db
    have db : isD h (.ref b) = true := by simp [isD, hb]
    have gb : dGet h (.ref b) (.int n) = some (kfind B n) := by simp [dGet, hb, mkey, dval_iKv]
    cases k : kfind B n with
    | some x =>
      rw [k] at gb
      have ea : addk n (.tup (pageOf R n)) B = B := by unfold addk; rw [k]
      rw [ea]
      refine ⟨h, (ifS_f (h1 := h) ?_).trans rfl, M.le (Nat.le_succ _), .refl⟩
      simp [gB, gBin, v1, fb, Out.bind, mIn, db, mInD, gb]
    | none =>
      rw [k] at gb
      have ea : addk n (.tup (pageOf R n)) B = B ++ [(n, .tup (pageOf R n))] := by unfold addk; rw [k]
      rw [ea]
      obtain ⟨h1, e1, u1⟩ := page_ok M.w n
      have M1 := M.up u1
      have fb1 := fldB (m := [some (.ref s), some (.int n)]) M1.w rfl
      have hb1 : h1.get b = some (.dic (iKv B)) := u1.at hb
      have db1 : isD h1 (.ref b) = true := by simp [isD, hb1]
      obtain ⟨p, hp⟩ := M.w.ins
      have pg := meth1 (c := C) (f := nPage) (g := mPage C) (n := 2) (v0 h) hp (lpg p) (v1 h) rfl
      have nw : dval keq (iKv B) (.inl n) = none := by rw [dval_iKv, k]
      have ln : (iKv B).length < 1000000 := by unfold iKv; rw [List.length_map]; omega
      have kv1 : iKv B ++ [(.inl n, .tup (pageOf R n))] = iKv (B ++ [(n, .tup (pageOf R n))]) := by simp [iKv]
      refine ⟨h1.set b (.dic (iKv (B ++ [(n, .tup (pageOf R n))]))), (ifS_t (h1 := h) ?_).trans ?_, ⟨⟨?_, ?_, ⟨by simp; omega, set_get hb1⟩, fun p hp => ⟨?_, (M1.w.row p hp).2⟩, M1.w.nd, M1.w.keys, Nat.le_trans M1.w.len (Nat.le_succ _)⟩, fun kf KB ek => ?_⟩, u1.kp.trans (Kp.set (MH.get_lt hb1) (by simp))⟩
      · simp [gB, gBin, v1, fb, Out.bind, mIn, db, mInD, gb]
      · unfold gAsg
        rw [pg, e1]
        simp [Out.bindS, tgSub, fb1, v1, putM, db1, dPutM, hb1, mkey, ln, dput_new nw, SO.only, kv1]
      · obtain ⟨p, hp⟩ := M1.w.ins
        exact ⟨p, by rw [set_ne hb1 n2]; exact hp⟩
      · rw [set_ne hb1 n3]; exact M1.w.dr
      · rw [set_ne hb1 (n4 p hp).2.2]; exact (M1.w.row p hp).1
      · obtain ⟨a1, a2, a3⟩ := M1.k kf KB ek
        exact ⟨by rw [set_ne hb1 (fun z => a3 (by rw [z]; simp))]; exact a1, by omega, a3⟩
  obtain ⟨h1, s1, M1, K1⟩ := one
  have fk := fldK (m := [some (.ref s), some (.int n)]) M1.w rfl
  -- the frozen state
  cases ko with
  | none =>
    refine ⟨h1, body_nx (m := [some (.ref s), some (.int n)]) ((seq_nx s1).trans ((ifS_f (h1 := h1) ?_).trans rfl)), M1, K1⟩
    have fk' : gFld [C] fK (gVar 0) [some (.ref s), some (.int n)] h1 = .ok .non h1 := fk
    simp [gAnd, gB, gNotN, gUn, fk', Out.bind, mIsN]
  | some kk =>
    obtain ⟨kf, KB⟩ := kk
    obtain ⟨a1, a2, a3⟩ := M1.k kf KB rfl
    have fk' : ∀ {h2 : MH} {B' : List (Int × MV)} {L' : Nat} {R' : Rows}, MemW C h2 s r b R' L' B' (kv (some (kf, KB)), km) → gFld [C] fK (gVar 0) [some (.ref s), some (.int n)] h2 = .ok (.ref kf) h2 := fun M => fldK (m := [some (.ref s), some (.int n)]) M rfl
    have dk : isD h1 (.ref kf) = true := by simp [isD, a1]
    have gk : dGet h1 (.ref kf) (.int n) = some (kfind KB n) := by simp [dGet, a1, mkey, dval_iKv]
    cases k : kfind KB n with
    | some x =>
      rw [k] at gk
      have ea : addk n (.tup (pageOf R n)) KB = KB := by unfold addk; rw [k]
      refine ⟨h1, body_nx (m := [some (.ref s), some (.int n)]) ((seq_nx s1).trans ((ifS_f (h1 := h1) ?_).trans rfl)), ?_, K1.le (by simp)⟩
      · have f := fk' M1.w
        simp [gAnd, gB, gNotN, gUn, f, Out.bind, mIsN, gBin, v1, mIn, dk, mInD, gk]
      · have e2 : (Option.map (fun p : Nat × List (Int × MV) => (p.1, addk n (.tup (pageOf R n)) p.2)) (some (kf, KB))) = some (kf, KB) := by show some (kf, addk n _ KB) = _; rw [ea]
        rw [e2]; exact M1
    | none =>
      rw [k] at gk
      have ea : addk n (.tup (pageOf R n)) KB = KB ++ [(n, .tup (pageOf R n))] := by unfold addk; rw [k]
      have e2 : (Option.map (fun p : Nat × List (Int × MV) => (p.1, addk n (.tup (pageOf R n)) p.2)) (some (kf, KB))) = some (kf, KB ++ [(n, .tup (pageOf R n))]) := by show some (kf, addk n _ KB) = _; rw [ea]
      rw [e2]
      obtain ⟨h2, e3, u2⟩ := page_ok M1.w n
      have M2 := M1.up u2
      obtain ⟨p, hp⟩ := M1.w.ins
      have pg := meth1 (c := C) (f := nPage) (g := mPage C) (n := 2) (v0 h1) hp rfl (v1 h1) rfl
      have nw : dval keq (iKv KB) (.inl n) = none := by rw [dval_iKv, k]
      have ln : (iKv KB).length < 1000000 := by unfold iKv; rw [List.length_map]; have := (M.k kf KB rfl).2.1; omega
      have kv1 : iKv KB ++ [(.inl n, .tup (pageOf R n))] = iKv (KB ++ [(n, .tup (pageOf R n))]) := by simp [iKv]
      have b1 := u2.at a1
      have d1 : isD h2 (.ref kf) = true := by simp [isD, b1]
      refine ⟨h2.set kf (.dic (iKv (KB ++ [(n, .tup (pageOf R n))]))), body_nx (m := [some (.ref s), some (.int n)]) ((seq_nx s1).trans ((ifS_t (h1 := h1) ?_).trans ?_)), ⟨M2.w.frame fun j hj _ => set_ne b1 (fun z => a3 (by rw [← z]; exact hj)), fun kf' KB' ek => ?_⟩, (K1.le (by simp)).trans (u2.kp.trans (Kp.set (MH.get_lt b1) (by simp [kr])))⟩
      · have f := fk' M1.w
        simp [gAnd, gB, gNotN, gUn, f, Out.bind, mIsN, gBin, v1, mIn, dk, mInD, gk]
      · unfold gAsg
        rw [pg, e3]
        have f := fk' M2.w
        simp [Out.bindS, tgSub, f, v1, putM, d1, dPutM, b1, mkey, ln, dput_new nw, SO.only, kv1]
      · cases ek
        exact ⟨set_get b1, by simp; have := (M.k kf KB rfl).2.1; omega, a3⟩
end
end XK
set_option Elab.async false
set_option linter.all false
set_option maxRecDepth 100000
set_option maxHeartbeats 4000000
namespace XK
open MI XG XM
open L2 (atI ixN)
section
variable {C : Nat} {h : MH} {s r b L : Nat} {R : Rows} {B : List (Int × MV)} {kq : MV × Int}
theorem setd_ok (M : MemW C h s r b R L B kq) (hL : L + 1 < 1000000) {n : Int} {m : ML} (e0 : m[0]? = some (some (.ref s))) (e3 : m[3]? = some (some (.int n))) :
    ∃ h' R1 q xs, gSetd (gFld [C] fR (gVar 0)) (gVar 3) (gBin mMulA (gLst (gCons (gC .non) (gNil))) (gC (.int 8))) m h = .ok (.ref q) h' ∧ MemW C h' s r b R1 (L + 1) B kq ∧ look R1 n = some (q, xs) ∧ xs.length = 8 ∧ Kp (fp s r b R) h h' ∧
      (∀ c, rget R1 c = rget R c) ∧ (∀ j ∈ fp s r b R1, j ∈ fp s r b R ∨ h.n ≤ j) ∧ ∀ p ∈ R1, p.1 ≠ n → p ∈ R := by
  obtain ⟨n1, n2, n3, n4⟩ := M.ne
  have f := fldR M e0
  have v3 : gVar 3 m h = .ok (.int n) h := var_at e3
  have d := isD_r M
  have u2 : Up h ((h.push (.lst [.non])).push (.lst nons)) := Up.push.trans Up.push
  have M2 := M.up u2
  have mk : gBin mMulA (gLst (gCons (gC .non) (gNil))) (gC (.int 8)) m h = .ok (.ref (h.n + 1)) ((h.push (.lst [.non])).push (.lst nons)) := by
    have g1 : (h.push (.lst [.non])).get h.n = some (.lst [.non]) := get_top
    simp [gBin, gLst, gCons, gC, gNil, Out.bind, mMulA, isTup, isStr, mMulV, isRep, mRepL, g1]
    exact ⟨rfl, rfl⟩
  cases k : look R n with
  | some q =>
    have mr := M.row _ (look_mem k)
    have g : dval keq (rKv R) (.inl n) = some (.ref q.1) := by rw [dval_rKv, k]; rfl
    refine ⟨_, R, q.1, q.2, ?_, M2.le (Nat.le_succ _), k, mr.2.1, u2.kp, fun _ => rfl, fun j hj => .inl hj, fun p hp _ => hp⟩
    have ln : (rKv R).length < 1000000 := by unfold rKv; rw [List.length_map]; have := M.len; omega
    simp only [gSetd, f, Out.bind, d, if_pos, v3, mk, mkey, M2.dr, ln, g]
  | none =>
    have g : dval keq (rKv R) (.inl n) = none := by rw [dval_rKv, k]; rfl
    have ln : (rKv R).length < 1000000 := by unfold rKv; rw [List.length_map]; have := M.len; omega
    have gq : ((h.push (.lst [.non])).push (.lst nons)).get (h.n + 1) = some (.lst nons) := get_top
    have lt := M.lt
    have ltr : r < h.n := lt r (by simp)
    have old : ∀ j ∈ fp s r b R, j ≠ h.n + 1 := fun j hj => by have := lt j hj; omega
    have kv : rKv R ++ [(.inl n, .ref (h.n + 1))] = rKv (R ++ [(n, h.n + 1, nons)]) := by simp [rKv]
    refine ⟨((h.push (.lst [.non])).push (.lst nons)).set r (.dic (rKv (R ++ [(n, h.n + 1, nons)]))), R ++ [(n, h.n + 1, nons)], h.n + 1, nons, ?_, ⟨?_, ?_, ?_, fun p hp => ?_, ?_, ?_, ?_⟩, ?_, rfl, ?_, fun c => ?_, fun j hj => ?_, fun p hp hn => ?_⟩
    · simp only [gSetd, f, Out.bind, d, if_pos, v3, mk, mkey, M2.dr, ln, g, dput_new g, kv]
    · obtain ⟨p, hp⟩ := M2.ins
      exact ⟨p, by rw [set_ne M2.dr n1]; exact hp⟩
    · exact set_get M2.dr
    · obtain ⟨hB, hb⟩ := M2.db
      exact ⟨by omega, by rw [set_ne M2.dr (Ne.symm n3)]; exact hb⟩
    · rcases List.mem_append.mp hp with hp | hp
      · have := M2.row p hp
        exact ⟨by rw [set_ne M2.dr (n4 p hp).2.1]; exact this.1, this.2⟩
      · cases List.mem_singleton.mp hp
        exact ⟨by rw [set_ne M2.dr (by dsimp only; omega)]; exact gq, rfl, fun x hx => by rw [nons_all x hx]; rfl⟩
    · have e : (R ++ [(n, h.n + 1, nons)]).map (fun p => p.2.1) = (R.map fun p => p.2.1) ++ [h.n + 1] := by simp
      rw [e]
      show ((fp s r b R) ++ [h.n + 1]).Nodup
      exact List.nodup_append.mpr ⟨M.nd, by simp, fun a ha c hc => by rw [List.mem_singleton.mp hc]; exact old a ha⟩
    · have e : (R ++ [(n, h.n + 1, nons)]).map (fun p => p.1) = (R.map fun p => p.1) ++ [n] := by simp
      rw [e]
      exact List.nodup_append.mpr ⟨M.keys, by simp, fun a ha c hc => by rw [List.mem_singleton.mp hc]; exact fun z => look_none k (by rw [← z]; exact ha)⟩
    · rw [List.length_append]; have := M.len; simp; omega
    · rw [look_snoc, k]; simp
    · exact u2.kp.trans (Kp.set (by show r < h.n + 1 + 1; omega) (by simp))
    · unfold rget
      rw [look_snoc]
      cases k2 : look R (c / 8) with
      | some y => rfl
      | none =>
        dsimp only
        by_cases z : n = c / 8
        · rw [if_pos z]
          dsimp only
          unfold cellOf
          cases e : nons[(c % 8).toNat]? with
          | none => rfl
          | some y => exact nons_all y (List.mem_of_getElem? e)
        · rw [if_neg z]
    · simp only [fp, List.map_append, List.map_cons, List.map_nil, List.mem_cons, List.mem_append, List.not_mem_nil, or_false] at hj ⊢
      rcases hj with z | z | z | z | z
      · exact .inl (.inl z)
      · exact .inl (.inr (.inl z))
      · exact .inl (.inr (.inr (.inl z)))
      · exact .inl (.inr (.inr (.inr z)))
      · exact .inr (by omega)
    · rcases List.mem_append.mp hp with hp | hp
      · exact hp
      · cases List.mem_singleton.mp hp
        exact absurd rfl hn
/-- a cell is written -/
theorem cell_ok (M : MemW C h s r b R L B kq) {n : Int} {q : Nat} {xs : List MV} (l : look R n = some (q, xs)) {k : Nat} {a : MV} (ha : atB a = true) : MemW C (h.set q (.lst (xs.set k a))) s r b (setc n (xs.set k a) R) L B kq := by
  obtain ⟨n1, n2, n3, n4⟩ := M.ne
  have hm := look_mem l
  have hq := M.row _ hm
  dsimp only at hq
  have nq := n4 _ hm
  dsimp only at nq
  have nr : (R.map fun p => p.2.1).Nodup := by
    have := M.nd
    simp only [List.nodup_cons] at this
    exact this.2.2.2
  refine ⟨?_, ?_, ?_, fun p hp => ?_, ?_, ?_, ?_⟩
  · obtain ⟨p, hp⟩ := M.ins
    exact ⟨p, by rw [set_ne hq.1 (Ne.symm nq.1)]; exact hp⟩
  · rw [setc_kv, set_ne hq.1 (Ne.symm nq.2.1)]; exact M.dr
  · obtain ⟨hB, hb⟩ := M.db
    exact ⟨hB, by rw [set_ne hq.1 (Ne.symm nq.2.2)]; exact hb⟩
  · unfold setc at hp
    obtain ⟨p0, hp0, rfl⟩ := List.mem_map.mp hp
    by_cases c : p0.1 = n
    · rw [if_pos c]
      have e := look_of_mem M.keys hp0
      rw [c, l] at e
      have e2 : p0.2.1 = q := by rw [← Option.some.inj e]
      refine ⟨by dsimp only; rw [e2]; exact set_get hq.1, by dsimp only; rw [List.length_set]; exact hq.2.1, fun x hx => ?_⟩
      rcases List.mem_or_eq_of_mem_set hx with z | z
      · exact hq.2.2 x z
      · rw [z]; exact ha
    · rw [if_neg c]
      have := M.row p0 hp0
      refine ⟨?_, this.2⟩
      rw [set_ne hq.1]
      · exact this.1
      · intro z
        have := inj_map nr hp0 hm z
        rw [this] at c
        exact c rfl
  · rw [setc_refs]; exact M.nd
  · rw [setc_keys]; exact M.keys
  · unfold setc; rw [List.length_map]; exact M.len
/-- a row is dropped -/
theorem drop_ok (M : MemW C h s r b R L B kq) (n : Int) : MemW C (h.set r (.dic (rKv (drp n R)))) s r b (drp n R) L B kq := by
  obtain ⟨n1, n2, n3, n4⟩ := M.ne
  have sub : (drp n R).Sublist R := List.filter_sublist
  refine ⟨?_, set_get M.dr, ?_, fun p hp => ?_, ?_, ?_, ?_⟩
  · obtain ⟨p, hp⟩ := M.ins
    exact ⟨p, by rw [set_ne M.dr n1]; exact hp⟩
  · obtain ⟨hB, hb⟩ := M.db
    exact ⟨hB, by rw [set_ne M.dr (Ne.symm n3)]; exact hb⟩
  · have hp' := sub.subset hp
    have := M.row p hp'
    exact ⟨by rw [set_ne M.dr (n4 p hp').2.1]; exact this.1, this.2⟩
  · have := M.nd
    exact this.sublist (((((sub.map fun p => p.2.1).cons₂ b).cons₂ r).cons₂ s))
  · exact M.keys.sublist (sub.map _)
  · exact Nat.le_trans sub.length_le M.len
theorem puts_ok (M : MemW C h s r b R L B kq) {p : Int} : MemW C (h.set s (.ins C (flds r b kq p))) s r b R L B kq := by
  obtain ⟨n1, n2, n3, n4⟩ := M.ne
  obtain ⟨p0, hp0⟩ := M.ins
  refine ⟨⟨p, set_get hp0⟩, ?_, ?_, fun p hp => ?_, M.nd, M.keys, M.len⟩
  · rw [set_ne hp0 (Ne.symm n1)]; exact M.dr
  · obtain ⟨hB, hb⟩ := M.db
    exact ⟨hB, by rw [set_ne hp0 (Ne.symm n2)]; exact hb⟩
  · have := M.row p hp
    exact ⟨by rw [set_ne hp0 (n4 p hp).1]; exact this.1, this.2⟩
end
end XK
set_option Elab.async false
set_option linter.all false
set_option maxRecDepth 100000
set_option maxHeartbeats 4000000
namespace XK
open MI XG XM
open L2 (atI ixN)
def mPutX (C : Nat) : MF := gBody 5 (gSeq (gIfS (gB (gBin mEqX (gMeth C nGet (mGet C) [] 2 (gVar 0) (gCons (gVar 1) (gNil))) (gVar 2))) (gRetN) (gNext)) (gSeq (gAsg (gBin mDiv (gVar 1) (gC (.int 8))) (tgName 3)) (gSeq (gExpr (gMeth C nKeep (mKeep C) [] 2 (gVar 0) (gCons (gVar 3) (gNil)))) (gSeq (gAsg (gSetd (gFld [C] fR (gVar 0)) (gVar 3) (gBin mMulA (gLst (gCons (gC .non) (gNil))) (gC (.int 8)))) (tgName 4)) (gSeq (gAsg (gVar 2) (tgSub (gVar 4) (gBin mMod (gVar 1) (gC (.int 8))))) (gSeq (gIfS (gNot (gTru (gCall mWE [] 1 (gCons (gVar 4) (gNil))))) (gDel (gFld [C] fR (gVar 0)) (gVar 3)) (gNext)) (gFldAug [C] fP (fun i j => i + j) (gVar 0) (gC (.int 1)))))))))
section
variable {C : Nat} {h : MH} {s r b L : Nat} {R : Rows} {B : List (Int × MV)} {kq : MV × Int} {ko : KO} {km : Int}
theorem gDel_ok (M : MemW C h s r b R L B kq) {n : Int} {m : ML} (e0 : m[0]? = some (some (.ref s))) (e3 : m[3]? = some (some (.int n))) {q : Nat × List MV} (l : look R n = some q) :
    gDel (gFld [C] fR (gVar 0)) (gVar 3) m h = .nx m (h.set r (.dic (rKv (drp n R)))) := by
  have f := fldR M e0
  have v3 : gVar 3 m h = .ok (.int n) h := var_at e3
  have g : dval keq (rKv R) (.inl n) = some (.ref q.1) := by rw [dval_rKv, l]; rfl
  simp [gDel, f, Out.bindS, v3, mkey, M.dr, g, ddrop_rKv]
theorem gPuts_ok (M : MemW C h s r b R L B kq) {m : ML} (e0 : m[0]? = some (some (.ref s))) : ∃ p, gFldAug [C] fP (fun i j => i + j) (gVar 0) (gC (.int 1)) m h = .nx m (h.set s (.ins C (flds r b kq p))) := by
  obtain ⟨p, hp⟩ := M.ins
  have v0 : gVar 0 m h = .ok (.ref s) h := var_at e0
  have l : (flds r b kq p).lookup fP = some (.int p) := rfl
  have l2 : (flds r b kq p).length < 900 := by simp [flds]
  have l3 : mput fP (.int (p + 1)) (flds r b kq p) = flds r b kq (p + 1) := rfl
  exact ⟨p + 1, by simp [gFldAug, v0, Out.bindS, mFld, hp, l, gC, l2, l3]⟩
theorem put_ok (M : MemK C h s r b R L B ko km) (N : Ne R) (hL : L + 2 < 1000000) (c : Int) {a : MV} (ha : atB a = true) :
    ∃ h' R' B' ko', mPutX C [.ref s, .int c, a] h = .ok .non h' ∧ MemK C h' s r b R' (L + 2) B' ko' km ∧ Ne R' ∧ (∀ x, rget R' x = if x = c then a else rget R x) ∧ Kp (fp s r b R ++ kr ko) h h' ∧ (∀ j ∈ fp s r b R', j ∈ fp s r b R ∨ h.n ≤ j) ∧
      (((∀ x, rget R' x = rget R x) ∧ B' = B ∧ ko' = ko) ∨ (B' = addk (c / 8) (.tup (pageOf R (c / 8))) B ∧ ko' = ko.map fun p => (p.1, addk (c / 8) (.tup (pageOf R (c / 8))) p.2))) := by
  obtain ⟨d, e1, e2⟩ := at_eq (M.w.at c) ha
  obtain ⟨p, hp⟩ := M.w.ins
  have lg : (flds r b (kv ko, km) p).lookup nGet = none := rfl
  have lk : (flds r b (kv ko, km) p).lookup nKeep = none := rfl
  have hc : gB (gBin mEqX (gMeth C nGet (mGet C) [] 2 (gVar 0) (gCons (gVar 1) (gNil))) (gVar 2)) [some (.ref s), some (.int c), some a, none, none] h = .ok d h := by
    have g : gMeth C nGet (mGet C) [] 2 (gVar 0) (gCons (gVar 1) (gNil)) [some (.ref s), some (.int c), some a, none, none] h = .ok (rget R c) h := (meth1 (h1 := h) (h2 := h) (x := .int c) rfl hp lg rfl rfl).trans (get_ok M.w c)
    have v2 : gVar 2 [some (.ref s), some (.int c), some a, none, none] h = .ok a h := rfl
    simp [gB, gBin, Out.bind, g, v2, mEqX, at_row (M.w.at c), mEqV, e1, oB]
  cases d with
  | true =>
    have eq := e2.mp rfl
    refine ⟨h, R, B, ko, body_rt (seq_rt ((ifS_t hc).trans rfl)), M.le (by omega), N, fun x => ?_, .refl, fun j hj => .inl hj, .inl ⟨fun _ => rfl, rfl, rfl⟩⟩
    by_cases z : x = c
    · rw [if_pos z, z, eq]
    · rw [if_neg z]
  | false =>
    obtain ⟨h1, k1, M1, K1⟩ := keep_ok M (by omega) (c / 8)
    obtain ⟨h2, R1, q, xs, d1, M2, l2, x8, K2, g2, f2, o2⟩ := setd_ok (n := c / 8) (m := [some (.ref s), some (.int c), some a, some (.int (c / 8)), none]) M1.w (by omega) rfl rfl
    have M3 := cell_ok M2 l2 (k := (c % 8).toNat) ha
    have hq := (M2.row _ (look_mem l2)).1
    dsimp only at hq
    have hq3 : (h2.set q (.lst (xs.set (c % 8).toNat a))).get q = some (.lst (xs.set (c % 8).toNat a)) := set_get hq
    obtain ⟨h4, e4, u4⟩ := we_ok (.ref hq3) (by rw [List.length_set, x8]; decide)
    have M4 := M3.up u4
    have l4 : look (setc (c / 8) (xs.set (c % 8).toNat a) R1) (c / 8) = some (q, xs.set (c % 8).toNat a) := by rw [look_setc, if_pos rfl, l2]; rfl
    have rg3 := rget_setc l2 x8 (a := a)
    -- what is left of the rows
    have six : ∃ h5 R5, gIfS (gNot (gTru (gCall mWE [] 1 (gCons (gVar 4) (gNil))))) (gDel (gFld [C] fR (gVar 0)) (gVar 3)) (gNext) [some (.ref s), some (.int c), some a, some (.int (c / 8)), some (.ref q)] (h2.set q (.lst (xs.set (c % 8).toNat a))) = .nx [some (.ref s), some (.int c), some a, some (.int (c / 8)), some (.ref q)] h5 ∧
        MemW C h5 s r b R5 (L + 1 + 1) (addk (c / 8) (.tup (pageOf R (c / 8))) B) (kv (ko.map fun p => (p.1, addk (c / 8) (.tup (pageOf R (c / 8))) p.2)), km) ∧ Ne R5 ∧ (∀ x, rget R5 x = rget (setc (c / 8) (xs.set (c % 8).toNat a) R1) x) ∧ h4.n ≤ h5.n ∧ (∀ j, j ≠ r → h5.get j = h4.get j) ∧ (∀ j ∈ fp s r b R5, j ∈ fp s r b R1) := by
      have v4 : ∀ h, gVar 4 [some (.ref s), some (.int c), some a, some (.int (c / 8)), some (.ref q)] h = .ok (.ref q) h := fun h => rfl
      have cd : gNot (gTru (gCall mWE [] 1 (gCons (gVar 4) (gNil)))) [some (.ref s), some (.int c), some a, some (.int (c / 8)), some (.ref q)] (h2.set q (.lst (xs.set (c % 8).toNat a))) = .ok ((trim (xs.set (c % 8).toNat a)).isEmpty) h4 := by
        have := (call1 (n := 1) (v4 _) rfl).trans e4
        simp [gNot, gTru, this, Out.bind, mTru, seqOf]
      have oldm : ∀ p ∈ setc (c / 8) (xs.set (c % 8).toNat a) R1, p.1 ≠ c / 8 → p ∈ R := fun p hp hn => by
        unfold setc at hp
        obtain ⟨p0, hp0, rfl⟩ := List.mem_map.mp hp
        by_cases z : p0.1 = c / 8
        · rw [if_pos z] at hn; exact absurd z hn
        · rw [if_neg z]; exact o2 p0 hp0 z
      have refs : ∀ j ∈ fp s r b (setc (c / 8) (xs.set (c % 8).toNat a) R1), j ∈ fp s r b R1 := fun j hj => by
        unfold fp at hj ⊢
        rw [setc_refs] at hj; exact hj
      cases t : (trim (xs.set (c % 8).toNat a)).isEmpty with
      | true =>
        rw [t] at cd
        have t' : trim (xs.set (c % 8).toNat a) = [] := by simpa using t
        refine ⟨_, _, (ifS_t cd).trans (gDel_ok M4 rfl rfl l4), drop_ok M4 (c / 8), fun p hp => ?_, rget_drp l4 t', Nat.le_refl _, fun j hj => set_ne M4.dr hj, fun j hj => ?_⟩
        · unfold drp at hp
          obtain ⟨hp1, hp2⟩ := List.mem_filter.mp hp
          exact N p (oldm p hp1 (by simpa using hp2))
        · refine refs j ?_
          simp only [fp, List.mem_cons] at hj ⊢
          rcases hj with z | z | z | z
          · exact .inl z
          · exact .inr (.inl z)
          · exact .inr (.inr (.inl z))
          · refine .inr (.inr (.inr ?_))
            obtain ⟨p, hp, e⟩ := List.mem_map.mp z
            exact List.mem_map.mpr ⟨p, (List.mem_filter.mp hp).1, e⟩
      | false =>
        rw [t] at cd
        refine ⟨h4, _, (ifS_f cd).trans rfl, M4, fun p hp => ?_, fun _ => rfl, Nat.le_refl _, fun _ _ => rfl, refs⟩
        by_cases z : p.1 = c / 8
        · have e := look_of_mem M4.keys hp
          rw [z, l4] at e
          have e2 : p.2.2 = xs.set (c % 8).toNat a := by rw [← Option.some.inj e]
          rw [e2]
          intro y
          rw [y] at t
          cases t
        · exact N p (oldm p hp z)
    obtain ⟨h5, R5, s6, M5, N5, g5, n5, k5, f5⟩ := six
    obtain ⟨p6, s7⟩ := gPuts_ok (m := [some (.ref s), some (.int c), some a, some (.int (c / 8)), some (.ref q)]) M5 rfl
    have M6 := puts_ok M5 (p := p6)
    obtain ⟨p5, hp5⟩ := M5.ins
    have fq : q ∈ fp s r b R ∨ h1.n ≤ q := f2 q (by simp only [fp, List.mem_cons, List.mem_map]; exact .inr (.inr (.inr ⟨_, look_mem l2, rfl⟩)))
    have kept : ∀ kf KB, (ko.map fun p => (p.1, addk (c / 8) (.tup (pageOf R (c / 8))) p.2)) = some (kf, KB) → (h5.set s (.ins C (flds r b (kv (ko.map fun p => (p.1, addk (c / 8) (.tup (pageOf R (c / 8))) p.2)), km) p6))).get kf = some (.dic (iKv KB)) ∧ KB.length ≤ L + 2 ∧ kf ∉ fp s r b R5 := fun kf KB ek => by
      obtain ⟨w1, w2, w3⟩ := M1.k kf KB ek
      have wl := MH.get_lt w1
      have b2 := K2.n
      have ks : kf ≠ s := fun z => w3 (by simp [z])
      have kr' : kf ≠ r := fun z => w3 (by simp [z])
      have kq' : kf ≠ q := fun z => by
        rcases fq with y | y
        · exact w3 (by rw [z]; exact y)
        · omega
      refine ⟨?_, by omega, fun z => ?_⟩
      · rw [set_ne hp5 ks, k5 kf kr', u4.get kf (by show kf < h2.n; omega), set_ne hq kq', K2.get kf wl w3]; exact w1
      · rcases f2 kf (f5 kf z) with y | y
        · exact w3 y
        · omega
    refine ⟨_, R5, _, _, body_nx (m := [some (.ref s), some (.int c), some a, some (.int (c / 8)), some (.ref q)]) ?_, ⟨M6, kept⟩, N5, fun x => ?_, ⟨?_, fun j hj hf => ?_⟩, fun j hj => ?_, .inr ⟨rfl, rfl⟩⟩
    · refine (seq_nx ((ifS_f hc).trans rfl)).trans ?_
      refine (seq_nx (asg_nx (v := .int (c / 8)) (h' := h) rfl)).trans ?_
      refine (seq_nx (expr_nx ((meth1 (h1 := h) (h2 := h) (x := .int (c / 8)) rfl hp lk rfl rfl).trans k1))).trans ?_
      refine (seq_nx (asg_nx d1)).trans ?_
      refine (seq_nx (m' := [some (.ref s), some (.int c), some a, some (.int (c / 8)), some (.ref q)]) (h' := h2.set q (.lst (xs.set (c % 8).toNat a))) ?_).trans ?_
      · have v1 : ∀ h, gVar 1 [some (.ref s), some (.int c), some a, some (.int (c / 8)), some (.ref q)] h = .ok (.int c) h := fun h => rfl
        have v2 : ∀ h, gVar 2 [some (.ref s), some (.int c), some a, some (.int (c / 8)), some (.ref q)] h = .ok a h := fun h => rfl
        have v4 : ∀ h, gVar 4 [some (.ref s), some (.int c), some a, some (.int (c / 8)), some (.ref q)] h = .ok (.ref q) h := fun h => rfl
        have e2 : ∀ h, mMod (.int c) (.int 8) h = .ok (.int (c % 8)) h := fun h => rfl
        have dq : isD h2 (.ref q) = false := by simp [isD, hq]
        have ix : ixN 8 (c % 8) = some (c % 8).toNat := by unfold ixN; rw [if_pos (by omega), if_pos (by omega)]
        show gAsg (gVar 2) (tgSub (gVar 4) (gBin mMod (gVar 1) (gC (.int 8)))) [some (.ref s), some (.int c), some a, some (.int (c / 8)), some (.ref q)] h2 = _
        simp [gAsg, v2, Out.bindS, tgSub, v4, gBin, v1, gC, Out.bind, e2, putM, dq, hq, x8, ix, SO.only]
      · exact (seq_nx s6).trans s7
    · rw [g5, rg3]
      by_cases z : x = c
      · rw [if_pos z, if_pos z]
      · rw [if_neg z, if_neg z, g2]
    · show h.n ≤ h5.n
      have a1 := K1.n
      have a2 := K2.n
      have a3 : h2.n ≤ h4.n := u4.n
      omega
    · have js : j ≠ s := fun z => hf (by simp [z])
      have jr : j ≠ r := fun z => hf (by simp [z])
      have jb : j ≠ b := fun z => hf (by simp [z])
      have b1 := K1.n
      have b2 := K2.n
      have jq : j ≠ q := fun z => by
        rcases fq with y | y
        · exact hf (List.mem_append.mpr (.inl (by rw [z]; exact y)))
        · omega
      rw [set_ne hp5 js, k5 j jr, u4.get j (by show j < h2.n; omega), set_ne hq jq, K2.get j (by omega) (fun z => hf (List.mem_append.mpr (.inl z))), K1.get j hj (fun z => by
        rcases List.mem_cons.mp z with z | z
        · exact jb z
        · exact hf (List.mem_append.mpr (.inr z)))]
    · rcases f2 j (f5 j hj) with y | y
      · exact .inl y
      · have := K1.n
        exact .inr (by omega)
end
end XK
set_option Elab.async false
set_option linter.all false
set_option maxRecDepth 100000
set_option maxHeartbeats 4000000
namespace XK
open MI XG XM PySem
open L2 (atI ixN)
/-- a dict of pages that were kept, beside the rows that are there: the pages of then are P -/
def BaseP (B : List (Int × MV)) (R : Rows) (P : Int → List MV) : Prop := ∀ n, match kfind B n with
  | some v => v = .tup (P n)
  | none => pageOf R n = P n
theorem BaseP.find {B : List (Int × MV)} {R : Rows} {P : Int → List MV} (a : BaseP B R P) {n : Int} {v : MV} (e : kfind B n = some v) : v = .tup (P n) := by
  have := a n; rw [e] at this; exact this
theorem BaseP.none {B : List (Int × MV)} {R : Rows} {P : Int → List MV} (a : BaseP B R P) {n : Int} (e : kfind B n = none) : pageOf R n = P n := by
  have := a n; rw [e] at this; exact this
theorem kfind_app {n : Int} {v : MV} (m : Int) : ∀ B : List (Int × MV), kfind (B ++ [(n, v)]) m = match kfind B m with
    | some x => some x
    | none => if n = m then some v else none
  | [] => rfl
  | p :: r => by
    show kfind (p :: (r ++ [(n, v)])) m = _
    unfold kfind
    by_cases c : p.1 = m
    · rw [if_pos c, if_pos c]
    · rw [if_neg c, if_neg c]; exact kfind_app m r
theorem addk_base {B : List (Int × MV)} {R R' : Rows} {P : Int → List MV} {n : Int} (a : BaseP B R P) (e : ∀ m, m ≠ n → pageOf R' m = pageOf R m) : BaseP (addk n (.tup (pageOf R n)) B) R' P := by
  intro m
  unfold addk
  cases k : kfind B n with
  | some x =>
    dsimp only
    cases k2 : kfind B m with
    | some v => exact a.find k2
    | none =>
      have : m ≠ n := fun z => by rw [z, k] at k2; cases k2
      show pageOf R' m = P m
      rw [e m this]; exact a.none k2
  | none =>
    dsimp only
    rw [kfind_app]
    cases k2 : kfind B m with
    | some v => exact a.find k2
    | none =>
      dsimp only
      by_cases z : n = m
      · rw [if_pos z]
        subst z
        show MV.tup (pageOf R n) = _
        rw [a.none k]
      · rw [if_neg z]
        show pageOf R' m = P m
        rw [e m (Ne.symm z)]; exact a.none k2
/-- the dict's keys -/
structure Ks (B : List (Int × MV)) : Prop where
  nd : (B.map fun p => p.1).Nodup
  lo : ∀ p ∈ B, 0 ≤ p.1 ∧ p.1 < 8
theorem Ks.nil : Ks [] := ⟨List.nodup_nil, fun p hp => by cases hp⟩
theorem Ks.addk {B : List (Int × MV)} (a : Ks B) {n : Int} {v : MV} (h0 : 0 ≤ n) (h1 : n < 8) : Ks (addk n v B) := by
  unfold XK.addk
  cases k : kfind B n with
  | some x => exact a
  | none =>
    refine ⟨?_, fun p hp => ?_⟩
    · show ((B ++ [(n, v)]).map fun p => p.1).Nodup
      rw [List.map_append]
      exact List.nodup_append.mpr ⟨a.nd, by simp, fun x hx y hy => by
        simp only [List.map_cons, List.map_nil, List.mem_singleton] at hy
        rw [hy]
        exact fun z => kfind_none_iff.mp k (by rw [← z]; exact hx)⟩
    · rcases List.mem_append.mp hp with hp | hp
      · exact a.lo p hp
      · rw [List.mem_singleton.mp hp]; exact ⟨h0, h1⟩
def rs (R : Rows) (w : Int) (n : Nat) : List MV := (List.range n).map fun i => rget R (8 * w + (i : Nat))
theorem page_rs {C : Nat} {h : MH} {s r b L : Nat} {R : Rows} {B : List (Int × MV)} {q : MV × Int} (M : MemW C h s r b R L B q) (w : Int) : pageOf R w = trim (rs R w 8) := by
  have cell : ∀ i : Nat, i < 8 → (rs R w 8)[i]? = some (rget R (8 * w + (i : Nat))) := fun i hi => by
    unfold rs
    rw [List.getElem?_map, List.getElem?_range hi]; rfl
  have dm : ∀ i : Nat, i < 8 → (8 * w + (i : Nat)) / 8 = w ∧ ((8 * w + (i : Nat)) % 8).toNat = i := fun i hi => by omega
  unfold pageOf
  cases k : look R w with
  | none =>
    dsimp only
    refine (trim_nil.mpr fun x hx => ?_).symm
    obtain ⟨i, hi, rfl⟩ := List.getElem_of_mem hx
    have hi' : i < 8 := by simpa [rs] using hi
    have := cell i hi'
    rw [List.getElem?_eq_getElem hi] at this
    rw [Option.some.inj this]
    unfold rget
    rw [(dm i hi').1, k]
  | some q =>
    dsimp only
    have m := M.row _ (look_mem k)
    dsimp only at m
    have : q.2 = rs R w 8 := by
      apply List.ext_getElem?
      intro i
      by_cases hi : i < 8
      · rw [cell i hi]
        unfold rget
        rw [(dm i hi).1, k]
        dsimp only
        unfold XM.cellOf
        rw [(dm i hi).2, List.getElem?_eq_getElem (by omega)]; rfl
      · rw [List.getElem?_eq_none (by omega), List.getElem?_eq_none (by simp [rs]; omega)]
    rw [this]
theorem lay_all {xs : List MV} (a : ∀ x ∈ xs, atB x = true) : PyData.canLayAll0 (xs.map aD) = true := by
  induction xs with
  | nil => rfl
  | cons x xs ih =>
    have ax := a x List.mem_cons_self
    have h1 : (aD x).canLay0 = true := by
      cases x with
      | non => rfl
      | int i => rfl
      | str s =>
        have a' : (decide (s.length ≤ 20) && s.all fun c => decide (c < 1114112)) = true := ax
        simp only [Bool.and_eq_true, decide_eq_true_eq, List.all_eq_true] at a'
        show PyData.strOk ⟨s.toArray⟩ = true
        unfold PyData.strOk
        rw [Array.all_eq_true]
        intro i hi
        have := a'.2 (s.toArray[i]) (by
          have : s.toArray[i] ∈ s.toArray.toList := Array.getElem_mem_toList hi
          simpa using this)
        exact decide_eq_true (by omega)
      | _ => cases ax
    show ((aD x).canLay0 && PyData.canLayAll0 (xs.map aD)) = true
    rw [h1, ih fun y hy => a y (List.mem_cons_of_mem _ hy)]; rfl
theorem dep_all {xs : List MV} : PyData.depthAll (xs.map aD) = 0 := by
  induction xs with
  | nil => rfl
  | cons x xs ih =>
    show max (aD x).depth (PyData.depthAll (xs.map aD)) = 0
    rw [ih]
    cases x <;> rfl
theorem okD_tup {xs : List MV} (a : ∀ x ∈ xs, atB x = true) : okD (.tuple (xs.map aD)) = true := by
  unfold okD SeqAt.shaped
  have h1 : (PyData.tuple (xs.map aD)).canLay0 = true := lay_all a
  have h2 : (PyData.tuple (xs.map aD)).depth = 1 := by simp only [PyData.depth, dep_all]
  rw [h1, h2]; rfl
def neP (a b : List MV) : Bool := !PyData.eqv (.tuple (a.map aD)) (.tuple (b.map aD))
theorem neP_self {a : List MV} (h : ∀ x ∈ a, atB x = true) : neP a a = false := by
  unfold neP
  rw [SeqAt.eqv_refl _ (SeqAt.canLay_of_shaped (okD_tup h))]; rfl
theorem ne_ok {h : MH} {a b : List MV} (ha : ∀ x ∈ a, atB x = true) (hb : ∀ x ∈ b, atB x = true) : mNeX (.tup a) (.tup b) h = .ok (.bl (neP a b)) h := by
  have e1 : toD h 61 (.tup a) = some (.tuple (a.map aD)) := toD_tup (n := 60) fun x hx => toD_at (ha x hx)
  have e2 : toD h 61 (.tup b) = some (.tuple (b.map aD)) := toD_tup (n := 60) fun x hx => toD_at (hb x hx)
  unfold mNeX
  rw [if_pos (show isRow (MV.tup a) = true from rfl)]
  unfold mEqB
  rw [e1, e2]
  dsimp only
  rw [if_pos ⟨okD_tup ha, okD_tup hb⟩]; rfl
theorem page_at {C : Nat} {h : MH} {s r b L : Nat} {R : Rows} {B : List (Int × MV)} {q : MV × Int} (M : MemW C h s r b R L B q) (w : Int) : ∀ x ∈ pageOf R w, atB x = true := fun x hx => by
  rw [page_rs M w] at hx
  have := List.mem_of_mem_take hx
  unfold rs at this
  obtain ⟨i, _, rfl⟩ := List.mem_map.mp this
  exact M.at _
structure MemR (C : Nat) (h : MH) (s r b : Nat) (R : Rows) (q : MV × Int) : Prop where
  ins : ∃ p, h.get s = some (.ins C (flds r b q p))
  dr : h.get r = some (.dic (rKv R))
  row : ∀ p ∈ R, h.get p.2.1 = some (.lst p.2.2) ∧ p.2.2.length = 8 ∧ ∀ x ∈ p.2.2, atB x = true
theorem MemR.up {C : Nat} {h h' : MH} {s r b : Nat} {R : Rows} {q : MV × Int} (m : MemR C h s r b R q) (u : Up h h') : MemR C h' s r b R q :=
  ⟨by obtain ⟨p, hp⟩ := m.ins; exact ⟨p, u.at hp⟩, u.at m.dr, fun p hp => ⟨u.at (m.row p hp).1, (m.row p hp).2⟩⟩
theorem page_okR {C : Nat} {h : MH} {s r b : Nat} {R : Rows} {q : MV × Int} (M : MemR C h s r b R q) (n : Int) : ∃ h', mPage C [.ref s, .int n] h = .ok (.tup (pageOf R n)) h' ∧ Up h h' := by
  have f : gFld [C] fR (gVar 0) [some (.ref s), some (.int n)] h = .ok (.ref r) h := by
    obtain ⟨p, hp⟩ := M.ins
    have l : (flds r b q p).lookup fR = some (.ref r) := rfl
    have v0 : gVar 0 [some (.ref s), some (.int n)] h = .ok (.ref s) h := rfl
    simp [gFld, gUn, v0, Out.bind, mFld, hp, l]
  have d : isD h (.ref r) = true := by simp [isD, M.dr]
  have M1 := M.up (Up.push (o := .lst []))
  have g : dGet (h.push (.lst [])) (.ref r) (.int n) = some ((look R n).map fun q => .ref q.1) := by simp [dGet, M1.dr, mkey, dval_rKv]
  have v1 : ∀ h, gVar 1 [some (.ref s), some (.int n)] h = .ok (.int n) h := fun h => rfl
  unfold pageOf
  cases k : look R n with
  | none =>
    rw [k] at g
    obtain ⟨h', e, u⟩ := we_ok (h := h.push (.lst [])) (v := .ref h.n) (xs := []) (.ref get_top) (by decide)
    refine ⟨h', ?_, Up.push.trans u⟩
    have t : trim [] = [] := rfl
    rw [t] at e
    simp [mPage, gBody, gRet, gCall, gCons, gNil, gDget2, f, d, v1, gLst, Out.bind, Out.bindS, g, e]
  | some q =>
    rw [k] at g
    obtain ⟨m1, m2, m3⟩ := M1.row _ (look_mem k)
    dsimp only at m1 m2
    obtain ⟨h', e, u⟩ := we_ok (h := h.push (.lst [])) (v := .ref q.1) (xs := q.2) (.ref m1) (by omega)
    refine ⟨h', ?_, Up.push.trans u⟩
    simp [mPage, gBody, gRet, gCall, gCons, gNil, gDget2, f, d, v1, gLst, Out.bind, Out.bindS, g, e]
def chg (R : Rows) (P : Int → List MV) (B : List (Int × MV)) : List Int := (B.filter fun p => neP (pageOf R p.1) (P p.1)).map fun p => p.1
theorem chg_take {R : Rows} {P : Int → List MV} {B : List (Int × MV)} {i : Nat} {p : Int × MV} (e : B[i]? = some p) : chg R P (B.take (i + 1)) = chg R P (B.take i) ++ if neP (pageOf R p.1) (P p.1) = true then [p.1] else [] := by
  unfold chg
  rw [List.take_succ, e]
  show ((B.take i ++ [p]).filter _).map _ = _
  rw [List.filter_append, List.map_append]
  congr 1
  by_cases c : neP (pageOf R p.1) (P p.1) = true
  · rw [if_pos c]; simp [c]
  · rw [if_neg c]; simp [c]
abbrev nChg : Nat := 8507063270072193834987087082683635859555
def mChanged (C : Nat) : MF := gBody 3 (gRet (gCB (f1 mSorted) (gCons (gLock (pkF 0 fB) (gLc (gWalk itIs (gFld [C] fB (gVar 0))) (.row [1, 2]) (gB (gBin mNeX (gMeth C nPage (mPage C) [] 2 (gVar 0) (gCons (gVar 1) (gNil))) (gVar 2))) (gVar 1) [1, 2])) (gNil))))
theorem changed_ok {C : Nat} {h : MH} {s r b L : Nat} {R : Rows} {B : List (Int × MV)} {q : MV × Int} {P : Int → List MV} (M : MemW C h s r b R L B q) (hL : L < 1000000) (a : BaseP B R P) (k : Ks B) (hP : ∀ n, ∀ x ∈ P n, atB x = true) :
    ∃ h', mChanged C [.ref s] h = .ok (.ref h'.n.pred) h' ∧ h'.get h'.n.pred = some (.lst ((isort (chg R P B)).map MV.int)) ∧ Up h h' ∧ h.n ≤ h'.n.pred := by
  obtain ⟨n1, n2, n3, n4⟩ := M.ne
  obtain ⟨hB, hb⟩ := M.db
  have bl := MH.get_lt hb
  have f1' : (h.set b (.fdi (iKv B))).get b = some (.fdi (iKv B)) := set_get hb
  have MR : MemR C (h.set b (.fdi (iKv B))) s r b R q := ⟨by obtain ⟨p, hp⟩ := M.ins; exact ⟨p, by rw [set_ne hb n2]; exact hp⟩, by rw [set_ne hb n3]; exact M.dr, fun p hp => ⟨by rw [set_ne hb (n4 p hp).2.2]; exact (M.row p hp).1, (M.row p hp).2⟩⟩
  have ln : (iKv B).length = B.length := by unfold iKv; rw [List.length_map]
  have at_ : ∀ i h', (itIs (iKv B)).at_ i h' = some (B[i]?.map fun p => .tup [.int p.1, p.2]) := fun i h' => by
    show some ((iKv B)[i]?.map fun p => MV.tup [mOfK p.1, p.2]) = _
    unfold iKv
    rw [List.getElem?_map]
    cases B[i]? <;> rfl
  obtain ⟨acc, h1, e1, p1, g1⟩ := lc_loop (it := itIs (iKv B)) (c := .row [1, 2]) (t := gB (gBin mNeX (gMeth C nPage (mPage C) [] 2 (gVar 0) (gCons (gVar 1) (gNil))) (gVar 2))) (e := gVar 1) (D := h.n) (mw := [some (.ref s), none, none]) (N := B.length) (by omega)
    (fun i acc h' => Up (h.set b (.fdi (iKv B))) h' ∧ acc = (chg R P (B.take i)).map MV.int) (fun _ _ _ => by rw [at_, List.getElem?_eq_none (Nat.le_refl _)]; rfl) (fun i acc h' hi p g => by
      obtain ⟨u, rfl⟩ := p
      obtain ⟨p, hp⟩ : ∃ p, B[i]? = some p := ⟨B[i], List.getElem?_eq_getElem hi⟩
      have hv := kfind_of_mem k.nd (List.mem_of_getElem? hp)
      have pe : p.2 = .tup (P p.1) := a.find hv
      have M1 := MR.up u
      obtain ⟨p0, hp0⟩ := M1.ins
      obtain ⟨h2, d1, d2⟩ := page_okR M1 p.1
      have lp : (flds r b q p0).lookup nPage = none := rfl
      have v2 : ∀ h, gVar 2 [some (.ref s), some (.int p.1), some p.2] h = .ok p.2 h := fun h => rfl
      have c1 : gMeth C nPage (mPage C) [] 2 (gVar 0) (gCons (gVar 1) (gNil)) [some (.ref s), some (.int p.1), some p.2] h' = .ok (.tup (pageOf R p.1)) h2 := (meth1 (n := 2) (o := gVar 0) (a := gVar 1) (x := .int p.1) (h1 := h') (h2 := h') rfl hp0 lp rfl rfl).trans d1
      have ct : gB (gBin mNeX (gMeth C nPage (mPage C) [] 2 (gVar 0) (gCons (gVar 1) (gNil))) (gVar 2)) [some (.ref s), some (.int p.1), some p.2] h' = .ok (neP (pageOf R p.1) (P p.1)) h2 := by
        have nn := ne_ok (h := h2) (page_at M p.1) (hP p.1)
        have e0 : gBin mNeX (gMeth C nPage (mPage C) [] 2 (gVar 0) (gCons (gVar 1) (gNil))) (gVar 2) [some (.ref s), some (.int p.1), some p.2] h' = .ok (.bl (neP (pageOf R p.1) (P p.1))) h2 := by
          unfold gBin
          rw [c1]
          simp only [Out.bind, v2]
          rw [pe]; exact nn
        unfold gB
        rw [e0]; rfl
      have g2 := d2.at g
      refine ⟨.tup [.int p.1, p.2], [some (.ref s), some (.int p.1), some p.2], h', neP (pageOf R p.1) (P p.1), h2, by rw [at_, hp]; rfl, rfl, ct, fun z => ?_, fun z => ?_⟩
      · refine ⟨⟨u.trans d2, ?_⟩, g2⟩
        rw [chg_take hp, if_neg (by rw [z]; decide), List.append_nil]
      · refine ⟨.int p.1, h2, rfl, g2, (u.trans d2).set (Nat.le_refl _) g2, ?_⟩
        rw [chg_take hp, if_pos z, List.map_append]; rfl)
    (B.length + 1) 0 [] ((h.set b (.fdi (iKv B))).push (.lst [])) (by omega) (Nat.zero_le _) (by simp) ⟨Up.push, rfl⟩ get_top
  obtain ⟨u1, rfl⟩ := p1
  rw [List.take_of_length_le (Nat.le_refl _)] at g1
  have gb1 := u1.at f1'
  have lc : gLc (gWalk itIs (gFld [C] fB (gVar 0))) (.row [1, 2]) (gB (gBin mNeX (gMeth C nPage (mPage C) [] 2 (gVar 0) (gCons (gVar 1) (gNil))) (gVar 2))) (gVar 1) [1, 2] [some (.ref s), none, none] (h.set b (.fdi (iKv B))) = .ok (.ref h.n) h1 := by
    have w : gWalk itIs (gFld [C] fB (gVar 0)) [some (.ref s), none, none] (h.set b (.fdi (iKv B))) = .ok (itIs (iKv B)) (h.set b (.fdi (iKv B))) := by
      obtain ⟨p, hp⟩ := MR.ins
      have l : (flds r b q p).lookup fB = some (.ref b) := rfl
      have v0 : gVar 0 [some (.ref s), none, none] (h.set b (.fdi (iKv B))) = .ok (.ref s) (h.set b (.fdi (iKv B))) := rfl
      simp [gWalk, gFld, gUn, v0, Out.bind, mFld, hp, l, f1']
    unfold gLc
    rw [w]
    simp only [Out.bind]
    have sz : (itIs (iKv B)).size (h.set b (.fdi (iKv B))) = B.length := ln
    rw [sz]
    exact e1
  have lk : gLock (pkF 0 fB) (gLc (gWalk itIs (gFld [C] fB (gVar 0))) (.row [1, 2]) (gB (gBin mNeX (gMeth C nPage (mPage C) [] 2 (gVar 0) (gCons (gVar 1) (gNil))) (gVar 2))) (gVar 1) [1, 2]) [some (.ref s), none, none] h = .ok (.ref h.n) (h1.set b (.dic (iKv B))) := by
    have pk : pkF 0 fB [some (.ref s), none, none] h = some b := by
      obtain ⟨p, hp⟩ := M.ins
      have l : (flds r b q p).lookup fB = some (.ref b) := rfl
      simp [pkF, hp, l]
    unfold gLock
    rw [pk]
    simp only [hb, lc]
  have u2 : Up h (h1.set b (.dic (iKv B))) := ⟨u1.n, fun j hj => by
    by_cases z : j = b
    · rw [z, set_get gb1, hb]
    · rw [set_ne gb1 z, u1.get j hj, set_ne hb z]⟩
  have gD : (h1.set b (.dic (iKv B))).get h.n = some (.lst ((chg R P B).map MV.int)) := by rw [set_ne gb1 (by omega)]; exact g1
  have n1' : h.n < h1.n := MH.get_lt g1
  refine ⟨(h1.set b (.dic (iKv B))).push (.lst ((isort (chg R P B)).map MV.int)), body_rt ?_, get_top, u2.trans Up.push, ?_⟩
  · show gRet _ [some (.ref s), none, none] h = _
    simp only [gRet, gCB, gCons, gNil, lk, Out.bind, f1, mSorted, gD, ints_map, Out.bindS]
    rfl
  · show h.n ≤ (h1.n + 1).pred
    simp; omega
end XK
set_option Elab.async false
set_option linter.all false
set_option maxRecDepth 100000
set_option maxHeartbeats 4000000
namespace XK
open MI XG XM PySem
open L2 (atI ixN)
abbrev nNeed : Nat := 379596215269537023593716527823455569553730270615374589765347872264421471
abbrev nFreeze : Nat := 4097049099761768874413419055284326
abbrev nSettle : Nat := 4097048828962523631383007413141619
abbrev nThaw : Nat := 1097581698996448002164
def mNeed (C : Nat) : MF := gBody 1 (gIfS (gB (gIsN (gFld [C] fK (gVar 0)))) (gBadS) (gNext))
def mFreeze (C : Nat) : MF := gBody 1 (gSeq (gIfS (gB (gNotN (gFld [C] fK (gVar 0)))) (gBadS) (gNext)) (gSeq (gFldS [C] fK (gDic) (gVar 0)) (gSeq (gFldS [C] fM (gMeth C nMany (mMany C) [] 1 (gVar 0) gNil) (gVar 0)) (gRet (gMeth C nChg (mChanged C) [] 1 (gVar 0) gNil)))))
def mSettle (C : Nat) : MF := gBody 1 (gSeq (gExpr (gMeth C nNeed (mNeed C) [] 1 (gVar 0) gNil)) (gSeq (gFldS [C] fB (gFld [C] fK (gVar 0)) (gVar 0)) (gFldS [C] fK (gC .non) (gVar 0))))
def mThaw (C : Nat) : MF := gBody 1 (gSeq (gExpr (gMeth C nNeed (mNeed C) [] 1 (gVar 0) gNil)) (gFldS [C] fK (gC .non) (gVar 0)))
section
variable {C : Nat} {h : MH} {s r b L : Nat} {R : Rows} {B : List (Int × MV)} {q : MV × Int} {ko : KO} {km : Int} {P : Int → List MV}
theorem many_ok (M : MemW C h s r b R L B q) : mMany C [.ref s] h = .ok (.int (manyOf R)) h := by
  have f := fldR (m := [some (.ref s)]) M rfl
  have k := keys_rKv R
  unfold manyOf
  cases e : R.map fun p => p.1 with
  | nil =>
    rw [e] at k
    simp [mMany, gBody, gRet, gMaxD, gBin, f, gUn, gC, mNeg, Out.bind, Out.bindS, mMaxD, M.dr, k, mAdd]
  | cons y l =>
    rw [e] at k
    simp [mMany, gBody, gRet, gMaxD, gBin, f, gUn, gC, mNeg, Out.bind, Out.bindS, mMaxD, M.dr, k, mAdd]
theorem fl_set (M : MemW C h s r b R L B q) {q' : MV × Int} {p : Int} : MemW C (h.set s (.ins C (flds r b q' p))) s r b R L B q' := by
  obtain ⟨n1, n2, n3, n4⟩ := M.ne
  obtain ⟨p0, hp0⟩ := M.ins
  refine ⟨⟨p, set_get hp0⟩, ?_, ?_, fun p hp => ?_, M.nd, M.keys, M.len⟩
  · rw [set_ne hp0 (Ne.symm n1)]; exact M.dr
  · obtain ⟨hB, hb⟩ := M.db
    exact ⟨hB, by rw [set_ne hp0 (Ne.symm n2)]; exact hb⟩
  · have := M.row p hp
    exact ⟨by rw [set_ne hp0 (n4 p hp).1]; exact this.1, this.2⟩
theorem need_ok (M : MemK C h s r b R L B ko km) (hk : ko ≠ none) : mNeed C [.ref s] h = .ok .non h := by
  have f := fldK (m := [some (.ref s)]) M.w rfl
  refine body_nx (m := [some (.ref s)]) ((ifS_f (h1 := h) ?_).trans rfl)
  have e : mIsN (kv ko) = false := by
    cases ko with
    | none => exact absurd rfl hk
    | some p => rfl
  show gB (gIsN (gFld [C] fK (gVar 0))) [some (.ref s)] h = _
  have f' : gFld [C] fK (gVar 0) [some (.ref s)] h = .ok (kv ko) h := f
  simp [gB, gIsN, gUn, f', Out.bind, e]
theorem freeze_ok (M : MemK C h s r b R L B none km) (hL : L < 1000000) (a : BaseP B R P) (k : Ks B) (hP : ∀ n, ∀ x ∈ P n, atB x = true) :
    ∃ h' km', mFreeze C [.ref s] h = .ok (.ref h'.n.pred) h' ∧ MemK C h' s r b R L B (some (h.n, [])) km' ∧ h'.get h'.n.pred = some (.lst ((isort (chg R P B)).map MV.int)) ∧ Kp [s] h h' ∧ h.n ≤ h'.n.pred := by
  obtain ⟨p, hp⟩ := M.w.ins
  have sl := MH.get_lt hp
  have f : gFld [C] fK (gVar 0) [some (.ref s)] h = .ok .non h := fldK (m := [some (.ref s)]) M.w rfl
  have s1 : gIfS (gB (gNotN (gFld [C] fK (gVar 0)))) (gBadS) (gNext) [some (.ref s)] h = .nx [some (.ref s)] h := by
    refine (ifS_f (h1 := h) ?_).trans rfl
    simp [gB, gNotN, gUn, f, Out.bind, mIsN]
  have u1 : Up h (h.push (.dic [])) := Up.push
  have s2 := fldS_ok (C := C) (f := fK) (v := gDic) (m := [some (.ref s)]) (h := h) rfl rfl (u1.at hp) (by simp [flds])
  have e2 : mput fK (.ref h.n) (flds r b (kv none, km) p) = flds r b (.ref h.n, km) p := rfl
  rw [e2] at s2
  have M2 := fl_set (M.w.up u1) (q' := (.ref h.n, km)) (p := p)
  have mo := many_ok M2
  have g2 := set_get (o := .ins C (flds r b (.ref h.n, km) p)) (u1.at hp)
  have lm : (flds r b (.ref h.n, km) p).lookup nMany = none := rfl
  have s3 := fldS_ok (C := C) (f := fM) (v := gMeth C nMany (mMany C) [] 1 (gVar 0) gNil) (m := [some (.ref s)]) ((meth0 (n := 1) rfl g2 lm rfl).trans mo) rfl g2 (by simp [flds])
  have e3 : mput fM (.int (manyOf R)) (flds r b (.ref h.n, km) p) = flds r b (.ref h.n, manyOf R) p := rfl
  rw [e3] at s3
  have M3 := fl_set M2 (q' := (.ref h.n, manyOf R)) (p := p)
  obtain ⟨h4, c1, c2, c3, c4⟩ := changed_ok M3 hL a k hP
  have g3 := set_get (o := .ins C (flds r b (.ref h.n, manyOf R) p)) g2
  have lc : (flds r b (.ref h.n, manyOf R) p).lookup nChg = none := rfl
  have lt := M.w.lt
  refine ⟨h4, manyOf R, body_rt ((seq_nx s1).trans ((seq_nx s2).trans ((seq_nx s3).trans ?_))), ⟨M3.up c3, fun kf KB ek => ?_⟩, c2, ⟨?_, fun j hj hf => ?_⟩, ?_⟩
  · have : gMeth C nChg (mChanged C) [] 1 (gVar 0) gNil [some (.ref s)] (((h.push (.dic [])).set s (.ins C (flds r b (.ref h.n, km) p))).set s (.ins C (flds r b (.ref h.n, manyOf R) p))) = .ok (.ref h4.n.pred) h4 := (meth0 (n := 1) rfl g3 lc rfl).trans c1
    unfold gRet
    rw [this]; rfl
  · cases ek
    have nf : h.n ∉ fp s r b R := fun z => by have := lt _ z; omega
    refine ⟨c3.at ?_, Nat.zero_le _, nf⟩
    rw [set_ne g2 (by omega), set_ne (u1.at hp) (by omega)]; exact get_top
  · have := c3.n
    show h.n ≤ h4.n
    have e : (((h.push (.dic [])).set s (.ins C (flds r b (.ref h.n, km) p))).set s (.ins C (flds r b (.ref h.n, manyOf R) p))).n = h.n + 1 := rfl
    omega
  · have js : j ≠ s := by simpa using hf
    rw [c3.get j (by show j < h.n + 1; omega), set_ne g2 js, set_ne (u1.at hp) js, u1.get j hj]
  · have e : (((h.push (.dic [])).set s (.ins C (flds r b (.ref h.n, km) p))).set s (.ins C (flds r b (.ref h.n, manyOf R) p))).n = h.n + 1 := rfl
    omega
theorem settle_ok {kf : Nat} {KB : List (Int × MV)} (M : MemK C h s r b R L B (some (kf, KB)) km) : ∃ h', mSettle C [.ref s] h = .ok .non h' ∧ MemK C h' s r kf R L KB none km ∧ Kp [s] h h' ∧ h'.n = h.n := by
  obtain ⟨p, hp⟩ := M.w.ins
  obtain ⟨k1, k2, k3⟩ := M.k kf KB rfl
  have ln : (flds r b (kv (some (kf, KB)), km) p).lookup nNeed = none := rfl
  have s1 : gExpr (gMeth C nNeed (mNeed C) [] 1 (gVar 0) gNil) [some (.ref s)] h = .nx [some (.ref s)] h := expr_nx ((meth0 (n := 1) rfl hp ln rfl).trans (need_ok M (by simp)))
  have f : gFld [C] fK (gVar 0) [some (.ref s)] h = .ok (.ref kf) h := fldK (m := [some (.ref s)]) M.w rfl
  have s2 := fldS_ok (C := C) (f := fB) (v := gFld [C] fK (gVar 0)) (m := [some (.ref s)]) f rfl hp (by simp [flds])
  have e2 : mput fB (.ref kf) (flds r b (kv (some (kf, KB)), km) p) = flds r kf (.ref kf, km) p := rfl
  rw [e2] at s2
  have g2 := set_get (o := .ins C (flds r kf (.ref kf, km) p)) hp
  have s3 := fldS_ok (C := C) (f := fK) (v := gC .non) (m := [some (.ref s)]) rfl rfl g2 (by simp [flds])
  have e3 : mput fK .non (flds r kf (.ref kf, km) p) = flds r kf (.non, km) p := rfl
  rw [e3] at s3
  obtain ⟨n1, n2, n3, n4⟩ := M.w.ne
  have ks : kf ≠ s := fun z => k3 (by simp [z])
  have kr' : kf ≠ r := fun z => k3 (by simp [z])
  have oth : ∀ j, j ≠ s → ((h.set s (.ins C (flds r kf (.ref kf, km) p))).set s (.ins C (flds r kf (.non, km) p))).get j = h.get j := fun j hj => by rw [set_ne g2 hj, set_ne hp hj]
  refine ⟨_, body_nx (m := [some (.ref s)]) ((seq_nx s1).trans ((seq_nx s2).trans s3)), ⟨⟨⟨p, set_get g2⟩, ?_, ⟨k2, ?_⟩, fun p hp => ⟨?_, (M.w.row p hp).2⟩, ?_, M.w.keys, M.w.len⟩, fun kf KB ek => by cases ek⟩, ⟨Nat.le_refl _, fun j hj hf => oth j (by simpa using hf)⟩, rfl⟩
  · rw [oth r (Ne.symm n1)]; exact M.w.dr
  · rw [oth kf ks]; exact k1
  · rw [oth _ (n4 p hp).1]; exact (M.w.row p hp).1
  · have nd := M.w.nd
    simp only [List.nodup_cons, List.mem_cons, not_or] at nd ⊢
    exact ⟨⟨nd.1.1, Ne.symm ks, nd.1.2.2⟩, ⟨Ne.symm kr', nd.2.1.2⟩, fun z => k3 (by simp only [fp, List.mem_cons]; exact .inr (.inr (.inr z))), nd.2.2.2⟩
theorem thaw_ok {kk : Nat × List (Int × MV)} (M : MemK C h s r b R L B (some kk) km) : ∃ h', mThaw C [.ref s] h = .ok .non h' ∧ MemK C h' s r b R L B none km ∧ Kp [s] h h' ∧ h'.n = h.n := by
  obtain ⟨p, hp⟩ := M.w.ins
  have ln : (flds r b (kv (some kk), km) p).lookup nNeed = none := rfl
  have s1 : gExpr (gMeth C nNeed (mNeed C) [] 1 (gVar 0) gNil) [some (.ref s)] h = .nx [some (.ref s)] h := expr_nx ((meth0 (n := 1) rfl hp ln rfl).trans (need_ok M (by simp)))
  have s3 := fldS_ok (C := C) (f := fK) (v := gC .non) (m := [some (.ref s)]) (h := h) rfl rfl hp (by simp [flds])
  have e3 : mput fK .non (flds r b (kv (some kk), km) p) = flds r b (.non, km) p := rfl
  rw [e3] at s3
  exact ⟨_, body_nx (m := [some (.ref s)]) ((seq_nx s1).trans s3), ⟨fl_set M.w, fun kf KB ek => by cases ek⟩, Kp.set (MH.get_lt hp) (by simp), rfl⟩
theorem of_init {h : MH} {s r b L : Nat} {R : Rows} (M : XM.MemW C h s r b R L) (hb : h.get b = some (.dic [])) : MemK C h s r b R L [] none 0 :=
  ⟨⟨M.ins, M.dr, ⟨Nat.zero_le _, hb⟩, M.row, M.nd, M.keys, M.len⟩, fun kf KB ek => by cases ek⟩
end
end XK
set_option Elab.async false
set_option linter.all false
set_option maxRecDepth 100000
set_option maxHeartbeats 4000000
namespace XK
open MI XG XM PySem
open L2 (atI ixN)
theorem body_inv {N : Nat} {E : ME} {as : List MV} {h h' : MH} {v : MV} (e : gBody N (gRet E) as h = .ok v h') : E (as.map some ++ List.replicate (N - as.length) none) h = .ok v h' := by
  unfold gBody gRet at e
  generalize E (as.map some ++ List.replicate (N - as.length) none) h = o at e ⊢
  cases o with
  | bad => cases e
  | er x h1 => cases e
  | ok x h1 => exact e
def eLeaf1 : ME := gCall mTrim [] 1 (gCons (gLc (gRng1 (gC (.int 8))) (.one 2) (gYes) (gDget (gVar 0) (gBin mAdd (gBin mMulA (gC (.int 8)) (gVar 1)) (gVar 2))) [2]) (gNil))
def mLeaves : MF := gBody 3 (gRet (gLc (gRng1 (gC (.int 8))) (.one 1) (gYes) eLeaf1 [1]))
def ints8 : List MV := (List.range 8).map fun (j : Nat) => MV.int (j : Nat)
def fLeaf (K : List (Int × MV)) : MV → MV
  | .int w => .tup (trim (ks K w 8))
  | x => x
theorem at8 (h' : MH) (j : Nat) : (it1R 0 8).at_ j h' = some ints8[j]? := by
  unfold ints8
  rw [List.getElem?_map]
  by_cases hj : j < 8
  · rw [rng_at0 hj, List.getElem?_range hj]; rfl
  · rw [List.getElem?_eq_none (by simpa using hj)]
    show some (if j < 8 then some (MV.int (0 + (j : Nat))) else none) = _
    rw [if_neg hj]; rfl
theorem leaves_ok {h : MH} {k L : Nat} {K : List (Int × MV)} (a : Kn h k K L) : ∃ h', mLeaves [.ref k] h = .ok (.ref h.n) h' ∧ h'.get h.n = some (.lst (ints8.map (fLeaf K))) ∧ Up h h' := by
  obtain ⟨h1, e1, g1, u1⟩ := comp_up (gi := gRng1 (gC (.int 8))) (it := it1R 0 8) (ws := ints8) (m := [some (.ref k), none, none]) (h := h) (sl := 1) (e := eLeaf1) (F := fLeaf K) rfl (by simp [it1R, ints8]) (by simp [ints8]) (fun h' u j => at8 h' j) (fun x hx h' u => by
    obtain ⟨n, _, rfl⟩ := List.mem_map.mp hx
    obtain ⟨h2, d1, d2⟩ := leaf_ok (a.up u) (n : Nat)
    exact ⟨h2, body_inv d1, d2⟩)
  refine ⟨h1, body_rt ?_, g1, u1⟩
  show gRet _ [some (.ref k), none, none] h = _
  unfold gRet
  rw [e1]; rfl
def unl (K Kb : List (Int × MV)) (n : Nat) : List Int := ((List.range n).filter fun w => neP (trim (ks K (w : Nat) 8)) (trim (ks Kb (w : Nat) 8))).map fun (w : Nat) => ((w : Nat) : Int)
theorem unl_succ {K Kb : List (Int × MV)} {n : Nat} : unl K Kb (n + 1) = unl K Kb n ++ if neP (trim (ks K (n : Nat) 8)) (trim (ks Kb (n : Nat) 8)) = true then [((n : Nat) : Int)] else [] := by
  unfold unl
  rw [List.range_succ, List.filter_append, List.map_append]
  congr 1
  by_cases c : neP (trim (ks K (n : Nat) 8)) (trim (ks Kb (n : Nat) 8)) = true
  · rw [if_pos c]; simp [c]
  · rw [if_neg c]; simp [c]
theorem trim_at {h : MH} {k L : Nat} {K : List (Int × MV)} (a : Kn h k K L) (w : Int) : ∀ x ∈ trim (ks K w 8), atB x = true := fun x hx => by
  have := List.mem_of_mem_take hx
  unfold ks at this
  obtain ⟨j, _, rfl⟩ := List.mem_map.mp this
  exact a.atk _
def mUnlike : MF := gBody 5 (gSeq (gAsg (gTup (gCons (gCall mLeaves [] 1 (gCons (gVar 0) (gNil))) (gCons (gCall mLeaves [] 1 (gCons (gVar 1) (gNil))) (gNil)))) (tgTup [3, 2])) (gRet (gLc (gRng1 (gC (.int 8))) (.one 4) (gB (gBin mNeX (gBin mIx (gVar 3) (gVar 4)) (gBin mIx (gVar 2) (gVar 4)))) (gVar 4) [4])))
theorem unlike_ok {h : MH} {k kb L L' : Nat} {K Kb : List (Int × MV)} (a : Kn h k K L) (b : Kn h kb Kb L') : ∃ q h', mUnlike [.ref k, .ref kb] h = .ok (.ref q) h' ∧ h'.get q = some (.lst ((unl K Kb 8).map MV.int)) ∧ Up h h' := by
  obtain ⟨h1, e1, g1, u1⟩ := leaves_ok a
  obtain ⟨h2, e2, g2, u2⟩ := leaves_ok (b.up u1)
  have s1 : gAsg (gTup (gCons (gCall mLeaves [] 1 (gCons (gVar 0) (gNil))) (gCons (gCall mLeaves [] 1 (gCons (gVar 1) (gNil))) (gNil)))) (tgTup [3, 2]) [some (.ref k), some (.ref kb), none, none, none] h = .nx [some (.ref k), some (.ref kb), some (.ref h1.n), some (.ref h.n), none] h2 := by
    have c1 : gCall mLeaves [] 1 (gCons (gVar 0) (gNil)) [some (.ref k), some (.ref kb), none, none, none] h = .ok (.ref h.n) h1 := (call1 (n := 1) (x := .ref k) (h2 := h) rfl rfl).trans e1
    have c2 : gCall mLeaves [] 1 (gCons (gVar 1) (gNil)) [some (.ref k), some (.ref kb), none, none, none] h1 = .ok (.ref h1.n) h2 := (call1 (n := 1) (x := .ref kb) (h2 := h1) rfl rfl).trans e2
    unfold gAsg gTup
    simp only [gCons, c1, c2, gNil, Out.bind]
    rfl
  have g1' := u2.at g1
  obtain ⟨acc, h3, e3, ⟨u3, rfl⟩, g3⟩ := lc_loop (it := it1R 0 8) (c := .one 4) (t := gB (gBin mNeX (gBin mIx (gVar 3) (gVar 4)) (gBin mIx (gVar 2) (gVar 4)))) (e := gVar 4) (D := h2.n) (mw := [some (.ref k), some (.ref kb), some (.ref h1.n), some (.ref h.n), none]) (N := 8) (by decide)
    (fun i acc h' => Up h2 h' ∧ acc = (unl K Kb i).map MV.int) (fun _ _ _ => rng_end) (fun i acc h' hi p g => by
      obtain ⟨u, rfl⟩ := p
      have f1 := u.at g1'
      have f2 := u.at g2
      have ix : ∀ KK : List (Int × MV), (ints8.map (fLeaf KK))[i]? = some (.tup (trim (ks KK (i : Nat) 8))) := fun KK => by
        unfold ints8
        rw [List.map_map, List.getElem?_map, List.getElem?_range hi]; rfl
      have i1 := (Sq.ref f1 : Sq h' (.ref h.n) _).ix (ix K)
      have i2 := (Sq.ref f2 : Sq h' (.ref h1.n) _).ix (ix Kb)
      have nn := ne_ok (h := h') (trim_at a (i : Nat)) (trim_at b (i : Nat))
      have v2 : gVar 2 [some (.ref k), some (.ref kb), some (.ref h1.n), some (.ref h.n), some (.int (i : Nat))] h' = .ok (.ref h1.n) h' := rfl
      have v3 : gVar 3 [some (.ref k), some (.ref kb), some (.ref h1.n), some (.ref h.n), some (.int (i : Nat))] h' = .ok (.ref h.n) h' := rfl
      have v4 : gVar 4 [some (.ref k), some (.ref kb), some (.ref h1.n), some (.ref h.n), some (.int (i : Nat))] h' = .ok (.int (i : Nat)) h' := rfl
      refine ⟨.int (i : Nat), [some (.ref k), some (.ref kb), some (.ref h1.n), some (.ref h.n), some (.int (i : Nat))], h', neP (trim (ks K (i : Nat) 8)) (trim (ks Kb (i : Nat) 8)), h', rng_at0 hi, rfl, ?_, fun z => ?_, fun z => ?_⟩
      · simp only [gB, gBin, v2, v3, v4, Out.bind, i1, i2, nn]
      · refine ⟨⟨u, ?_⟩, g⟩
        rw [unl_succ, if_neg (by rw [z]; decide), List.append_nil]
      · refine ⟨.int (i : Nat), h', v4, g, u.set (Nat.le_refl _) g, ?_⟩
        rw [unl_succ, if_pos z, List.map_append]; rfl)
    9 0 [] (h2.push (.lst [])) (by decide) (by decide) (by simp) ⟨Up.push, rfl⟩ get_top
  refine ⟨h2.n, h3, body_rt ((seq_nx s1).trans ?_), g3, (u1.trans u2).trans u3⟩
  have lc : gLc (gRng1 (gC (.int 8))) (.one 4) (gB (gBin mNeX (gBin mIx (gVar 3) (gVar 4)) (gBin mIx (gVar 2) (gVar 4)))) (gVar 4) [4] [some (.ref k), some (.ref kb), some (.ref h1.n), some (.ref h.n), none] h2 = .ok (.ref h2.n) h3 := e3
  unfold gRet
  rw [lc]; rfl
/-- the memory's changed pages are the law's -/
theorem chg_eq {C : Nat} {h h2 h3 : MH} {s r b L k kb L2 L3 : Nat} {R : Rows} {B K Kb : List (Int × MV)} {q : MV × Int} (M : MemW C h s r b R L B q) (a : Kn h2 k K L2) (ab : Kn h3 kb Kb L3) (e : ∀ c, rget R c = kget K c) (bp : BaseP B R fun n => trim (ks Kb n 8)) (kB : Ks B) :
    isort (chg R (fun n => trim (ks Kb n 8)) B) = unl K Kb 8 := by
  have pg : ∀ n, pageOf R n = trim (ks K n 8) := fun n => by
    rw [page_rs M n]
    have : rs R n 8 = ks K n 8 := by
      unfold rs ks
      exact List.map_congr_left fun i _ => e _
    rw [this]
  have mem1 : ∀ n, n ∈ chg R (fun n => trim (ks Kb n 8)) B ↔ ∃ w : Nat, w < 8 ∧ n = (w : Nat) ∧ neP (trim (ks K (w : Nat) 8)) (trim (ks Kb (w : Nat) 8)) = true := fun n => by
    unfold chg
    rw [List.mem_map]
    constructor
    · rintro ⟨p, hp, rfl⟩
      obtain ⟨h1, h2⟩ := List.mem_filter.mp hp
      obtain ⟨l1, l2⟩ := kB.lo p h1
      have e1 : ((p.1.toNat : Nat) : Int) = p.1 := by omega
      refine ⟨p.1.toNat, by omega, e1.symm, ?_⟩
      rw [e1, ← pg]; exact h2
    · rintro ⟨w, hw, rfl, hn⟩
      cases kk : kfind B (w : Nat) with
      | some v =>
        refine ⟨_, List.mem_filter.mpr ⟨kfind_mem kk, ?_⟩, rfl⟩
        dsimp only
        rw [pg]; exact hn
      | none =>
        have := bp.none kk
        rw [pg] at this
        rw [this, neP_self (trim_at ab _)] at hn
        cases hn
  have mem2 : ∀ n, n ∈ unl K Kb 8 ↔ ∃ w : Nat, w < 8 ∧ n = (w : Nat) ∧ neP (trim (ks K (w : Nat) 8)) (trim (ks Kb (w : Nat) 8)) = true := fun n => by
    unfold unl
    rw [List.mem_map]
    constructor
    · rintro ⟨w, hw, rfl⟩
      obtain ⟨h1, h2⟩ := List.mem_filter.mp hw
      exact ⟨w, by simpa using h1, rfl, h2⟩
    · rintro ⟨w, hw, rfl, hn⟩
      exact ⟨w, List.mem_filter.mpr ⟨by simpa using hw, hn⟩, rfl⟩
  have nd1 : (chg R (fun n => trim (ks Kb n 8)) B).Nodup := by
    unfold chg
    exact kB.nd.sublist (List.filter_sublist.map _)
  have rn : (List.range 8).Pairwise (· < ·) := List.pairwise_lt_range
  have pw : (unl K Kb 8).Pairwise (· < ·) := by
    unfold unl
    exact List.Pairwise.map _ (fun a b (hab : a < b) => by show ((a : Nat) : Int) < ((b : Nat) : Int); omega) (rn.filter _)
  have nd2 : (unl K Kb 8).Nodup := pw.imp fun h => by omega
  refine (isort_uniq ((List.perm_ext_iff_of_nodup nd2 nd1).mpr fun n => by rw [mem1, mem2]) (pw.imp fun h => by omega)).symm
theorem ints_row {l : List Int} (a : ∀ n ∈ l, 0 ≤ n ∧ n < 100) : ∀ x ∈ l.map MV.int, row1 x := fun x hx => by
  obtain ⟨n, hn, rfl⟩ := List.mem_map.mp hx
  have := a n hn
  exact .inl (decide_eq_true (by omega))
theorem unl_lt {K Kb : List (Int × MV)} : ∀ n ∈ unl K Kb 8, 0 ≤ n ∧ n < 100 := fun n hn => by
  unfold unl at hn
  obtain ⟨w, hw, rfl⟩ := List.mem_map.mp hn
  have := (List.mem_filter.mp hw).1
  have : w < 8 := by simpa using this
  omega
theorem unl_len {K Kb : List (Int × MV)} : (unl K Kb 8).length ≤ 8 := by
  unfold unl
  rw [List.length_map]
  exact Nat.le_trans (List.length_filter_le _ _) (by simp)
end XK
set_option Elab.async false
set_option linter.all false
set_option maxRecDepth 100000
set_option maxHeartbeats 4000000
namespace XK
open MI XG XM PySem
open L2 (atI ixN)
abbrev pgs (K : List (Int × MV)) : Int → List MV := fun n => trim (ks K n 8)
def Cold (h0 h : MH) (k L : Nat) (F : List Nat) (R : Rows) : KO → KO → Prop
  | none, none => True
  | some (_, KB), some (kc, Kc) => Kn h kc Kc L ∧ BaseP KB R (pgs Kc) ∧ Ks KB ∧ kc ≠ k ∧ kc ∉ F ∧ h0.n ≤ kc
  | _, _ => False
structure S31 (C : Nat) (h0 : MH) (i : Nat) (h : MH) (s r k b : Nat) (R : Rows) (B : List (Int × MV)) (ko : KO) (km : Int) (K : List (Int × MV)) (kb : Nat) (Kb : List (Int × MV)) (co : KO) (L : Nat) (f : Int) : Prop where
  mem : MemK C h s r b R L B ko km
  ne : Ne R
  kn : Kn h k K L
  eq : ∀ c, rget R c = kget K c
  kbn : Kn h kb Kb L
  bp : BaseP B R (pgs Kb)
  kB : Ks B
  cold : Cold h0 h k L (fp s r b R ++ kr ko) R ko co
  box : Box h i f
  kf : k ∉ fp s r b R ++ kr ko
  kbk : kb ≠ k
  kbf : kb ∉ fp s r b R ++ kr ko
  lo : ∀ j ∈ fp s r b R ++ kr ko, h0.n ≤ j
  lok : h0.n ≤ k
  lob : h0.n ≤ kb
  il : i < h0.n
  kp : Kp [i] h0 h
section
variable {C : Nat} {h0 h : MH} {i s r k b kb L : Nat} {R : Rows} {B K Kb : List (Int × MV)} {ko co : KO} {km : Int} {f : Int}
theorem Cold.frame {h' : MH} {F : List Nat} (a : Cold h0 h k L F R ko co) (e : ∀ j ∈ kr co, h'.get j = h.get j) : Cold h0 h' k L F R ko co := by
  cases ko with
  | none => cases co with
    | none => trivial
    | some p => exact a
  | some p =>
    obtain ⟨kf, KB⟩ := p
    cases co with
    | none => exact a
    | some p =>
      obtain ⟨kc, Kc⟩ := p
      obtain ⟨a1, a2⟩ := a
      exact ⟨a1.frame (e kc (by simp [kr])), a2⟩
theorem S31.frame {h' : MH} {f' : Int} (a : S31 C h0 i h s r k b R B ko km K kb Kb co L f) (e : ∀ j ∈ fp s r b R ++ kr ko, h'.get j = h.get j) (e1 : h'.get k = h.get k) (e2 : h'.get kb = h.get kb) (e3 : ∀ j ∈ kr co, h'.get j = h.get j) (b' : Box h' i f') (p : Kp [i] h0 h') :
    S31 C h0 i h' s r k b R B ko km K kb Kb co L f' :=
  ⟨a.mem.frame fun j hj _ => e j hj, a.ne, a.kn.frame e1, a.eq, a.kbn.frame e2, a.bp, a.kB, a.cold.frame e3, b', a.kf, a.kbk, a.kbf, a.lo, a.lok, a.lob, a.il, p⟩
theorem S31.lt (a : S31 C h0 i h s r k b R B ko km K kb Kb co L f) : (∀ j ∈ fp s r b R ++ kr ko, j < h.n) ∧ k < h.n ∧ kb < h.n ∧ (∀ j ∈ kr co, j < h.n ∧ h0.n ≤ j ∧ j ≠ k ∧ j ∉ fp s r b R ++ kr ko) := by
  refine ⟨fun j hj => ?_, MH.get_lt a.kn.at_, MH.get_lt a.kbn.at_, fun j hj => ?_⟩
  · rcases List.mem_append.mp hj with hj | hj
    · exact a.mem.w.lt j hj
    · cases ko with
      | none => cases hj
      | some p =>
        obtain ⟨kf, KB⟩ := p
        have : j = kf := by simpa [kr] using hj
        rw [this]
        exact MH.get_lt (a.mem.k kf KB rfl).1
  · cases co with
    | none => cases hj
    | some p =>
      obtain ⟨kc, Kc⟩ := p
      have : j = kc := by simpa [kr] using hj
      subst this
      have c := a.cold
      cases ko with
      | none => exact c.elim
      | some p =>
        obtain ⟨kf, KB⟩ := p
        obtain ⟨c1, c2, c3, c4, c5, c6⟩ := c
        exact ⟨MH.get_lt c1.at_, c6, c4, c5⟩
theorem S31.up {h' : MH} (a : S31 C h0 i h s r k b R B ko km K kb Kb co L f) (u : Up h h') : S31 C h0 i h' s r k b R B ko km K kb Kb co L f := by
  obtain ⟨l1, l2, l3, l4⟩ := a.lt
  exact a.frame (fun j hj => u.get j (l1 j hj)) (u.get k l2) (u.get kb l3) (fun j hj => u.get j (l4 j hj).1) (a.box.up u) (a.kp.trans u.kp)
theorem S31.bx {h' : MH} {f' : Int} (a : S31 C h0 i h s r k b R B ko km K kb Kb co L f) (u : Kp [i] h h') (b' : Box h' i f') : S31 C h0 i h' s r k b R B ko km K kb Kb co L f' := by
  obtain ⟨l1, l2, l3, l4⟩ := a.lt
  have il := a.il
  exact a.frame (fun j hj => u.get j (l1 j hj) (by have := a.lo j hj; simp; omega)) (u.get k l2 (by have := a.lok; simp; omega)) (u.get kb l3 (by have := a.lob; simp; omega)) (fun j hj => u.get j (l4 j hj).1 (by have := (l4 j hj).2.1; simp; omega)) b' (a.kp.trans u)
theorem page_same {h' : MH} {r' b' s' L' : Nat} {R' : Rows} {B' : List (Int × MV)} {q q' : MV × Int} (M : MemW C h s r b R L B q) (M' : MemW C h' s' r' b' R' L' B' q') (n : Int) (e : ∀ i : Nat, i < 8 → rget R' (8 * n + (i : Nat)) = rget R (8 * n + (i : Nat))) : pageOf R' n = pageOf R n := by
  rw [page_rs M n, page_rs M' n]
  have : rs R' n 8 = rs R n 8 := by
    unfold rs
    exact List.map_congr_left fun i hi => e i (by simpa using hi)
  rw [this]
theorem Kn.le {h : MH} {k L L' : Nat} {K : List (Int × MV)} (a : Kn h k K L) (l : L ≤ L') : Kn h k K L' := ⟨a.at_, a.nd, Nat.le_trans a.len l, a.pos, a.ok⟩
/-- a cell is put, and told -/
theorem S31.put (a : S31 C h0 i h s r k b R B ko km K kb Kb co L f) (hL : L + 2 < 1000000) {c : Int} {v : MV} (hc : 0 ≤ c) (hc2 : c < 64) (hv : atB v = true) :
    ∃ h1 R' B' ko', mPutX C [.ref s, .int c, v] h = .ok .non h1 ∧ Kn h1 k K L ∧ S31 C h0 i (h1.set k (.dic (iKv (kput c v K)))) s r k b R' B' ko' km (kput c v K) kb Kb co (L + 2) f := by
  obtain ⟨h1, R', B', ko', e1, m1, n1, g1, k1, f1, al⟩ := put_ok a.mem a.ne hL c hv
  obtain ⟨l1, l2, l3, l4⟩ := a.lt
  have il := a.il
  have kk := a.kn.frame (k1.get k l2 a.kf)
  have krk : kr ko' = kr ko := by
    rcases al with ⟨_, _, e⟩ | ⟨_, e⟩
    · rw [e]
    · rw [e]
      cases ko <;> rfl
  have sub : ∀ j, j < h.n → j ∈ fp s r b R' ++ kr ko' → j ∈ fp s r b R ++ kr ko := fun j hl hj => by
    rw [krk] at hj
    rcases List.mem_append.mp hj with hj | hj
    · rcases f1 j hj with y | y
      · exact List.mem_append.mpr (.inl y)
      · omega
    · exact List.mem_append.mpr (.inr hj)
  have ifp : i ∉ fp s r b R ++ kr ko := fun z => by have := a.lo i z; omega
  obtain ⟨-, s2⟩ := kset_ok (m := [some (.ref k), some (.int c)]) (d := gVar 0) (e := gVar 1) (c := c) (v := v) kk (by omega) rfl rfl hc hv
  have oth : ∀ j, j ≠ k → (h1.set k (.dic (iKv (kput c v K)))).get j = h1.get j := fun j hj => set_ne kk.at_ hj
  have kf' : k ∉ fp s r b R' ++ kr ko' := fun z => a.kf (sub k l2 z)
  -- the pages but the cell's stay
  have pg : ∀ m, m ≠ c / 8 → pageOf R' m = pageOf R m := fun m hm => page_same a.mem.w m1.w m fun j hj => by
    rw [g1, if_neg (by omega)]
  have bp' : ∀ {BB : List (Int × MV)} {P : Int → List MV}, BaseP BB R P → ((∀ x, rget R' x = rget R x) → BaseP BB R' P) ∧ BaseP (addk (c / 8) (.tup (pageOf R (c / 8))) BB) R' P := fun {BB P} hb => ⟨fun same n => by
      have pe : pageOf R' n = pageOf R n := page_same a.mem.w m1.w n fun j _ => same _
      have := hb n
      rw [pe]; exact this, addk_base hb pg⟩
  refine ⟨h1, R', B', ko', e1, kk, ⟨m1.frame fun j hj _ => oth j (fun z => kf' (by rw [← z]; exact hj)), n1, ⟨s2.at_, s2.nd, Nat.le_trans s2.len (by omega), s2.pos, s2.ok⟩, fun x => by rw [g1, kget_kput, a.eq], ?_, ?_, ?_, ?_, ?_, kf', a.kbk, fun z => a.kbf (sub kb l3 z), fun j hj => ?_, a.lok, a.lob, il, ⟨?_, fun j hj hf => ?_⟩⟩⟩
  · exact Kn.le (a.kbn.frame ((oth kb a.kbk).trans (k1.get kb l3 a.kbf))) (by omega)
  · rcases al with ⟨s1, e, _⟩ | ⟨e, _⟩
    · rw [e]; exact (bp' a.bp).1 s1
    · rw [e]; exact (bp' a.bp).2
  · rcases al with ⟨s1, e, _⟩ | ⟨e, _⟩
    · rw [e]; exact a.kB
    · rw [e]; exact a.kB.addk (by omega) (by omega)
  · have cd := a.cold
    cases ko with
    | none =>
      have e : ko' = none := by rcases al with ⟨_, _, e⟩ | ⟨_, e⟩ <;> exact e
      subst e
      cases co with
      | none => trivial
      | some p => exact cd
    | some p =>
      obtain ⟨kf, KB⟩ := p
      cases co with
      | none => exact cd.elim
      | some p =>
        obtain ⟨kc, Kc⟩ := p
        obtain ⟨c1, c2, c3, c4, c5, c6⟩ := cd
        have cl := MH.get_lt c1.at_
        have kn' : Kn (h1.set k (.dic (iKv (kput c v K)))) kc Kc (L + 2) := Kn.le (c1.frame ((oth kc c4).trans (k1.get kc cl c5))) (by omega)
        rcases al with ⟨s1, _, e⟩ | ⟨_, e⟩
        · subst e
          exact ⟨kn', (bp' c2).1 s1, c3, c4, fun z => c5 (sub kc cl z), c6⟩
        · have e' : ko' = some (kf, addk (c / 8) (.tup (pageOf R (c / 8))) KB) := e
          subst e'
          exact ⟨kn', (bp' c2).2, c3.addk (by omega) (by omega), c4, fun z => c5 (sub kc cl z), c6⟩
  · have b1 := a.box.kp k1 ifp
    obtain ⟨x, y, z, w1, w2, w3⟩ := b1
    exact ⟨x, y, z, by rw [oth i (by have := a.lok; omega)]; exact w1, w2, w3⟩
  · rw [krk] at hj
    rcases List.mem_append.mp hj with hj | hj
    · rcases f1 j hj with y | y
      · exact a.lo j (List.mem_append.mpr (.inl y))
      · have := a.kp.n; omega
    · exact a.lo j (List.mem_append.mpr (.inr hj))
  · show h0.n ≤ h1.n
    have := a.kp.n; have := k1.n; omega
  · have := a.kp.n
    rw [oth j (by have := a.lok; omega), k1.get j (by omega) (fun z => by have := a.lo j z; omega), a.kp.get j hj hf]
def cChk (C : Nat) : MT := gNot (gTru (gCall mSame [] 2 (gCons (gMeth C nChg (mChanged C) [] 1 (gVar 9) gNil) (gCons (gCall mUnlike [] 2 (gCons (gVar 6) (gCons (gVar 2) (gNil)))) (gNil)))))
theorem chk_ok (a : S31 C h0 i h s r k b R B ko km K kb Kb co L f) (hL : L < 1000000) {m : ML} (m9 : m[9]? = some (some (.ref s))) (m6 : m[6]? = some (some (.ref k))) (m2 : m[2]? = some (some (.ref kb))) : ∃ h', cChk C m h = .ok false h' ∧ Up h h' := by
  obtain ⟨p, hp⟩ := a.mem.w.ins
  have lc : (flds r b (kv ko, km) p).lookup nChg = none := rfl
  obtain ⟨h1, c1, c2, c3, c4⟩ := changed_ok a.mem.w hL a.bp a.kB (fun n => trim_at a.kbn n)
  have a1 := a.up c3
  obtain ⟨q, h2, d1, d2, d3⟩ := unlike_ok a1.kn a1.kbn
  have e1 : gMeth C nChg (mChanged C) [] 1 (gVar 9) gNil m h = .ok (.ref h1.n.pred) h1 := (meth0 (n := 1) (var_at m9) hp lc rfl).trans c1
  have e2 : gCall mUnlike [] 2 (gCons (gVar 6) (gCons (gVar 2) (gNil))) m h1 = .ok (.ref q) h2 := (call2 (n := 2) (var_at m6) (var_at m2) rfl).trans d1
  have ce := chg_eq a.mem.w a.kn a.kbn a.eq a.bp a.kB
  rw [ce] at c2
  have sm := lists_same (d3.at c2) d2 (ints_row unl_lt) (by rw [List.length_map]; have := unl_len (K := K) (Kb := Kb); omega)
  refine ⟨h2, ?_, c3.trans d3⟩
  have := (call2 (n := 2) e1 e2 rfl).trans sm
  simp [cChk, gNot, gTru, this, Out.bind, mTru]
end
end XK
set_option Elab.async false
set_option linter.all false
set_option maxRecDepth 100000
set_option maxHeartbeats 4000000
namespace XK
open MI XG XM PySem
open L2 (atI ixN)
def eApp99 : ME := gBM "list" lApp (gVar 5) (gCons (gC (.int 99)) (gNil))
def cSm : MT := gNot (gTru (gCall mSame [] 2 (gCons (gVar 5) (gCons (gCall mUnlike [] 2 (gCons (gVar 6) (gCons (gVar 2) (gNil)))) (gNil)))))
def eFz (C : Nat) : ME := gMeth C nFreeze (mFreeze C) [] 1 (gVar 9) gNil
def bFz (C : Nat) : MS := gSeq (gPar 5 3 (gCons (eFz C) (gCons (gCB (f1 mDictC) (gCons (gVar 6) (gNil))) (gNil)))) (gSeq (gIfS cSm (gRet (gC (.bl false))) (gNext)) (gExpr eApp99))
def bSt (C : Nat) : MS := gSeq (gExpr (gMeth C nSettle (mSettle C) [] 1 (gVar 9) gNil)) (gPar 2 3 (gCons (gVar 3) (gCons (gC .non) (gNil))))
def bTh (C : Nat) : MS := gSeq (gExpr (gMeth C nThaw (mThaw C) [] 1 (gVar 9) gNil)) (gAsg (gC .non) (tgName 3))
def cWay (n : Int) (b : ME) : MT := gAnd (gB (gBin mEqX (gVar 12) (gC (.int n)))) (gB b)
def bWay (C : Nat) : MS := gIfS (cWay 0 (gIsN (gVar 3))) (bFz C) (gIfS (cWay 1 (gNotN (gVar 3))) (bSt C) (gIfS (cWay 2 (gNotN (gVar 3))) (bTh C) (gNext)))
section
variable {C : Nat} {h0 h : MH} {i s r k b kb L : Nat} {R : Rows} {B K Kb : List (Int × MV)} {ko co : KO} {km : Int} {f : Int}
theorem app99_ok {m : ML} {q : Nat} {xs : List MV} (e5 : m[5]? = some (some (.ref q))) (g : h.get q = some (.lst xs)) (l : xs.length < 1000000) : eApp99 m h = .ok .non (h.set q (.lst (xs ++ [.int 99]))) := by
  have v5 : gVar 5 m h = .ok (.ref q) h := var_at e5
  have ty : isTy h "list" (.ref q) = true := by simp [isTy, g]
  unfold eApp99
  simp only [gBM, v5, Out.bind, ty, if_pos, gCons, gC, gNil, lApp, g]
  rw [if_pos l]
theorem way_at {m : ML} {w : Nat} {n : Int} {e : ME} {x : Bool} (h12 : m[12]? = some (some (.int (w : Nat)))) (he : gB e m h = .ok x h) : cWay n e m h = .ok (decide ((w : Int) = n) && x) h := by
  have v12 : gVar 12 m h = .ok (.int (w : Nat)) h := var_at h12
  have c1 : gB (gBin mEqX (gVar 12) (gC (.int n))) m h = .ok (decide ((w : Int) = n)) h := by
    simp [gB, gBin, v12, gC, Out.bind, mEqX, isRow, mEqV, mEq, oB]
  unfold cWay gAnd
  rw [c1]
  by_cases z : (w : Int) = n
  · simp only [Out.bind, decide_eq_true z, if_pos, he, Bool.true_and]
  · simp only [Out.bind, decide_eq_false z, Bool.false_and]; rfl
/-- the list that was got is written to: nothing else -/
theorem S31.setq (a : S31 C h0 i h s r k b R B ko km K kb Kb co L f) {q : Nat} {xs ys : List MV} (g : h.get q = some (.lst xs)) (hq : h0.n ≤ q) (nf : q ∉ fp s r b R) : S31 C h0 i (h.set q (.lst ys)) s r k b R B ko km K kb Kb co L f := by
  have il := a.il
  have ne : ∀ {j : Nat} {d : List (MK × MV)}, h.get j = some (.dic d) → j ≠ q := fun e z => by rw [z, g] at e; cases e
  refine a.frame (fun j hj => set_ne g ?_) (set_ne g (ne a.kn.at_)) (set_ne g (ne a.kbn.at_)) (fun j hj => set_ne g ?_) ?_ ⟨a.kp.n, fun j hj hf => ?_⟩
  · rcases List.mem_append.mp hj with hj | hj
    · exact fun z => nf (by rw [← z]; exact hj)
    · cases ko with
      | none => cases hj
      | some p =>
        obtain ⟨kf, KB⟩ := p
        have : j = kf := by simpa [kr] using hj
        rw [this]
        exact ne (a.mem.k kf KB rfl).1
  · cases co with
    | none => cases hj
    | some p =>
      obtain ⟨kc, Kc⟩ := p
      have : j = kc := by simpa [kr] using hj
      rw [this]
      have c := a.cold
      cases ko with
      | none => exact c.elim
      | some p => exact ne c.1.at_
  · obtain ⟨x, y, z, w1, w2, w3⟩ := a.box
    exact ⟨x, y, z, by rw [set_ne g (by omega)]; exact w1, w2, w3⟩
  · have := a.kp.n
    rw [set_ne g (by omega)]; exact a.kp.get j hj hf
theorem fz_ok (a : S31 C h0 i h s r k b R B none km K kb Kb none L f) (hL : L < 1000000) {o1 o4 o5 o7 o8 o10 o11 o12 o13 : Option MV} :
    ∃ h' ko' km' co' o5', bFz C [some (.ref i), o1, some (.ref kb), some .non, o4, o5, some (.ref k), o7, o8, some (.ref s), o10, o11, o12, o13] h = .nx [some (.ref i), o1, some (.ref kb), some (kv co'), o4, o5', some (.ref k), o7, o8, some (.ref s), o10, o11, o12, o13] h' ∧
      S31 C h0 i h' s r k b R B ko' km' K kb Kb co' L f := by
  obtain ⟨p, hp⟩ := a.mem.w.ins
  obtain ⟨l1, l2, l3, l4⟩ := a.lt
  have il := a.il
  have kpn := a.kp.n
  have lf : (flds r b (kv none, km) p).lookup nFreeze = none := rfl
  obtain ⟨h1, km', c1, c2, c3, c4, c5⟩ := freeze_ok a.mem hL a.bp a.kB (fun n => trim_at a.kbn n)
  have sfp : s ∈ fp s r b R ++ kr none := by simp
  have kns : k ≠ s := fun z => a.kf (by rw [z]; exact sfp)
  have kbs : kb ≠ s := fun z => a.kbf (by rw [z]; exact sfp)
  have k1 := a.kn.frame (c4.get k l2 (by simpa using kns))
  have kb1 := a.kbn.frame (c4.get kb l3 (by simpa using kbs))
  have ls := l1 s sfp
  have n1 : h.n < h1.n := by have := MH.get_lt c3; omega
  -- the state with the frozen one
  have st1 : S31 C h0 i (h1.push (.dic (iKv K))) s r k b R B (some (h.n, [])) km' K kb Kb (some (h1.n, K)) L f := by
    have u : Up h1 (h1.push (.dic (iKv K))) := Up.push
    have F1 : ∀ j ∈ fp s r b R ++ kr (some (h.n, ([] : List (Int × MV)))), j < h1.n := fun j hj => by
      rcases List.mem_append.mp hj with hj | hj
      · have := l1 j (List.mem_append.mpr (.inl hj)); omega
      · have : j = h.n := by simpa [kr] using hj
        omega
    refine ⟨c2.up u, a.ne, k1.up u, a.eq, kb1.up u, a.bp, a.kB, ⟨⟨get_top, a.kn.nd, a.kn.len, a.kn.pos, a.kn.ok⟩, fun n => ?_, Ks.nil, by omega, fun z => by have := F1 _ z; omega, by omega⟩, ?_, fun z => ?_, a.kbk, fun z => ?_, fun j hj => ?_, a.lok, a.lob, il, ?_⟩
    · show pageOf R n = trim (ks K n 8)
      rw [page_rs a.mem.w n]
      have : rs R n 8 = ks K n 8 := by
        unfold rs ks
        exact List.map_congr_left fun i _ => a.eq _
      rw [this]
    · have is : i ∉ [s] := by have := a.lo s sfp; simp; omega
      exact (a.box.kp c4 is).up u
    · rcases List.mem_append.mp z with z | z
      · exact a.kf (List.mem_append.mpr (.inl z))
      · have : k = h.n := by simpa [kr] using z
        omega
    · rcases List.mem_append.mp z with z | z
      · exact a.kbf (List.mem_append.mpr (.inl z))
      · have : kb = h.n := by simpa [kr] using z
        omega
    · rcases List.mem_append.mp hj with hj | hj
      · exact a.lo j (List.mem_append.mpr (.inl hj))
      · have : j = h.n := by simpa [kr] using hj
        omega
    · refine ⟨?_, fun j hj hf => ?_⟩
      · show h0.n ≤ h1.n + 1; omega
      · have js : j ∉ [s] := by have := a.lo s sfp; simp; omega
        rw [u.get j (by omega), c4.get j (by omega) js, a.kp.get j hj hf]
  -- the calls
  have e1 : eFz C [some (.ref i), o1, some (.ref kb), some .non, o4, o5, some (.ref k), o7, o8, some (.ref s), o10, o11, o12, o13] h = .ok (.ref h1.n.pred) h1 := (meth0 (n := 1) (o := gVar 9) rfl hp lf rfl).trans c1
  have s1 : gPar 5 3 (gCons (eFz C) (gCons (gCB (f1 mDictC) (gCons (gVar 6) (gNil))) (gNil))) [some (.ref i), o1, some (.ref kb), some .non, o4, o5, some (.ref k), o7, o8, some (.ref s), o10, o11, o12, o13] h =
      .nx [some (.ref i), o1, some (.ref kb), some (.ref h1.n), o4, some (.ref h1.n.pred), some (.ref k), o7, o8, some (.ref s), o10, o11, o12, o13] (h1.push (.dic (iKv K))) := by
    have dc : gCB (f1 mDictC) (gCons (gVar 6) (gNil)) [some (.ref i), o1, some (.ref kb), some .non, o4, o5, some (.ref k), o7, o8, some (.ref s), o10, o11, o12, o13] h1 = .ok (.ref h1.n) (h1.push (.dic (iKv K))) := by
      have v6 : gVar 6 [some (.ref i), o1, some (.ref kb), some .non, o4, o5, some (.ref k), o7, o8, some (.ref s), o10, o11, o12, o13] h1 = .ok (.ref k) h1 := rfl
      simp [gCB, gCons, gNil, v6, Out.bind, f1, mDictC, k1.at_]
    unfold gPar
    simp only [gCons, e1, Out.bind, dc, gNil, Out.bindS]
    rfl
  have gq : (h1.push (.dic (iKv K))).get h1.n.pred = some (.lst ((isort (chg R (pgs Kb) B)).map MV.int)) := Up.push.at c3
  have ce := chg_eq a.mem.w a.kn a.kbn a.eq a.bp a.kB
  rw [ce] at gq
  obtain ⟨q, h2, d1, d2, d3⟩ := unlike_ok st1.kn st1.kbn
  have st2 := st1.up d3
  have gq2 := d3.at gq
  have e2 : gCall mUnlike [] 2 (gCons (gVar 6) (gCons (gVar 2) (gNil))) [some (.ref i), o1, some (.ref kb), some (.ref h1.n), o4, some (.ref h1.n.pred), some (.ref k), o7, o8, some (.ref s), o10, o11, o12, o13] (h1.push (.dic (iKv K))) = .ok (.ref q) h2 := (call2 (n := 2) (x := .ref k) (y := .ref kb) rfl rfl rfl).trans d1
  have sm := lists_same gq2 d2 (ints_row unl_lt) (by rw [List.length_map]; have := unl_len (K := K) (Kb := Kb); omega)
  have cs : cSm [some (.ref i), o1, some (.ref kb), some (.ref h1.n), o4, some (.ref h1.n.pred), some (.ref k), o7, o8, some (.ref s), o10, o11, o12, o13] (h1.push (.dic (iKv K))) = .ok false h2 := by
    have := (call2 (n := 2) (a := gVar 5) (x := .ref h1.n.pred) (h1 := h1.push (.dic (iKv K))) (m := [some (.ref i), o1, some (.ref kb), some (.ref h1.n), o4, some (.ref h1.n.pred), some (.ref k), o7, o8, some (.ref s), o10, o11, o12, o13]) rfl e2 rfl).trans sm
    unfold cSm gNot gTru
    simp only [this, Out.bind, mTru]
    rfl
  have ap := app99_ok (m := [some (.ref i), o1, some (.ref kb), some (.ref h1.n), o4, some (.ref h1.n.pred), some (.ref k), o7, o8, some (.ref s), o10, o11, o12, o13]) rfl gq2 (by rw [List.length_map]; have := unl_len (K := K) (Kb := Kb); omega)
  refine ⟨_, _, _, some (h1.n, K), some (.ref h1.n.pred), (seq_nx s1).trans ((seq_nx ((ifS_f cs).trans rfl)).trans (expr_nx ap)), st2.setq gq2 (by omega) fun z => ?_⟩
  have := l1 _ (List.mem_append.mpr (.inl z))
  omega
theorem st_ok {kk : Nat × List (Int × MV)} (a : S31 C h0 i h s r k b R B ko km K kb Kb (some kk) L f) {o1 o4 o5 o7 o8 o10 o11 o12 o13 : Option MV} :
    ∃ h' b' B' kb' Kb', bSt C [some (.ref i), o1, some (.ref kb), some (kv (some kk)), o4, o5, some (.ref k), o7, o8, some (.ref s), o10, o11, o12, o13] h = .nx [some (.ref i), o1, some (.ref kb'), some .non, o4, o5, some (.ref k), o7, o8, some (.ref s), o10, o11, o12, o13] h' ∧
      S31 C h0 i h' s r k b' R B' none km K kb' Kb' none L f := by
  obtain ⟨kc, Kc⟩ := kk
  have cd := a.cold
  cases ko with
  | none => exact cd.elim
  | some p =>
    obtain ⟨kf, KB⟩ := p
    obtain ⟨d1, d2, d3, d4, d5, d6⟩ := cd
    obtain ⟨h1, c1, c2, c3, c4⟩ := settle_ok a.mem
    obtain ⟨p, hp⟩ := a.mem.w.ins
    obtain ⟨l1, l2, l3, l4⟩ := a.lt
    have il := a.il
    have kpn := a.kp.n
    have lf : (flds r b (kv (some (kf, KB)), km) p).lookup nSettle = none := rfl
    have sfp : s ∈ fp s r b R ++ kr (some (kf, KB)) := by simp
    have ns : ∀ j, j ∉ fp s r b R ++ kr (some (kf, KB)) → j ∉ [s] := fun j hj => by
      have : j ≠ s := fun z => hj (by rw [z]; exact sfp)
      simpa using this
    have sub : ∀ j, j ∈ fp s r kf R ++ kr none → j ∈ fp s r b R ++ kr (some (kf, KB)) := fun j hj => by
      simp only [fp, kr, List.mem_append, List.mem_cons, List.not_mem_nil, or_false] at hj ⊢
      rcases hj with z | z | z | z
      · exact .inl (.inl z)
      · exact .inl (.inr (.inl z))
      · exact .inr z
      · exact .inl (.inr (.inr (.inr z)))
    have cl := MH.get_lt d1.at_
    refine ⟨h1, kf, KB, kc, Kc, (seq_nx (expr_nx ((meth0 (n := 1) (o := gVar 9) rfl hp lf rfl).trans c1))).trans rfl, ⟨c2, a.ne, a.kn.frame (c3.get k l2 (ns k a.kf)), a.eq, d1.frame (c3.get kc cl (ns kc d5)), d2, d3, trivial, a.box.kp c3 (ns i (fun z => by have := a.lo i z; omega)), fun z => a.kf (sub k z), d4, fun z => d5 (sub kc z), fun j hj => a.lo j (sub j hj), a.lok, d6, il, ⟨by omega, fun j hj hf => ?_⟩⟩⟩
    have js : j ∉ [s] := by have := a.lo s sfp; simp; omega
    rw [c3.get j (by omega) js, a.kp.get j hj hf]
theorem th_ok {kk : Nat × List (Int × MV)} (a : S31 C h0 i h s r k b R B ko km K kb Kb (some kk) L f) {o1 o4 o5 o7 o8 o10 o11 o12 o13 : Option MV} :
    ∃ h', bTh C [some (.ref i), o1, some (.ref kb), some (kv (some kk)), o4, o5, some (.ref k), o7, o8, some (.ref s), o10, o11, o12, o13] h = .nx [some (.ref i), o1, some (.ref kb), some .non, o4, o5, some (.ref k), o7, o8, some (.ref s), o10, o11, o12, o13] h' ∧
      S31 C h0 i h' s r k b R B none km K kb Kb none L f := by
  obtain ⟨kc, Kc⟩ := kk
  have cd := a.cold
  cases ko with
  | none => exact cd.elim
  | some p =>
    obtain ⟨kf, KB⟩ := p
    obtain ⟨h1, c1, c2, c3, c4⟩ := thaw_ok a.mem
    obtain ⟨p, hp⟩ := a.mem.w.ins
    obtain ⟨l1, l2, l3, l4⟩ := a.lt
    have il := a.il
    have kpn := a.kp.n
    have lf : (flds r b (kv (some (kf, KB)), km) p).lookup nThaw = none := rfl
    have sfp : s ∈ fp s r b R ++ kr (some (kf, KB)) := by simp
    have ns : ∀ j, j ∉ fp s r b R ++ kr (some (kf, KB)) → j ∉ [s] := fun j hj => by
      have : j ≠ s := fun z => hj (by rw [z]; exact sfp)
      simpa using this
    have sub : ∀ j, j ∈ fp s r b R ++ kr none → j ∈ fp s r b R ++ kr (some (kf, KB)) := fun j hj => by
      rcases List.mem_append.mp hj with z | z
      · exact List.mem_append.mpr (.inl z)
      · cases z
    refine ⟨h1, (seq_nx (expr_nx ((meth0 (n := 1) (o := gVar 9) rfl hp lf rfl).trans c1))).trans rfl, ⟨c2, a.ne, a.kn.frame (c3.get k l2 (ns k a.kf)), a.eq, a.kbn.frame (c3.get kb l3 (ns kb a.kbf)), a.bp, a.kB, trivial, a.box.kp c3 (ns i (fun z => by have := a.lo i z; omega)), fun z => a.kf (sub k z), a.kbk, fun z => a.kbf (sub kb z), fun j hj => a.lo j (sub j hj), a.lok, a.lob, il, ⟨by omega, fun j hj hf => ?_⟩⟩⟩
    have js : j ∉ [s] := by have := a.lo s sfp; simp; omega
    rw [c3.get j (by omega) js, a.kp.get j hj hf]
theorem way_ok (a : S31 C h0 i h s r k b R B ko km K kb Kb co L f) (hL : L < 1000000) {w : Nat} {o1 o4 o5 o7 o8 o10 o11 o13 : Option MV} :
    ∃ h' b' B' ko' km' kb' Kb' co' o5', bWay C [some (.ref i), o1, some (.ref kb), some (kv co), o4, o5, some (.ref k), o7, o8, some (.ref s), o10, o11, some (.int (w : Nat)), o13] h = .nx [some (.ref i), o1, some (.ref kb'), some (kv co'), o4, o5', some (.ref k), o7, o8, some (.ref s), o10, o11, some (.int (w : Nat)), o13] h' ∧
      S31 C h0 i h' s r k b' R B' ko' km' K kb' Kb' co' L f := by
  have n3 : ∀ h, gB (gIsN (gVar 3)) [some (.ref i), o1, some (.ref kb), some (kv co), o4, o5, some (.ref k), o7, o8, some (.ref s), o10, o11, some (.int (w : Nat)), o13] h = .ok (mIsN (kv co)) h := fun h => rfl
  have m3 : ∀ h, gB (gNotN (gVar 3)) [some (.ref i), o1, some (.ref kb), some (kv co), o4, o5, some (.ref k), o7, o8, some (.ref s), o10, o11, some (.int (w : Nat)), o13] h = .ok (!mIsN (kv co)) h := fun h => rfl
  have w0 := way_at (n := 0) (m := [some (.ref i), o1, some (.ref kb), some (kv co), o4, o5, some (.ref k), o7, o8, some (.ref s), o10, o11, some (.int (w : Nat)), o13]) (h := h) (w := w) rfl (n3 h)
  have w1 := way_at (n := 1) (m := [some (.ref i), o1, some (.ref kb), some (kv co), o4, o5, some (.ref k), o7, o8, some (.ref s), o10, o11, some (.int (w : Nat)), o13]) (h := h) (w := w) rfl (m3 h)
  have w2 := way_at (n := 2) (m := [some (.ref i), o1, some (.ref kb), some (kv co), o4, o5, some (.ref k), o7, o8, some (.ref s), o10, o11, some (.int (w : Nat)), o13]) (h := h) (w := w) rfl (m3 h)
  unfold bWay
  cases x0 : (decide ((w : Int) = 0) && mIsN (kv co)) with
  | true =>
    rw [x0] at w0
    have cn : co = none := by
      cases co with
      | none => rfl
      | some p =>
        simp only [Bool.and_eq_true] at x0
        exact absurd x0.2 (by show ¬ (false = true); decide)
    subst cn
    have kn : ko = none := by
      cases ko with
      | none => rfl
      | some p => exact a.cold.elim
    subst kn
    obtain ⟨h', ko', km', co', o5', e, st⟩ := fz_ok a hL (o1 := o1) (o4 := o4) (o5 := o5) (o7 := o7) (o8 := o8) (o10 := o10) (o11 := o11) (o12 := some (.int (w : Nat))) (o13 := o13)
    exact ⟨h', b, B, ko', km', kb, Kb, co', o5', (ifS_t w0).trans e, st⟩
  | false =>
    rw [x0] at w0
    rw [ifS_f w0]
    have some_of : (!mIsN (kv co)) = true → ∃ kk, co = some kk := fun z => by
      cases co with
      | none => cases z
      | some p => exact ⟨p, rfl⟩
    cases x1 : (decide ((w : Int) = 1) && !mIsN (kv co)) with
    | true =>
      rw [x1] at w1
      simp only [Bool.and_eq_true] at x1
      obtain ⟨kk, rfl⟩ := some_of x1.2
      obtain ⟨h', b', B', kb', Kb', e, st⟩ := st_ok a (o1 := o1) (o4 := o4) (o5 := o5) (o7 := o7) (o8 := o8) (o10 := o10) (o11 := o11) (o12 := some (.int (w : Nat))) (o13 := o13)
      exact ⟨h', b', B', none, km, kb', Kb', none, o5, (ifS_t w1).trans e, st⟩
    | false =>
      rw [x1] at w1
      rw [ifS_f w1]
      cases x2 : (decide ((w : Int) = 2) && !mIsN (kv co)) with
      | true =>
        rw [x2] at w2
        simp only [Bool.and_eq_true] at x2
        obtain ⟨kk, rfl⟩ := some_of x2.2
        obtain ⟨h', e, st⟩ := th_ok a (o1 := o1) (o4 := o4) (o5 := o5) (o7 := o7) (o8 := o8) (o10 := o10) (o11 := o11) (o12 := some (.int (w : Nat))) (o13 := o13)
        exact ⟨h', b, B, none, km, kb, Kb, none, o5, (ifS_t w2).trans e, st⟩
      | false =>
        rw [x2] at w2
        rw [ifS_f w2]
        exact ⟨h, b, B, ko, km, kb, Kb, co, o5, rfl, a⟩
end
end XK
set_option Elab.async false
set_option linter.all false
set_option maxRecDepth 100000
set_option maxHeartbeats 4000000
namespace XK
open MI XG XM PySem
open L2 (atI ixN)
def eOf31 : ME := gCall mOf [] 2 (gCons (gVar 0) (gCons (gLst (gCons (gCall mThing [] 1 (gCons (gVar 0) (gNil))) (gCons (gDget (gVar 2) (gVar 8)) (gCons (gC .non) (gCons (gDget (gVar 6) (gVar 8)) (gNil)))))) (gNil)))
def bTurn31 (C : Nat) : MS := gSeq (gAsg (gCall mTake [] 2 (gCons (gVar 0) (gCons (gC (.int 48)) (gNil)))) (tgName 8)) (gSeq (gAsg eOf31 (tgName 10)) (gSeq (gExpr (gMeth C nPut (mPutX C) [] 3 (gVar 9) (gCons (gVar 8) (gCons (gVar 10) (gNil))))) (gSeq (gAsg (gVar 10) (tgSub (gVar 6) (gVar 8))) (gSeq (gIfS (cChk C) (gRet (gC (.bl false))) (gNext)) (gSeq (gAsg (gCall mTake [] 2 (gCons (gVar 0) (gCons (gC (.int 9)) (gNil)))) (tgName 12)) (gSeq (bWay C) (gSeq (gAsg (gMeth C nChg (mChanged C) [] 1 (gVar 9) gNil) (tgName 5)) (gSeq (gExpr eApp99) (gIfS (cChk C) (gRet (gC (.bl false))) (gNext))))))))))
theorem meth2 {c f n : Nat} {g : MF} {o a b : ME} {m : ML} {h h1 h2 h3 : MH} {i : Nat} {fs : List (Nat × MV)} {x y : MV} (eo : o m h = .ok (.ref i) h1) (hi : h1.get i = some (.ins c fs)) (l : fs.lookup f = none) (ea : a m h1 = .ok x h2) (eb : b m h2 = .ok y h3) (hn : n = 3) : gMeth c f g [] n o (gCons a (gCons b gNil)) m h = g [.ref i, x, y] h3 := by
  subst hn
  simp [gMeth, eo, Out.bind, hi, l, gCons, gNil, ea, eb]
section
variable {C : Nat} {h0 h : MH} {i s r k b kb L : Nat} {R : Rows} {B K Kb : List (Int × MV)} {ko co : KO} {km : Int} {f : Int}
theorem turn31_ok (a : S31 C h0 i h s r k b R B ko km K kb Kb co L f) (hL : L + 10 < 1000000) (hf : f + 100 < 1000000000000) {o1 o4 o5 o7 o8 o10 o11 o12 o13 : Option MV} :
    ∃ h' b' R' B' ko' km' K' kb' Kb' co' p5 p8 p10 p12, bTurn31 C [some (.ref i), o1, some (.ref kb), some (kv co), o4, o5, some (.ref k), o7, o8, some (.ref s), o10, o11, o12, o13] h = .nx [some (.ref i), o1, some (.ref kb'), some (kv co'), o4, p5, some (.ref k), o7, p8, some (.ref s), p10, o11, p12, o13] h' ∧
      S31 C h0 i h' s r k b' R' B' ko' km' K' kb' Kb' co' (L + 2) (f + 8) := by
  -- the cell
  obtain ⟨c, h1, a1, a2, a3, a4, a5⟩ := tk_ok 48 a.box (by decide) (by decide) (by omega)
  have st1 := a.bx a4 a3
  have e1 : gCall mTake [] 2 (gCons (gVar 0) (gCons (gC (.int 48)) (gNil))) [some (.ref i), o1, some (.ref kb), some (kv co), o4, o5, some (.ref k), o7, o8, some (.ref s), o10, o11, o12, o13] h = .ok (.int (c : Nat)) h1 := (call2 (n := 2) (var_at rfl) rfl rfl).trans a2
  -- the atom
  obtain ⟨v, h2, b1, b2, b3, b4⟩ := thing_ok st1.box (by omega)
  have st2 := st1.bx b4 b3
  have lst : gLst (gCons (gCall mThing [] 1 (gCons (gVar 0) (gNil))) (gCons (gDget (gVar 2) (gVar 8)) (gCons (gC .non) (gCons (gDget (gVar 6) (gVar 8)) (gNil))))) [some (.ref i), o1, some (.ref kb), some (kv co), o4, o5, some (.ref k), o7, some (.int (c : Nat)), some (.ref s), o10, o11, o12, o13] h1 =
      .ok (.ref h2.n) (h2.push (.lst [v, kget Kb (c : Nat), .non, kget K (c : Nat)])) := by
    have c1 : gCall mThing [] 1 (gCons (gVar 0) (gNil)) [some (.ref i), o1, some (.ref kb), some (kv co), o4, o5, some (.ref k), o7, some (.int (c : Nat)), some (.ref s), o10, o11, o12, o13] h1 = .ok v h2 := (call1 (n := 1) (x := .ref i) (h2 := h1) rfl rfl).trans b1
    have c2 : gDget (gVar 2) (gVar 8) [some (.ref i), o1, some (.ref kb), some (kv co), o4, o5, some (.ref k), o7, some (.int (c : Nat)), some (.ref s), o10, o11, o12, o13] h2 = .ok (kget Kb (c : Nat)) h2 := dget_ok st2.kbn rfl rfl
    have c3 : gDget (gVar 6) (gVar 8) [some (.ref i), o1, some (.ref kb), some (kv co), o4, o5, some (.ref k), o7, some (.int (c : Nat)), some (.ref s), o10, o11, o12, o13] h2 = .ok (kget K (c : Nat)) h2 := dget_ok st2.kn rfl rfl
    unfold gLst
    simp only [gCons, c1, c2, c3, gC, gNil, Out.bind]
    rfl
  have bx6 : Box (h2.push (.lst [v, kget Kb (c : Nat), .non, kget K (c : Nat)])) i (f + 1 + 3) := b3.up Up.push
  have hi := b3.lt
  obtain ⟨x, h3, d1, d2, d3, d4, d5⟩ := of_ok (v := .ref h2.n) bx6 (.ref get_top) (fun q e => by cases e; omega) (by simp) (by simp) (by omega)
  have xa : atB x = true := by
    simp only [List.mem_cons, List.not_mem_nil, or_false] at d2
    rcases d2 with rfl | rfl | rfl | rfl
    · exact b2
    · exact st2.kbn.atk _
    · rfl
    · exact st2.kn.atk _
  have e2 : eOf31 [some (.ref i), o1, some (.ref kb), some (kv co), o4, o5, some (.ref k), o7, some (.int (c : Nat)), some (.ref s), o10, o11, o12, o13] h1 = .ok x h3 := (call2 (n := 2) (x := .ref i) rfl lst rfl).trans d1
  have st3 := (st2.up (Up.push (o := .lst [v, kget Kb (c : Nat), .non, kget K (c : Nat)]))).bx d4 d3
  -- put and told
  obtain ⟨h4, R', B', ko', q1, q2, st4⟩ := st3.put (by omega) (c := (c : Nat)) (by omega) (by omega) xa
  obtain ⟨p, hp⟩ := st3.mem.w.ins
  have lp : (flds r b (kv ko, km) p).lookup nPut = none := rfl
  have e3 : gMeth C nPut (mPutX C) [] 3 (gVar 9) (gCons (gVar 8) (gCons (gVar 10) (gNil))) [some (.ref i), o1, some (.ref kb), some (kv co), o4, o5, some (.ref k), o7, some (.int (c : Nat)), some (.ref s), some x, o11, o12, o13] h3 = .ok .non h4 := (meth2 (n := 3) (x := .int (c : Nat)) (y := x) rfl hp lp rfl rfl rfl).trans q1
  have e4 : gAsg (gVar 10) (tgSub (gVar 6) (gVar 8)) [some (.ref i), o1, some (.ref kb), some (kv co), o4, o5, some (.ref k), o7, some (.int (c : Nat)), some (.ref s), some x, o11, o12, o13] h4 =
      .nx [some (.ref i), o1, some (.ref kb), some (kv co), o4, o5, some (.ref k), o7, some (.int (c : Nat)), some (.ref s), some x, o11, o12, o13] (h4.set k (.dic (iKv (kput (c : Nat) x K)))) := by
    obtain ⟨s1, -⟩ := kset_ok (m := [some (.ref i), o1, some (.ref kb), some (kv co), o4, o5, some (.ref k), o7, some (.int (c : Nat)), some (.ref s), some x, o11, o12, o13]) (d := gVar 6) (e := gVar 8) (c := (c : Nat)) (v := x) q2 (by omega) rfl rfl (by omega) xa
    have v10 : gVar 10 [some (.ref i), o1, some (.ref kb), some (kv co), o4, o5, some (.ref k), o7, some (.int (c : Nat)), some (.ref s), some x, o11, o12, o13] h4 = .ok x h4 := rfl
    unfold gAsg
    rw [v10]
    simp only [Out.bindS, s1, SO.only]
  generalize h4.set k (.dic (iKv (kput (c : Nat) x K))) = h5 at e4 st4
  -- a look
  obtain ⟨h6, k1, k2⟩ := chk_ok st4 (by omega) (m := [some (.ref i), o1, some (.ref kb), some (kv co), o4, o5, some (.ref k), o7, some (.int (c : Nat)), some (.ref s), some x, o11, o12, o13]) rfl rfl rfl
  have st6 := st4.up k2
  obtain ⟨w, h7, w1, w2, w3, w4, w5⟩ := tk_ok 9 st6.box (by decide) (by decide) (by omega)
  have st7 := st6.bx w4 w3
  have e5 : gCall mTake [] 2 (gCons (gVar 0) (gCons (gC (.int 9)) (gNil))) [some (.ref i), o1, some (.ref kb), some (kv co), o4, o5, some (.ref k), o7, some (.int (c : Nat)), some (.ref s), some x, o11, o12, o13] h6 = .ok (.int (w : Nat)) h7 := (call2 (n := 2) (var_at rfl) rfl rfl).trans w2
  obtain ⟨h8, b', B8, ko8, km8, kb8, Kb8, co8, p5, x1, st8⟩ := way_ok st7 (by omega) (w := w) (o1 := o1) (o4 := o4) (o5 := o5) (o7 := o7) (o8 := some (.int (c : Nat))) (o10 := some x) (o11 := o11) (o13 := o13)
  -- another look
  obtain ⟨p8, hp8⟩ := st8.mem.w.ins
  have lc : (flds r b' (kv ko8, km8) p8).lookup nChg = none := rfl
  obtain ⟨h9, y1, y2, y3, y4⟩ := changed_ok st8.mem.w (by omega) st8.bp st8.kB (fun n => trim_at st8.kbn n)
  have st9 := st8.up y3
  have e9 : gMeth C nChg (mChanged C) [] 1 (gVar 9) gNil [some (.ref i), o1, some (.ref kb8), some (kv co8), o4, p5, some (.ref k), o7, some (.int (c : Nat)), some (.ref s), some x, o11, some (.int (w : Nat)), o13] h8 = .ok (.ref h9.n.pred) h9 := (meth0 (n := 1) (o := gVar 9) rfl hp8 lc rfl).trans y1
  have ce := chg_eq st8.mem.w st8.kn st8.kbn st8.eq st8.bp st8.kB
  rw [ce] at y2
  have ap := app99_ok (m := [some (.ref i), o1, some (.ref kb8), some (kv co8), o4, some (.ref h9.n.pred), some (.ref k), o7, some (.int (c : Nat)), some (.ref s), some x, o11, some (.int (w : Nat)), o13]) rfl y2 (by rw [List.length_map]; have := unl_len (K := kput (c : Nat) x K) (Kb := Kb8); omega)
  obtain ⟨l1, l2, l3, l4⟩ := st8.lt
  have n8 := st8.kp.n
  have st10 := st9.setq (ys := (unl (kput (c : Nat) x K) Kb8 8).map MV.int ++ [.int 99]) y2 (by omega) fun z => by
    have := l1 _ (List.mem_append.mpr (.inl z)); omega
  obtain ⟨h11, z1, z2⟩ := chk_ok st10 (by omega) (m := [some (.ref i), o1, some (.ref kb8), some (kv co8), o4, some (.ref h9.n.pred), some (.ref k), o7, some (.int (c : Nat)), some (.ref s), some x, o11, some (.int (w : Nat)), o13]) rfl rfl rfl
  have st11 := st10.up z2
  have fe : f + 1 + 3 + 1 + 1 ≤ f + 8 := by omega
  refine ⟨h11, b', R', B8, ko8, km8, _, kb8, Kb8, co8, some (.ref h9.n.pred), some (.int (c : Nat)), some x, some (.int (w : Nat)), ?_, ⟨st11.mem, st11.ne, st11.kn, st11.eq, st11.kbn, st11.bp, st11.kB, st11.cold, st11.box.le fe, st11.kf, st11.kbk, st11.kbf, st11.lo, st11.lok, st11.lob, st11.il, st11.kp⟩⟩
  refine (seq_nx (asg_nx e1)).trans ?_
  refine (seq_nx (asg_nx e2)).trans ?_
  refine (seq_nx (expr_nx e3)).trans ?_
  refine (seq_nx e4).trans ?_
  refine (seq_nx ((ifS_f k1).trans rfl)).trans ?_
  refine (seq_nx (asg_nx e5)).trans ?_
  refine (seq_nx x1).trans ?_
  refine (seq_nx (asg_nx e9)).trans ?_
  refine (seq_nx (expr_nx ap)).trans ?_
  exact (ifS_f z1).trans rfl
end
end XK
set_option Elab.async false
set_option linter.all false
set_option maxRecDepth 100000
set_option maxHeartbeats 4000000
namespace XK
open MI XG XM PySem
open L2 (atI ixN)
def eRowS (sl : Nat) : ME := gLc (gRng1 (gCall mTake [] 2 (gCons (gVar 0) (gCons (gC (.int 9)) (gNil))))) (.one sl) (gYes) (gCall mThing [] 1 (gCons (gVar 0) (gNil))) [sl]
theorem row_okS {sl : Nat} (hsl : sl ≠ 0) {h : MH} {i : Nat} {f : Int} {m : ML} (b : Box h i f) (e0 : m[0]? = some (some (.ref i))) (hf : f + 100 < 1000000000000) :
    ∃ xs D h', eRowS sl m h = .ok (.ref D) h' ∧ h'.get D = some (.lst xs) ∧ xs.length ≤ 8 ∧ (∀ x ∈ xs, atB x = true) ∧ Box h' i (f + 25) ∧ Kp [i] h h' ∧ h.n ≤ D := by
  obtain ⟨r, h1, a1, a2, a3, a4, a5⟩ := tk_ok 9 b (by decide) (by decide) (by omega)
  have rg : gRng1 (gCall mTake [] 2 (gCons (gVar 0) (gCons (gC (.int 9)) (gNil)))) m h = .ok (it1R 0 r) h1 := by
    have c1 : gCall mTake [] 2 (gCons (gVar 0) (gCons (gC (.int 9)) (gNil))) m h = .ok (.int (r : Nat)) h1 := (call2 (n := 2) (var_at e0) rfl rfl).trans a2
    simp only [gRng1, c1, Out.bind]
    rw [if_pos (by omega), Int.toNat_natCast]
  have hi := a3.lt
  obtain ⟨acc, h2, e1, ⟨p1, p2, p3, p4⟩, g1⟩ := lc_loop (it := it1R 0 r) (c := .one sl) (t := gYes) (e := gCall mThing [] 1 (gCons (gVar 0) (gNil))) (D := h1.n) (mw := m.set sl none) (N := r) (by omega)
    (fun j acc h' => Box h' i (f + 1 + 3 * (j : Nat)) ∧ Kp [i] h1 h' ∧ acc.length = j ∧ ∀ x ∈ acc, atB x = true) (fun _ _ _ => rng_end) (fun j acc h' hj ⟨q1, q2, q3, q4⟩ g => by
      obtain ⟨x, h3, t1, t2, t3, t4⟩ := thing_ok q1 (by omega)
      have hD : h1.n ∉ [i] := by simp; omega
      have g3 := t4.at g hD
      refine ⟨.int (j : Nat), (m.set sl none).set sl (some (.int (j : Nat))), h', true, h', rng_at0 hj, rfl, rfl, (fun z => nomatch z), fun _ => ⟨x, h3, ?_, g3, ?_, (q2.trans t4).set_new (Nat.le_refl _) g3, by simp [q3], fun y hy => ?_⟩⟩
      · have e7 : ((m.set sl none).set sl (some (.int (j : Nat))))[0]? = some (some (.ref i)) := by
          rw [List.getElem?_set_ne hsl, List.getElem?_set_ne hsl]; exact e0
        exact (call1 (n := 1) (var_at e7) rfl).trans t1
      · obtain ⟨a, s, e, z1, z2, z3⟩ := t3
        exact ⟨a, s, e, by rw [set_ne g3 (by omega)]; exact z1, z2, by omega⟩
      · rcases List.mem_append.mp hy with hy | hy
        · exact q4 y hy
        · rw [List.mem_singleton.mp hy]; exact t2)
    (r + 1) 0 [] (h1.push (.lst [])) (by omega) (Nat.zero_le _) (by simp) ⟨(a3.up Up.push).le (by omega), Up.push.kp, rfl, by simp⟩ get_top
  refine ⟨acc, h1.n, h2, ?_, g1, by omega, p4, p1.le (by omega), a4.trans p2, by omega⟩
  unfold eRowS gLc
  rw [rg]
  exact e1

/-- the pages, tuples each, one behind the other -/
def eFirst : ME := gBM "list" lApp (gVar 4) (gCons (gCB (f1 mTuple) (gCons (eRowS 8) (gNil))) (gNil))
theorem first_ok {h : MH} {i : Nat} {f : Int} {A1 A2 A3 A5 A6 A7 A8 A9 A10 A11 A12 A13 : Option MV} (b : Box h i f) (hf : f + 1000 < 1000000000000) :
    ∃ h' vs P p11, gFor (gRng1 (gCall mTake [] 2 (gCons (gVar 0) (gCons (gC (.int 5)) (gNil))))) (tgName 11) (gExpr eFirst) [some (.ref i), A1, A2, A3, some (.ref h.n), A5, A6, A7, A8, A9, A10, A11, A12, A13] (h.push (.lst [])) =
        .nx [some (.ref i), A1, A2, A3, some (.ref h.n), A5, A6, A7, A8, A9, A10, p11, A12, A13] h' ∧
      Pg h' h.n vs P (h.n + 1) ∧ P.length ≤ 4 ∧ (∀ v ∈ vs, ∃ xs, v = .tup xs) ∧ Box h' i (f + 200) ∧ Kp [i] h h' := by
  have hi := b.lt
  have gs0 : (h.push (.lst [])).get h.n = some (.lst []) := get_top
  obtain ⟨r, h1, a1, a2, a3, a4, a5⟩ := tk_ok 5 (b.up Up.push) (by decide) (by decide) (by omega)
  have rg : gRng1 (gCall mTake [] 2 (gCons (gVar 0) (gCons (gC (.int 5)) (gNil)))) [some (.ref i), A1, A2, A3, some (.ref h.n), A5, A6, A7, A8, A9, A10, A11, A12, A13] (h.push (.lst [])) = .ok (it1R 0 r) h1 := by
    have c1 : gCall mTake [] 2 (gCons (gVar 0) (gCons (gC (.int 5)) (gNil))) [some (.ref i), A1, A2, A3, some (.ref h.n), A5, A6, A7, A8, A9, A10, A11, A12, A13] (h.push (.lst [])) = .ok (.int (r : Nat)) h1 := (call2 (n := 2) (var_at rfl) rfl rfl).trans a2
    simp only [gRng1, c1, Out.bind]
    rw [if_pos (by omega), Int.toNat_natCast]
  obtain ⟨m', h', e1, vs, P, p11, rfl, q1, q2, q3, q5, q6⟩ := for_loop (it := it1R 0 r) (t := tgName 11) (b := gExpr eFirst) (N := r)
    (fun j m h' => ∃ vs P p11, m = [some (.ref i), A1, A2, A3, some (.ref h.n), A5, A6, A7, A8, A9, A10, p11, A12, A13] ∧ Pg h' h.n vs P (h.n + 1) ∧ P.length = j ∧ (∀ v ∈ vs, ∃ xs, v = .tup xs) ∧ Box h' i (f + 1 + 25 * (j : Nat)) ∧ Kp [i] h h')
    (fun _ _ _ => rng_end)
    (fun j m hj hjr ⟨vs, P, p11, em, q1, q2, q3, q5, q6⟩ => by
      subst em
      obtain ⟨xs, D, h2, r1, r2, r3, r4, r5, r6, r7⟩ := row_okS (sl := 8) (by decide) (m := [some (.ref i), A1, A2, A3, some (.ref h.n), A5, A6, A7, A8, A9, A10, some (.int (j : Nat)), A12, A13]) q5 rfl (by omega)
      have hn : h.n ≤ hj.n := q6.n
      have p1 := q1.kp r6 (by simp; omega) (fun j hj => by rw [List.mem_singleton.mp hj]; omega)
      have v4 : ∀ h', gVar 4 [some (.ref i), A1, A2, A3, some (.ref h.n), A5, A6, A7, A8, A9, A10, some (.int (j : Nat)), A12, A13] h' = .ok (.ref h.n) h' := fun h' => rfl
      have ty : isTy hj "list" (.ref h.n) = true := by simp [isTy, q1.at_]
      have tp := (Sq.ref r2 : Sq h2 (.ref D) xs).tuple
      have ex : eFirst [some (.ref i), A1, A2, A3, some (.ref h.n), A5, A6, A7, A8, A9, A10, some (.int (j : Nat)), A12, A13] hj = .ok .non (h2.set h.n (.lst (vs ++ [.tup xs]))) := by
        unfold eFirst
        simp only [gBM, v4, Out.bind, ty, if_pos, gCons, gCB, r1, gNil, f1, tp, lApp, p1.at_]
        rw [if_pos (by rw [p1.len]; omega)]
      have ks : Kp [h.n] h2 (h2.set h.n (.lst (vs ++ [.tup xs]))) := Kp.set (MH.get_lt p1.at_) (by simp)
      refine ⟨.int (j : Nat), [some (.ref i), A1, A2, A3, some (.ref h.n), A5, A6, A7, A8, A9, A10, some (.int (j : Nat)), A12, A13], hj, [some (.ref i), A1, A2, A3, some (.ref h.n), A5, A6, A7, A8, A9, A10, some (.int (j : Nat)), A12, A13], _, rng_at0 hjr, rfl, expr_nx ex, vs ++ [.tup xs], P ++ [xs], some (.int (j : Nat)), rfl, ⟨set_get p1.at_, by simp [p1.len], fun l w ys e1 e2 => ?_, fun w hw q e => ?_, fun ys hys => ?_⟩, by simp [q2], fun w hw => ?_, ?_, ?_⟩
      · by_cases hl : l < vs.length
        · rw [List.getElem?_append_left hl] at e1
          rw [List.getElem?_append_left (by rw [← p1.len]; exact hl)] at e2
          refine (p1.sq l w ys e1 e2).kp ks fun q e z => ?_
          obtain ⟨zs, rfl⟩ := q3 w (List.mem_of_getElem? e1)
          cases e
        · have l1 : l = vs.length := by
            have := (List.getElem?_eq_some_iff.mp e1).1
            simp at this; omega
          subst l1
          rw [List.getElem?_append_right (Nat.le_refl _)] at e1
          rw [p1.len, List.getElem?_append_right (Nat.le_refl _)] at e2
          simp at e1 e2
          subst e1 e2
          exact .tup _
      · rcases List.mem_append.mp hw with hw | hw
        · exact p1.fresh w hw q e
        · rw [List.mem_singleton.mp hw] at e
          cases e
      · rcases List.mem_append.mp hys with hys | hys
        · exact p1.ok ys hys
        · rw [List.mem_singleton.mp hys]; exact ⟨r3, r4⟩
      · rcases List.mem_append.mp hw with hw | hw
        · exact q3 w hw
        · exact ⟨xs, List.mem_singleton.mp hw⟩
      · exact (r5.kp ks (by simp; omega)).le (by omega)
      · refine ⟨?_, fun l hl hf => ?_⟩
        · have a := r6.n
          show h.n ≤ h2.n
          omega
        · have li : l ≠ i := by simpa using hf
          have a := r6.n
          rw [set_ne p1.at_ (by omega), r6.get l (by omega) (by simpa using li), q6.get l hl hf])
    (r + 1) 0 [some (.ref i), A1, A2, A3, some (.ref h.n), A5, A6, A7, A8, A9, A10, A11, A12, A13] h1 (by omega) (Nat.zero_le _)
    ⟨[], [], A11, rfl, ⟨a4.at gs0 (by simp; omega), rfl, fun j v xs e => (by simp at e), fun v hv => (by cases hv), fun v hv => (by cases hv)⟩, rfl, fun v hv => (by cases hv), a3.le (by omega), Up.push.kp.trans a4⟩
  refine ⟨h', vs, P, p11, ?_, q1, by omega, q3, q5.le (by omega), q6⟩
  unfold gFor
  rw [rg]
  exact e1
/-- the cells of the pages are told -/
def bFill31 : MS := gAsg (gVar 10) (tgSub (gVar 6) (gBin mAdd (gBin mMulA (gC (.int 8)) (gVar 13)) (gVar 1)))
theorem fill31_ok {h : MH} {k L t : Nat} {xs : List MV} {P : List (List MV)} {K : List (Int × MV)} {A0 A1 A2 A3 A4 A5 A8 A9 A10 A11 A12 : Option MV} (a : Kn h k K L) (hL : L + 8 < 1000000) (hl : xs.length ≤ 8) (hx : ∀ x ∈ xs, atB x = true)
    (e : ∀ c, kget K c = pget P c) (ht : P.length = t) :
    ∃ h' K' p1 p10, gFor (gEnumA (gVar 7)) (tgTup [1, 10]) bFill31 [A0, A1, A2, A3, A4, A5, some (.ref k), some (.tup xs), A8, A9, A10, A11, A12, some (.int (t : Nat))] h = .nx [A0, p1, A2, A3, A4, A5, some (.ref k), some (.tup xs), A8, A9, p10, A11, A12, some (.int (t : Nat))] h' ∧
      Kn h' k K' (L + 8) ∧ (∀ c, kget K' c = pget (P ++ [xs]) c) ∧ Kp [k] h h' := by
  obtain ⟨it, i1, i2, i3⟩ := enum_it (.tup xs : Sq h (.tup xs) xs)
  obtain ⟨m', h', q1, K', p1, p10, q2, q3, q4, q5⟩ := for_loop (it := it) (t := tgTup [1, 10]) (b := bFill31) (N := xs.length)
    (fun j m h' => ∃ K' p1 p10, m = [A0, p1, A2, A3, A4, A5, some (.ref k), some (.tup xs), A8, A9, p10, A11, A12, some (.int (t : Nat))] ∧ Kn h' k K' (L + j) ∧ (∀ c, kget K' c = pget (P ++ [xs.take j]) c) ∧ Kp [k] h h')
    (fun m h' _ => by rw [i3 h' (.tup xs), List.getElem?_eq_none (Nat.le_refl _)]; rfl)
    (fun j m h' hj ⟨K', p1, p10, em, q1, q2, q3⟩ => by
      subst em
      have hv : xs[j]? = some xs[j] := List.getElem?_eq_getElem hj
      have c8 : cMul 8 (t : Int) = true := cm_l (by decide)
      have v1 : ∀ h, gVar 1 [A0, some (.int (j : Nat)), A2, A3, A4, A5, some (.ref k), some (.tup xs), A8, A9, some xs[j], A11, A12, some (.int (t : Nat))] h = .ok (.int (j : Nat)) h := fun h => rfl
      have v13 : ∀ h, gVar 13 [A0, some (.int (j : Nat)), A2, A3, A4, A5, some (.ref k), some (.tup xs), A8, A9, some xs[j], A11, A12, some (.int (t : Nat))] h = .ok (.int (t : Nat)) h := fun h => rfl
      obtain ⟨s1, s2⟩ := kset_ok (m := [A0, some (.int (j : Nat)), A2, A3, A4, A5, some (.ref k), some (.tup xs), A8, A9, some xs[j], A11, A12, some (.int (t : Nat))]) (d := gVar 6) (e := gBin mAdd (gBin mMulA (gC (.int 8)) (gVar 13)) (gVar 1)) (c := 8 * (t : Nat) + (j : Nat)) (v := xs[j]) q1 (by omega) rfl
        (by simp [gBin, gC, v1, v13, Out.bind, mMulA, isTup, isStr, mMulV, isRep, mMul, mIc, c8, mAdd]) (by omega) (hx _ (List.getElem_mem hj))
      refine ⟨.tup [.int (j : Nat), xs[j]], [A0, some (.int (j : Nat)), A2, A3, A4, A5, some (.ref k), some (.tup xs), A8, A9, some xs[j], A11, A12, some (.int (t : Nat))], h', [A0, some (.int (j : Nat)), A2, A3, A4, A5, some (.ref k), some (.tup xs), A8, A9, some xs[j], A11, A12, some (.int (t : Nat))], _, by rw [i3 h' (.tup xs), hv]; rfl, rfl, ?_, kput (8 * (t : Nat) + (j : Nat)) xs[j] K', some (.int (j : Nat)), some xs[j], rfl, s2, fun c => ?_, q3.trans (Kp.set (MH.get_lt q1.at_) (by simp))⟩
      · have v10 : gVar 10 [A0, some (.int (j : Nat)), A2, A3, A4, A5, some (.ref k), some (.tup xs), A8, A9, some xs[j], A11, A12, some (.int (t : Nat))] h' = .ok xs[j] h' := rfl
        unfold bFill31 gAsg
        rw [v10]
        simp only [Out.bindS, s1, SO.only]
      · rw [kget_kput, q2, pget_snoc, pget_snoc, ht]
        by_cases z : c = 8 * (t : Nat) + (j : Nat)
        · rw [if_pos z, if_pos (by omega), List.getElem?_take, if_pos (by omega)]
          have : (c % 8).toNat = j := by omega
          rw [this, hv]; rfl
        · rw [if_neg z]
          by_cases y : c / 8 = (t : Nat)
          · rw [if_pos y, if_pos y, List.getElem?_take, List.getElem?_take]
            by_cases w : (c % 8).toNat < j
            · rw [if_pos w, if_pos (by omega)]
            · rw [if_neg w, if_neg (by omega)]
          · rw [if_neg y, if_neg y])
    (xs.length + 1) 0 [A0, A1, A2, A3, A4, A5, some (.ref k), some (.tup xs), A8, A9, A10, A11, A12, some (.int (t : Nat))] h (by omega) (Nat.zero_le _) ⟨K, A1, A10, rfl, a, fun c => by
      rw [e, pget_snoc]
      by_cases y : c / 8 = (P.length : Nat)
      · rw [if_pos y]
        show pget P c = .non
        unfold pget
        rw [y, Int.toNat_natCast, List.getElem?_eq_none (Nat.le_refl _)]
        split <;> rfl
      · rw [if_neg y], .refl⟩
  rw [List.take_of_length_le (Nat.le_refl _)] at q4
  subst q2
  refine ⟨h', K', p1, p10, ?_, Kn.le q3 (by omega), q4, q5⟩
  unfold gFor
  rw [i1 _ (gVar 7) rfl]
  simp only [Out.bindS]
  rw [i2]
  exact q1
def bFills : MS := gFor (gEnumA (gVar 4)) (tgTup [13, 7]) (gFor (gEnumA (gVar 7)) (tgTup [1, 10]) bFill31)
theorem fills_ok {h : MH} {k sl lo : Nat} {vs : List MV} {P : List (List MV)} {A0 A1 A2 A3 A5 A7 A8 A9 A10 A11 A12 A13 : Option MV} (a : Kn h k [] 0) (p : Pg h sl vs P lo) (l : P.length ≤ 4) (tt : ∀ v ∈ vs, ∃ xs, v = .tup xs) (ks : sl ≠ k) :
    ∃ h' K p1 p7 p10 p13, bFills [A0, A1, A2, A3, some (.ref sl), A5, some (.ref k), A7, A8, A9, A10, A11, A12, A13] h = .nx [A0, p1, A2, A3, some (.ref sl), A5, some (.ref k), p7, A8, A9, p10, A11, A12, p13] h' ∧ Kn h' k K 40 ∧ (∀ c, kget K c = pget P c) ∧ Kp [k] h h' := by
  obtain ⟨it, i1, i2, i3⟩ := enum_it (.ref p.at_ : Sq h (.ref sl) vs)
  obtain ⟨m', h', q1, K, p1, p7, p10, p13, rfl, q3, q4, q5⟩ := for_loop (it := it) (t := tgTup [13, 7]) (b := gFor (gEnumA (gVar 7)) (tgTup [1, 10]) bFill31) (N := vs.length)
    (fun j m h' => ∃ K p1 p7 p10 p13, m = [A0, p1, A2, A3, some (.ref sl), A5, some (.ref k), p7, A8, A9, p10, A11, A12, p13] ∧ Kn h' k K (8 * j) ∧ (∀ c, kget K c = pget (P.take j) c) ∧ Kp [k] h h')
    (fun m h' ⟨_, _, _, _, _, _, _, _, q⟩ => by rw [i3 h' (.ref (q.at p.at_ (by simpa using ks))), List.getElem?_eq_none (Nat.le_refl _)]; rfl)
    (fun j m h' hj ⟨K, p1, p7, p10, p13, em, q1, q2, q3⟩ => by
      subst em
      obtain ⟨v, hv⟩ : ∃ v, vs[j]? = some v := ⟨vs[j], List.getElem?_eq_getElem hj⟩
      obtain ⟨xs, hx⟩ : ∃ xs, P[j]? = some xs := ⟨P[j]'(by rw [← p.len]; exact hj), List.getElem?_eq_getElem _⟩
      have sq := p.sq j _ _ hv hx
      obtain ⟨ys, rfl⟩ := tt v (List.mem_of_getElem? hv)
      cases sq with
      | tup =>
        obtain ⟨o8, oa⟩ := p.ok xs (List.mem_of_getElem? hx)
        have jl : j < P.length := by rw [← p.len]; exact hj
        obtain ⟨h2, K2, r1, r10, f1', f2, f3, f4⟩ := fill31_ok (A0 := A0) (A1 := p1) (A2 := A2) (A3 := A3) (A4 := some (.ref sl)) (A5 := A5) (A8 := A8) (A9 := A9) (A10 := p10) (A11 := A11) (A12 := A12) (t := j) q1 (by omega) o8 oa q2 (by rw [List.length_take]; omega)
        have e2 : P.take j ++ [xs] = P.take (j + 1) := by rw [List.take_succ, hx]; rfl
        rw [e2] at f3
        exact ⟨.tup [.int (j : Nat), .tup xs], [A0, p1, A2, A3, some (.ref sl), A5, some (.ref k), some (.tup xs), A8, A9, p10, A11, A12, some (.int (j : Nat))], h', _, h2, by rw [i3 h' (.ref (q3.at p.at_ (by simpa using ks))), hv]; rfl, rfl, f1', K2, r1, some (.tup xs), r10, some (.int (j : Nat)), rfl, Kn.le f2 (by omega), f3, q3.trans f4⟩)
    (vs.length + 1) 0 [A0, A1, A2, A3, some (.ref sl), A5, some (.ref k), A7, A8, A9, A10, A11, A12, A13] h (by omega) (Nat.zero_le _) ⟨[], A1, A7, A10, A13, rfl, a, fun c => by unfold kget pget; split <;> simp [kfind], .refl⟩
  have el : P.take vs.length = P := by rw [p.len]; exact List.take_of_length_le (Nat.le_refl _)
  rw [el] at q4
  have := p.len
  refine ⟨h', K, p1, p7, p10, p13, ?_, Kn.le q3 (by omega), q4, q5⟩
  unfold bFills gFor
  rw [i1 _ (gVar 4) rfl]
  simp only [Out.bindS]
  rw [i2]
  exact q1
def mRight31 (C : Nat) : MF := gBody 14 (gSeq (gAsg (gLst (gNil)) (tgName 4)) (gSeq (gFor (gRng1 (gCall mTake [] 2 (gCons (gVar 0) (gCons (gC (.int 5)) (gNil))))) (tgName 11) (gExpr eFirst)) (gSeq (gAsg (gDic) (tgName 6)) (gSeq bFills (gSeq (gPar 2 3 (gCons (gCB (f1 mDictC) (gCons (gVar 6) (gNil))) (gCons (gC .non) (gNil)))) (gSeq (gAsg (gMake C (mInit C) [] 2 (gCons (gCB (f1 mTuple) (gCons (gVar 4) (gNil))) (gNil))) (tgName 9)) (gSeq (gFor (gRng1 (gC (.int 40))) (tgName 11) (bTurn31 C)) (gRet (gC (.bl true))))))))))
theorem right31_ok {C : Nat} : Right (mRight31 C) 2000 := by
  intro h i f Bx hf0 hf
  have hi := Bx.lt
  obtain ⟨h1, vs, P, p11, a1, a2, a3, a4, a5, a6⟩ := first_ok (A1 := none) (A2 := none) (A3 := none) (A5 := none) (A6 := none) (A7 := none) (A8 := none) (A9 := none) (A10 := none) (A11 := none) (A12 := none) (A13 := none) Bx (by omega)
  have sl1 := MH.get_lt a2.at_
  -- the law's cells
  have u1 : Up h1 (h1.push (.dic [])) := Up.push
  have k0 : Kn (h1.push (.dic [])) h1.n [] 0 := ⟨get_top, List.nodup_nil, Nat.le_refl _, fun p hp => (by cases hp), fun p hp => (by cases hp)⟩
  have pg1 : Pg (h1.push (.dic [])) h.n vs P (h.n + 1) := a2.kp (u1.kp (F := [])) (by simp) (fun j hj => by cases hj)
  obtain ⟨h2, K, p1, p7, p10, p13, b1, b2, b3, b4⟩ := fills_ok (A0 := some (.ref i)) (A1 := none) (A2 := none) (A3 := none) (A5 := none) (A7 := none) (A8 := none) (A9 := none) (A10 := none) (A11 := p11) (A12 := none) (A13 := none) k0 pg1 a3 a4 (by omega)
  have kl := MH.get_lt b2.at_
  -- the base
  have u2 : Up h2 (h2.push (.dic (iKv K))) := Up.push
  have kb0 : Kn (h2.push (.dic (iKv K))) h2.n K 40 := ⟨get_top, b2.nd, b2.len, b2.pos, b2.ok⟩
  have s5 : gPar 2 3 (gCons (gCB (f1 mDictC) (gCons (gVar 6) (gNil))) (gCons (gC .non) (gNil))) [some (.ref i), p1, none, none, some (.ref h.n), none, some (.ref h1.n), p7, none, none, p10, p11, none, p13] h2 =
      .nx [some (.ref i), p1, some (.ref h2.n), some .non, some (.ref h.n), none, some (.ref h1.n), p7, none, none, p10, p11, none, p13] (h2.push (.dic (iKv K))) := by
    have v6 : gVar 6 [some (.ref i), p1, none, none, some (.ref h.n), none, some (.ref h1.n), p7, none, none, p10, p11, none, p13] h2 = .ok (.ref h1.n) h2 := rfl
    unfold gPar
    simp only [gCons, gCB, v6, Out.bind, gNil, f1, mDictC, b2.at_, gC, Out.bindS]
    rfl
  -- the memory
  have hn2 : h1.n < h2.n := by have := b4.n; have : (h1.push (.dic [])).n = h1.n + 1 := rfl; omega
  have pg2 : Pg (h2.push (.dic (iKv K))) h.n vs P (h.n + 1) := by
    have : Pg h2 h.n vs P (h.n + 1) := ⟨b4.at pg1.at_ (by simp; omega), pg1.len, fun j v xs e1 e2 => by
      obtain ⟨ys, rfl⟩ := a4 v (List.mem_of_getElem? e1)
      have := pg1.sq j _ _ e1 e2
      cases this
      exact .tup _, pg1.fresh, pg1.ok⟩
    exact this.kp (u2.kp (F := [])) (by simp) (fun j hj => by cases hj)
  have h3n : (h2.push (.dic (iKv K))).n = h2.n + 1 := rfl
  obtain ⟨h4, bb, R, c1, c2, c3, c4, c5, c6, c7⟩ := init_ok0 (C := C) (h := (h2.push (.dic (iKv K))).push (.ins C [])) (s := h2.n + 1) (pv := .tup vs) (vs := vs) (P := P) get_top (.tup vs) pg2.len (by omega) (fun j v xs e1 e2 => (pg2.sq j v xs e1 e2).up Up.push) pg2.ok
  have u4 : Up (h2.push (.dic (iKv K))) h4 := ⟨by have := c5.n; have e : ((h2.push (.dic (iKv K))).push (.ins C [])).n = h2.n + 2 := rfl; omega, fun j hj => by
    rw [c5.get j (by show j < h2.n + 1 + 1; omega) (by simp; omega)]; exact Up.push.get j hj⟩
  have s6 : gMake C (mInit C) [] 2 (gCons (gCB (f1 mTuple) (gCons (gVar 4) (gNil))) (gNil)) [some (.ref i), p1, some (.ref h2.n), some .non, some (.ref h.n), none, some (.ref h1.n), p7, none, none, p10, p11, none, p13] (h2.push (.dic (iKv K))) = .ok (.ref (h2.n + 1)) h4 := by
    have v4 : gVar 4 [some (.ref i), p1, some (.ref h2.n), some .non, some (.ref h.n), none, some (.ref h1.n), p7, none, none, p10, p11, none, p13] (h2.push (.dic (iKv K))) = .ok (.ref h.n) (h2.push (.dic (iKv K))) := rfl
    have tp := (Sq.ref pg2.at_ : Sq (h2.push (.dic (iKv K))) (.ref h.n) vs).tuple
    have e1 : gCons (gCB (f1 mTuple) (gCons (gVar 4) (gNil))) (gNil) [some (.ref i), p1, some (.ref h2.n), some .non, some (.ref h.n), none, some (.ref h1.n), p7, none, none, p10, p11, none, p13] (h2.push (.dic (iKv K))) = .ok [.tup vs] (h2.push (.dic (iKv K))) := by
      simp [gNil, gCons, gCB, f1, v4, tp, Out.bind]
    have c1' : mInit C ([.ref (h2.push (.dic (iKv K))).n] ++ ([.tup vs] ++ [])) ((h2.push (.dic (iKv K))).push (.ins C [])) = .ok .non h4 := c1
    unfold gMake
    rw [e1]
    simp only [Out.bind]
    rw [if_pos (by simp)]
    rw [show mInit C (MV.ref (h2.push (.dic (iKv K))).n :: ([MV.tup vs] ++ [])) ((h2.push (.dic (iKv K))).push (.ins C [])) = .ok .non h4 from c1]
    rfl
  have M4 := of_init c2 c7
  have st4 : S31 C h i h4 (h2.n + 1) ((h2.push (.dic (iKv K))).push (.ins C [])).n h1.n bb R [] none 0 K h2.n K none 100 (f + 300) := by
    have eqk : ∀ c, rget R c = kget K c := fun c => by rw [c4, b3]
    have e2 : ((h2.push (.dic (iKv K))).push (.ins C [])).n = h2.n + 2 := rfl
    have fpn : ∀ j ∈ fp (h2.n + 1) ((h2.push (.dic (iKv K))).push (.ins C [])).n bb R ++ kr none, h2.n + 1 ≤ j := fun j hj => by
      rcases List.mem_append.mp hj with hj | hj
      · rcases c6 j hj with z | z <;> omega
      · cases hj
    have hh : h.n ≤ h1.n := a6.n
    refine ⟨M4, c3, Kn.le ((b2.up u2).up u4) (by omega), eqk, Kn.le (kb0.up u4) (by omega), fun n => ?_, Ks.nil, trivial, ?_, fun z => by have := fpn _ z; omega, by omega, fun z => by have := fpn _ z; omega, fun j hj => by have := fpn _ hj; omega, hh, by omega, hi, ?_⟩
    · show pageOf R n = trim (ks K n 8)
      rw [page_rs M4.w n]
      have : rs R n 8 = ks K n 8 := by
        unfold rs ks
        exact List.map_congr_left fun i _ => eqk _
      rw [this]
    · exact ((((a5.up u1).kp b4 (by simp; omega)).up u2).up u4).le (by omega)
    · have w1 := u4.n
      have w2 : (h1.push (.dic [])).n = h1.n + 1 := rfl
      refine ⟨by omega, fun j hj hf => ?_⟩
      rw [u4.get j (by omega), u2.get j (by omega), b4.get j (by omega) (by simp; omega), u1.get j (by omega), a6.get j hj hf]
  generalize ((h2.push (.dic (iKv K))).push (.ins C [])).n = RR at st4
  -- forty turns
  obtain ⟨m5, h5, t1, bb5, R5, B5, ko5, km5, K5, kb5, Kb5, co5, q5, q8, q10, q11, q12, rfl, st5⟩ := for_loop (it := it1R 0 40) (t := tgName 11) (b := bTurn31 C) (N := 40)
    (fun j m h' => ∃ bb R B ko km K kb Kb co q5 q8 q10 q11 q12, m = [some (.ref i), p1, some (.ref kb), some (kv co), some (.ref h.n), q5, some (.ref h1.n), p7, q8, some (.ref (h2.n + 1)), q10, q11, q12, p13] ∧
      S31 C h i h' (h2.n + 1) RR h1.n bb R B ko km K kb Kb co (100 + 2 * j) (f + 300 + 8 * (j : Nat)))
    (fun _ _ _ => rng_end)
    (fun j m h' hj ⟨bb, R, B, ko, km, K, kb, Kb, co, q5, q8, q10, q11, q12, em, st⟩ => by
      subst em
      obtain ⟨h'', b', R', B', ko', km', K', kb', Kb', co', p5', p8', p10', p12', e1, st'⟩ := turn31_ok (o1 := p1) (o4 := some (.ref h.n)) (o5 := q5) (o7 := p7) (o8 := q8) (o10 := q10) (o11 := some (.int (j : Nat))) (o12 := q12) (o13 := p13) st (by omega) (by omega)
      refine ⟨.int (j : Nat), [some (.ref i), p1, some (.ref kb), some (kv co), some (.ref h.n), q5, some (.ref h1.n), p7, q8, some (.ref (h2.n + 1)), q10, some (.int (j : Nat)), q12, p13], h', [some (.ref i), p1, some (.ref kb'), some (kv co'), some (.ref h.n), p5', some (.ref h1.n), p7, p8', some (.ref (h2.n + 1)), p10', some (.int (j : Nat)), p12', p13], h'', rng_at0 hj, rfl, e1, b', R', B', ko', km', K', kb', Kb', co', p5', p8', p10', some (.int (j : Nat)), p12', rfl, ?_⟩
      have e1 : 100 + 2 * (j + 1) = 100 + 2 * j + 2 := by omega
      have e2 : f + 300 + 8 * ((j + 1 : Nat) : Int) = f + 300 + 8 * (j : Nat) + 8 := by omega
      rw [e1, e2]
      exact st')
    41 0 [some (.ref i), p1, some (.ref h2.n), some .non, some (.ref h.n), none, some (.ref h1.n), p7, none, some (.ref (h2.n + 1)), p10, p11, none, p13] h4 (by decide) (by decide) ⟨bb, R, [], none, 0, K, h2.n, K, none, none, none, p10, p11, none, rfl, by simpa using st4⟩
  have s7 : gFor (gRng1 (gC (.int 40))) (tgName 11) (bTurn31 C) [some (.ref i), p1, some (.ref h2.n), some .non, some (.ref h.n), none, some (.ref h1.n), p7, none, some (.ref (h2.n + 1)), p10, p11, none, p13] h4 = .nx [some (.ref i), p1, some (.ref kb5), some (kv co5), some (.ref h.n), q5, some (.ref h1.n), p7, q8, some (.ref (h2.n + 1)), q10, q11, q12, p13] h5 := t1
  refine ⟨h5, body_rt (v := .bl true) ?_, st5.box.le (by omega), keep_of st5.kp⟩
  refine (seq_nx (asg_nx (v := .ref h.n) (h' := h.push (.lst [])) rfl)).trans ?_
  refine (seq_nx a1).trans ?_
  refine (seq_nx (asg_nx (v := .ref h1.n) (h' := h1.push (.dic [])) rfl)).trans ?_
  refine (seq_nx b1).trans ?_
  refine (seq_nx s5).trans ?_
  refine (seq_nx (asg_nx s6)).trans ?_
  refine (seq_nx s7).trans ?_
  rfl
end XK
set_option Elab.async false
set_option linter.all false
set_option maxRecDepth 100000
set_option maxHeartbeats 8000000
namespace K31
open PySem PySem.Spec PyProof.Rows L2 JB MI
def top (i : Nat) : Stmt := PySem.Challenge.pw_lastingrun_k31_changed_pages.main.body.getD i (.Pass ⟨0, 0, 0, 0⟩)
abbrev s_law_cells : Stmt := top 9
abbrev d_law_cells : He.DefD := ⟨("_law_cells", none), "_law_cells", "_law_cells", defArgs s_law_cells, defBody s_law_cells, defScope s_law_cells, [], []⟩
abbrev s_law_box : Stmt := top 10
abbrev d_law_box : He.DefD := ⟨("_law_box", none), "_law_box", "_law_box", defArgs s_law_box, defBody s_law_box, defScope s_law_box, [], []⟩
abbrev s_without_end : Stmt := top 6
abbrev d_without_end : He.DefD := ⟨("without_end", none), "without_end", "without_end", defArgs s_without_end, defBody s_without_end, defScope s_without_end, [], []⟩
abbrev s_Memory___init : Stmt := inClass (top 7) 0
abbrev d_Memory___init : He.DefD := ⟨("Memory", some "__init__"), "__init__", "Memory.__init__", defArgs s_Memory___init, defBody s_Memory___init, defScope s_Memory___init, [.adr (He.dflAt ("Memory", some "__init__") 0)], []⟩
abbrev s_law_take : Stmt := top 11
abbrev d_law_take : He.DefD := ⟨("_law_take", none), "_law_take", "_law_take", defArgs s_law_take, defBody s_law_take, defScope s_law_take, [], []⟩
abbrev s_law_of : Stmt := top 12
abbrev d_law_of : He.DefD := ⟨("_law_of", none), "_law_of", "_law_of", defArgs s_law_of, defBody s_law_of, defScope s_law_of, [], []⟩
abbrev s_Memory_page : Stmt := inClass (top 7) 7
abbrev d_Memory_page : He.DefD := ⟨("Memory", some "page"), "page", "Memory.page", defArgs s_Memory_page, defBody s_Memory_page, defScope s_Memory_page, [], []⟩
abbrev s_Memory__keep : Stmt := inClass (top 7) 3
abbrev d_Memory__keep : He.DefD := ⟨("Memory", some "_keep"), "_keep", "Memory._keep", defArgs s_Memory__keep, defBody s_Memory__keep, defScope s_Memory__keep, [], []⟩
abbrev s_Memory_get : Stmt := inClass (top 7) 1
abbrev d_Memory_get : He.DefD := ⟨("Memory", some "get"), "get", "Memory.get", defArgs s_Memory_get, defBody s_Memory_get, defScope s_Memory_get, [], []⟩
abbrev s_Memory_put : Stmt := inClass (top 7) 2
abbrev d_Memory_put : He.DefD := ⟨("Memory", some "put"), "put", "Memory.put", defArgs s_Memory_put, defBody s_Memory_put, defScope s_Memory_put, [], []⟩
abbrev s_Memory_changed : Stmt := inClass (top 7) 8
abbrev d_Memory_changed : He.DefD := ⟨("Memory", some "changed"), "changed", "Memory.changed", defArgs s_Memory_changed, defBody s_Memory_changed, defScope s_Memory_changed, [], []⟩
abbrev s_law_same : Stmt := top 13
abbrev d_law_same : He.DefD := ⟨("_law_same", none), "_law_same", "_law_same", defArgs s_law_same, defBody s_law_same, defScope s_law_same, [], []⟩
abbrev s_law_thing : Stmt := top 14
abbrev d_law_thing : He.DefD := ⟨("_law_thing", none), "_law_thing", "_law_thing", defArgs s_law_thing, defBody s_law_thing, defScope s_law_thing, [], []⟩
abbrev s_law_trim : Stmt := top 15
abbrev d_law_trim : He.DefD := ⟨("_law_trim", none), "_law_trim", "_law_trim", defArgs s_law_trim, defBody s_law_trim, defScope s_law_trim, [], []⟩
abbrev s_law_leaves : Stmt := top 16
abbrev d_law_leaves : He.DefD := ⟨("_law_leaves", none), "_law_leaves", "_law_leaves", defArgs s_law_leaves, defBody s_law_leaves, defScope s_law_leaves, [], []⟩
abbrev s_law_unlike : Stmt := top 17
abbrev d_law_unlike : He.DefD := ⟨("_law_unlike", none), "_law_unlike", "_law_unlike", defArgs s_law_unlike, defBody s_law_unlike, defScope s_law_unlike, [], []⟩
abbrev s_Memory_many : Stmt := inClass (top 7) 6
abbrev d_Memory_many : He.DefD := ⟨("Memory", some "many"), "many", "Memory.many", defArgs s_Memory_many, defBody s_Memory_many, defScope s_Memory_many, [], []⟩
abbrev s_Memory_freeze : Stmt := inClass (top 7) 9
abbrev d_Memory_freeze : He.DefD := ⟨("Memory", some "freeze"), "freeze", "Memory.freeze", defArgs s_Memory_freeze, defBody s_Memory_freeze, defScope s_Memory_freeze, [], []⟩
abbrev s_Memory__need_frozen : Stmt := inClass (top 7) 14
abbrev d_Memory__need_frozen : He.DefD := ⟨("Memory", some "_need_frozen"), "_need_frozen", "Memory._need_frozen", defArgs s_Memory__need_frozen, defBody s_Memory__need_frozen, defScope s_Memory__need_frozen, [], []⟩
abbrev s_Memory_settle : Stmt := inClass (top 7) 12
abbrev d_Memory_settle : He.DefD := ⟨("Memory", some "settle"), "settle", "Memory.settle", defArgs s_Memory_settle, defBody s_Memory_settle, defScope s_Memory_settle, [], []⟩
abbrev s_Memory_thaw : Stmt := inClass (top 7) 13
abbrev d_Memory_thaw : He.DefD := ⟨("Memory", some "thaw"), "thaw", "Memory.thaw", defArgs s_Memory_thaw, defBody s_Memory_thaw, defScope s_Memory_thaw, [], []⟩
abbrev s_law_right : Stmt := top 18
abbrev d_law_right : He.DefD := ⟨("_law_right", none), "_law_right", "_law_right", defArgs s_law_right, defBody s_law_right, defScope s_law_right, [], []⟩
abbrev s_law : Stmt := top 19
abbrev d_law : He.DefD := ⟨("law", none), "law", "law", defArgs s_law, defBody s_law, defScope s_law, [], []⟩
def fn : List He.DefD := [d_law_cells, d_law_box, d_without_end, d_Memory___init, d_law_take, d_law_of, d_Memory_page, d_Memory__keep, d_Memory_get, d_Memory_put, d_Memory_changed, d_law_same, d_law_thing, d_law_trim, d_law_leaves, d_law_unlike, d_Memory_many, d_Memory_freeze, d_Memory__need_frozen, d_Memory_settle, d_Memory_thaw, d_law_right, d_law]
def fa : List He.Fa := [.glo "law", .free "list", .free "enumerate", .free "abs", .free "int", .free "len", .free "tuple", .cls "Memory", .noat "Memory" "_rows", .glo "without_end", .int "PAGE" 8, .noat "Memory" "_base", .noat "Memory" "_kept", .noat "Memory" "_kept_many", .noat "Memory" "_puts", .glo "Memory", .glo "_law_take", .meth "Memory" "page", .meth "Memory" "get", .meth "Memory" "_keep", .free "sorted", .free "repr", .free "str", .glo "_law_of", .free "range", .glo "_law_trim", .glo "_law_leaves", .free "max", .meth "Memory" "many", .meth "Memory" "changed", .meth "Memory" "_need_frozen", .glo "_law_thing", .free "dict", .mkr "Memory", .meth "Memory" "put", .glo "_law_same", .glo "_law_unlike", .meth "Memory" "freeze", .meth "Memory" "settle", .meth "Memory" "thaw", .glo "_law_cells", .glo "_law_box", .glo "_law_right", .free "all"]
def fc : List Fc := [.etup ("Memory", some "__init__") 0]
def cn : Nat → Str
  | 0 => "Memory"
  | _ => "_"
abbrev tN (K : PySem.W.Frag) : Nat → Addr := fun i => He.ga K (cn i)
abbrev W (K : PySem.W.Frag) (mg : Str → Option Value) : Prop := Fx fa fn fc K mg
theorem n__rows : ("_rows" : Str) = nm 2224424605672678250579492959 := by decide +kernel
theorem n__base : ("_base" : Str) = nm 1953625185185451595341496415 := by decide +kernel
theorem n__kept : ("_kept" : Str) = nm 2243767354222864078911570015 := by decide +kernel
theorem n__kept_many : ("_kept_many" : Str) = nm 94941204903626959178789249757594317142006096203679912689759 := by decide +kernel
theorem n__puts : ("_puts" : Str) = nm 2224424578002588528290037855 := by decide +kernel
theorem n_page : ("page" : Str) = nm 931561028721326424176 := by decide +kernel
theorem n_get : ("get" : Str) = nm 510173607100519 := by decide +kernel
theorem n__keep : ("_keep" : Str) = nm 2166396000310435406327840863 := by decide +kernel
theorem n_many : ("many" : Str) = nm 1116028500244747518061 := by decide +kernel
theorem n_changed : ("changed" : Str) = nm 8507063270072193834987087082683635859555 := by decide +kernel
theorem n__need_frozen : ("_need_frozen" : Str) = nm 379596215269537023593716527823455569553730270615374589765347872264421471 := by decide +kernel
theorem n_put : ("put" : Str) = nm 510173640654960 := by decide +kernel
theorem n_freeze : ("freeze" : Str) = nm 4097049099761768874413419055284326 := by decide +kernel
theorem n_settle : ("settle" : Str) = nm 4097048828962523631383007413141619 := by decide +kernel
theorem n_thaw : ("thaw" : Str) = nm 1097581698996448002164 := by decide +kernel
section
variable {P : Program} {w : World} {K : PySem.W.Frag} {mg : Str → Option Value} {base : Heap}
theorem fk_Memory__rows (F : W K mg) : FldOk K (tN K) [0] 2224424605672678250579492959 := fun c hc => by
  obtain rfl := List.mem_singleton.mp hc
  exact ⟨F.cls 7, by rw [← n__rows]; exact F.noat 8⟩
theorem fk_Memory__base (F : W K mg) : FldOk K (tN K) [0] 1953625185185451595341496415 := fun c hc => by
  obtain rfl := List.mem_singleton.mp hc
  exact ⟨F.cls 7, by rw [← n__base]; exact F.noat 11⟩
theorem fk_Memory__kept (F : W K mg) : FldOk K (tN K) [0] 2243767354222864078911570015 := fun c hc => by
  obtain rfl := List.mem_singleton.mp hc
  exact ⟨F.cls 7, by rw [← n__kept]; exact F.noat 12⟩
theorem fk_Memory__kept_many (F : W K mg) : FldOk K (tN K) [0] 94941204903626959178789249757594317142006096203679912689759 := fun c hc => by
  obtain rfl := List.mem_singleton.mp hc
  exact ⟨F.cls 7, by rw [← n__kept_many]; exact F.noat 13⟩
theorem fk_Memory__puts (F : W K mg) : FldOk K (tN K) [0] 2224424578002588528290037855 := fun c hc => by
  obtain rfl := List.mem_singleton.mp hc
  exact ⟨F.cls 7, by rw [← n__puts]; exact F.noat 14⟩
end
end K31
set_option Elab.async false
set_option linter.all false
set_option maxRecDepth 100000
set_option maxHeartbeats 8000000
namespace K31
open PySem PySem.Spec PyProof.Rows L2 JB MI
section
variable {P : Program} {w : World} {K : PySem.W.Frag} {mg : Str → Option Value} {base : Heap}
abbrev sl_law_cells : List Str := ["_law_script", "_law_most", "_law_cell", "_law_cells_here", "_law_k"]
def b_law_cells : MS := gSeq (gAsg (gOrT (gCB (f1 mList) (gCons (gSl (gVar 0) (gPn) (gPs (gVar 1))) (gNil))) (gLst (gCons (gC (.int 0)) (gNil)))) (tgName 3)) (gSeq (gFor (gEnumA (gSl (gVar 0) (gPs (gVar 1)) (gPs (gC (.int 63))))) (tgTup [4, 2]) (gAsg (gBin mAdd (gBin mIx (gVar 3) (gBin mMod (gVar 4) (gVar 1))) (gBin mMulA (gVar 2) (gBin mAdd (gVar 4) (gC (.int 2))))) (tgSub (gVar 3) (gBin mMod (gVar 4) (gVar 1))))) (gRet (gVar 3)))
def m_law_cells : MF := gBody 5 b_law_cells
theorem sc_law_cells : FnScope ["_law_script", "_law_most", "_law_cell", "_law_cells_here", "_law_k"] ["_law_script", "_law_most"] (defScope s_law_cells) :=
  ⟨rfl, rfl, rfl, by decide +kernel, rfl, by decide +kernel, by decide +kernel⟩
theorem fn_law_cells (F : W K mg) {fd : FuncData} (D : FunD K d_law_cells.name d_law_cells.qual d_law_cells.params d_law_cells.body d_law_cells.scope (d_law_cells.dvs K) (d_law_cells.kws K) (He.fAd K d_law_cells.at_) fd) :
    FnG P w K mg base (L2.CX P w) 1 (He.fAd K d_law_cells.at_) fd ["_law_script", "_law_most"] (spM ⟨K, tN K⟩ 2 m_law_cells) :=
  def_MD D sc_law_cells b_law_cells fun cdv A outer s H E hs hr => by
    have sc := sc_law_cells
    exact js_cons (js_set (i := 3) sc.nd rfl (Or.inl rfl) (je_orT (je_callT call_list_of mc_list (by rfl) (F.free 1) PyProof.Rows.boot_list (ja_cons (je_slice (je_var (pv 0)) (jp_none) (jp_some (je_var (pv 1)))) (ja_nil))) (je_one (je_lst (ja_cons (je_int) (ja_nil)))))) (js_cons (js_for own_M rfl (ji_enumT (by rfl) (F.free 2) (je_slice (je_var (pv 0)) (jp_some (je_var (pv 1))) (jp_some (je_int)))) (jg_tup (is := [4, 2]) rfl (pgs_more (pg_name (i := 4) sc.nd rfl (Or.inl rfl)) (pgs_more (pg_name (i := 2) sc.nd rfl (Or.inl rfl)) (pgs_names)))) (js_one (js_asg (je_add (je_ix (hu_of hr) (je_var (pv 3)) (je_mod (je_var (pv 4)) (je_var (pv 1)))) (je_mulA (je_var (pv 2)) (je_add (je_var (pv 4)) (je_int)))) (jg_sub (hu_of hr) (je_var (pv 3)) (je_mod (je_var (pv 4)) (je_var (pv 1))))))) (js_one (js_ret (je_var (pv 3)))))
theorem ok_law_cells (F : W K mg) : FM P w K mg base (tN K) 1 (He.fAd K d_law_cells.at_) 2 [] m_law_cells := by
  obtain ⟨fd, D⟩ := F.c.def_ 0 (d := d_law_cells) rfl
  exact FM.of0 (ps := ["_law_script", "_law_most"]) D (fn_law_cells F D) rfl (fun _ _ _ _ _ _ us hl => match us, hl with | [_, _], _ => rfl)
abbrev sl_law_box : List Str := ["_law_cells_here", "_law_k", "_law_cell"]
def b_law_box : MS := gSeq (gAsg (gBin mIx (gVar 0) (gVar 1)) (tgName 2)) (gRet (gLst (gCons (gBin mMulA (gCB (f1 mAbs) (gCons (gVar 2) (gNil))) (gCB (f1 mInt) (gCons (gBin mGeI (gCB (f1 mAbs) (gCons (gVar 2) (gNil))) (gBin mPow (gC (.int 10)) (gC (.int 18)))) (gNil)))) (gCons (gBin mAdd (gBin mAdd (gBin mMod (gVar 2) (gC (.int 2305843009213693951))) (gBin mMulA (gC (.int 7919)) (gVar 1))) (gC (.int 61))) (gCons (gC (.int 0)) (gNil))))))
def m_law_box : MF := gBody 3 b_law_box
theorem sc_law_box : FnScope ["_law_cells_here", "_law_k", "_law_cell"] ["_law_cells_here", "_law_k"] (defScope s_law_box) :=
  ⟨rfl, rfl, rfl, by decide +kernel, rfl, by decide +kernel, by decide +kernel⟩
theorem fn_law_box (F : W K mg) {fd : FuncData} (D : FunD K d_law_box.name d_law_box.qual d_law_box.params d_law_box.body d_law_box.scope (d_law_box.dvs K) (d_law_box.kws K) (He.fAd K d_law_box.at_) fd) :
    FnG P w K mg base (L2.CX P w) 1 (He.fAd K d_law_box.at_) fd ["_law_cells_here", "_law_k"] (spM ⟨K, tN K⟩ 2 m_law_box) :=
  def_MD D sc_law_box b_law_box fun cdv A outer s H E hs hr => by
    have sc := sc_law_box
    exact js_cons (js_set (i := 2) sc.nd rfl (Or.inl rfl) (je_ix (hu_of hr) (je_var (pv 0)) (je_var (pv 1)))) (js_one (js_ret (je_lst (ja_cons (je_mulA (je_callB call_abs mc_abs (by rfl) (F.free 3) PyProof.Rows.boot_abs (ja_cons (je_var (pv 2)) (ja_nil))) (je_callT call_int1 mc_int (by rfl) (F.free 4) PyProof.Rows.boot_int (ja_cons (je_ge (je_callB call_abs mc_abs (by rfl) (F.free 3) PyProof.Rows.boot_abs (ja_cons (je_var (pv 2)) (ja_nil))) (je_pow (je_int) (je_int))) (ja_nil)))) (ja_cons (je_add (je_add (je_mod (je_var (pv 2)) (je_int)) (je_mulA (je_int) (je_var (pv 1)))) (je_int)) (ja_cons (je_int) (ja_nil)))))))
theorem ok_law_box (F : W K mg) : FM P w K mg base (tN K) 1 (He.fAd K d_law_box.at_) 2 [] m_law_box := by
  obtain ⟨fd, D⟩ := F.c.def_ 1 (d := d_law_box) rfl
  exact FM.of0 (ps := ["_law_cells_here", "_law_k"]) D (fn_law_box F D) rfl (fun _ _ _ _ _ _ us hl => match us, hl with | [_, _], _ => rfl)
abbrev sl_without_end : List Str := ["atoms", "many"]
def b_without_end : MS := gSeq (gAsg (gCB (f1 mLenV) (gCons (gVar 0) (gNil))) (tgName 1)) (gSeq (gWhile (gAnd (gB (gBin mGtI (gVar 1) (gC (.int 0)))) (gB (gIsN (gBin mIx (gVar 0) (gBin mSub (gVar 1) (gC (.int 1))))))) (gAug 1 (fun i j => i - j) (gC (.int 1))) 100000) (gRet (gCB (f1 mTuple) (gCons (gSl (gVar 0) (gPn) (gPs (gVar 1))) (gNil)))))
def m_without_end : MF := gBody 2 b_without_end
theorem sc_without_end : FnScope ["atoms", "many"] ["atoms"] (defScope s_without_end) :=
  ⟨rfl, rfl, rfl, by decide +kernel, rfl, by decide +kernel, by decide +kernel⟩
theorem fn_without_end (F : W K mg) {fd : FuncData} (D : FunD K d_without_end.name d_without_end.qual d_without_end.params d_without_end.body d_without_end.scope (d_without_end.dvs K) (d_without_end.kws K) (He.fAd K d_without_end.at_) fd) :
    FnG P w K mg base (L2.CX P w) 1 (He.fAd K d_without_end.at_) fd ["atoms"] (spM ⟨K, tN K⟩ 1 m_without_end) :=
  def_MD D sc_without_end b_without_end fun cdv A outer s H E hs hr => by
    have sc := sc_without_end
    exact js_cons (js_set (i := 1) sc.nd rfl (Or.inl rfl) (je_callB call_lenM mc_len (by rfl) (F.free 5) PySem.boot_len (ja_cons (je_var (pv 0)) (ja_nil)))) (js_cons (js_while 100000 own_M (PW.pt (jw_and (jt_gt (je_var (pv 1)) (je_int)) (jw_and1 (jt_isN (je_ix (hu_of hr) (je_var (pv 0)) (je_sub (je_var (pv 1)) (je_int))))))) (js_one (js_aug ip_sub sc.nd rfl (Or.inl rfl) (je_int)))) (js_one (js_ret (je_callT call_tuple_of mc_tuple (by rfl) (F.free 6) PyProof.Rows.boot_tuple (ja_cons (je_slice (je_var (pv 0)) (jp_none) (jp_some (je_var (pv 1)))) (ja_nil))))))
theorem ok_without_end (F : W K mg) : FM P w K mg base (tN K) 1 (He.fAd K d_without_end.at_) 1 [] m_without_end := by
  obtain ⟨fd, D⟩ := F.c.def_ 2 (d := d_without_end) rfl
  exact FM.of0 (ps := ["atoms"]) D (fn_without_end F D) rfl (fun _ _ _ _ _ _ us hl => match us, hl with | [_], _ => rfl)
abbrev sl_Memory___init : List Str := ["self", "pages", "number", "page"]
def b_Memory___init : MS := gSeq (gFldS [0] 2224424605672678250579492959 (gDic) (gVar 0)) (gSeq (gFor (gEnumA (gVar 1)) (tgTup [2, 3]) (gIfS (gTru (gCall m_without_end [] 1 (gCons (gVar 3) (gNil)))) (gAsg (gBin mAdd (gCB (f1 mList) (gCons (gVar 3) (gNil))) (gBin mMulA (gLst (gCons (gC .non) (gNil))) (gBin mSub (gC (.int 8)) (gCB (f1 mLenV) (gCons (gVar 3) (gNil)))))) (tgSub (gFld [0] 2224424605672678250579492959 (gVar 0)) (gVar 2))) (gNext))) (gSeq (gFldS [0] 1953625185185451595341496415 (gDic) (gVar 0)) (gSeq (gFldS [0] 2243767354222864078911570015 (gC .non) (gVar 0)) (gSeq (gFldS [0] 94941204903626959178789249757594317142006096203679912689759 (gC (.int 0)) (gVar 0)) (gFldS [0] 2224424578002588528290037855 (gC (.int 0)) (gVar 0))))))
def m_Memory___init : MF := gBody 4 b_Memory___init
theorem sc_Memory___init : FnScope ["self", "pages", "number", "page"] ["self", "pages"] (defScope s_Memory___init) :=
  ⟨rfl, rfl, rfl, by decide +kernel, rfl, by decide +kernel, by decide +kernel⟩
theorem fn_Memory___init (F : W K mg) {fd : FuncData} (D : FunD K d_Memory___init.name d_Memory___init.qual d_Memory___init.params d_Memory___init.body d_Memory___init.scope (d_Memory___init.dvs K) (d_Memory___init.kws K) (He.fAd K d_Memory___init.at_) fd) :
    FnG P w K mg base (L2.CX P w) 2 (He.fAd K d_Memory___init.at_) fd ["self", "pages"] (spM ⟨K, tN K⟩ 2 m_Memory___init) :=
  def_MD D sc_Memory___init b_Memory___init fun cdv A outer s H E hs hr => by
    have sc := sc_Memory___init
    exact js_cons (js_fld (je_var (pv 0)) (je_dic) (fk_Memory__rows F) n__rows) (js_cons (js_for own_M rfl (ji_enumT (by rfl) (F.free 2) (je_var (pv 1))) (jg_tup (is := [2, 3]) rfl (pgs_more (pg_name (i := 2) sc.nd rfl (Or.inl rfl)) (pgs_more (pg_name (i := 3) sc.nd rfl (Or.inl rfl)) (pgs_names)))) (js_one (js_if (jt_tru (je_call (ok_without_end F) hs (hr.mono (by decide)) pass_M (by rfl) (F.glo 9) (ja_cons (je_var (pv 3)) (ja_nil)))) (js_one (js_asg (je_add (je_callT call_list_of mc_list (by rfl) (F.free 1) PyProof.Rows.boot_list (ja_cons (je_var (pv 3)) (ja_nil))) (je_mulA (je_lst (ja_cons (je_non) (ja_nil))) (je_sub (je_glI (by rfl) (F.int 10)) (je_callB call_lenM mc_len (by rfl) (F.free 5) PySem.boot_len (ja_cons (je_var (pv 3)) (ja_nil)))))) (jg_sub (hu_of hr) (je_fld (je_var (pv 0)) (fk_Memory__rows F) n__rows) (je_var (pv 2))))) (js_nil)))) (js_cons (js_fld (je_var (pv 0)) (je_dic) (fk_Memory__base F) n__base) (js_cons (js_fld (je_var (pv 0)) (je_non) (fk_Memory__kept F) n__kept) (js_cons (js_fld (je_var (pv 0)) (je_int) (fk_Memory__kept_many F) n__kept_many) (js_one (js_fld (je_var (pv 0)) (je_int) (fk_Memory__puts F) n__puts))))))
theorem ok_Memory___init_d0 (F : W K mg) : FM P w K mg base (tN K) 2 (He.fAd K d_Memory___init.at_) 2 [] m_Memory___init := by
  obtain ⟨fd, D⟩ := F.c.def_ 3 (d := d_Memory___init) rfl
  exact FM.ofD (ps := ["self", "pages"]) (m := 2) (j := 1) D (fn_Memory___init F D) rfl (by simp [He.DefD.dvs]) rfl (fun _ _ _ _ _ _ _ us its hl hi => match us, its, hl, hi with | [_, _], [_], _, _ => ⟨_, rfl, rfl⟩)
    fun ρ H => .nil
theorem ok_Memory___init_d1 (F : W K mg) : FM P w K mg base (tN K) 2 (He.fAd K d_Memory___init.at_) 2 [.ktp []] m_Memory___init := by
  obtain ⟨fd, D⟩ := F.c.def_ 3 (d := d_Memory___init) rfl
  exact FM.ofD (ps := ["self", "pages"]) (m := 1) (j := 0) D (fn_Memory___init F D) rfl (by simp [He.DefD.dvs]) rfl (fun _ _ _ _ _ _ _ us its hl hi => match us, its, hl, hi with | [_], [_], _, _ => ⟨_, rfl, rfl⟩)
    fun ρ H => .cons (.ktp (etupB_ok (F.extra 0) _) .nil) (.nil)
abbrev sl_law_take : List Str := ["_law_box_here", "_law_below", "_law_far", "_law_found", "_law_once", "_law_seed", "_law_twice"]
def b_law_take : MS := gSeq (gIfS (gB (gBin mGtI (gBin mIx (gVar 0) (gC (.int 0))) (gC (.int 0)))) (gSeq (gAsg (gBin mMod (gBin mIx (gVar 0) (gC (.int 0))) (gVar 1)) (tgName 3)) (gSeq (gAsg (gBin mDiv (gBin mIx (gVar 0) (gC (.int 0))) (gVar 1)) (tgSub (gVar 0) (gC (.int 0)))) (gRet (gVar 3)))) (gNext)) (gSeq (gPar 5 2 (gCons (gBin mIx (gVar 0) (gC (.int 1))) (gCons (gBin mAdd (gBin mIx (gVar 0) (gC (.int 2))) (gC (.int 1))) (gNil)))) (gSeq (gAsg (gVar 2) (tgSub (gVar 0) (gC (.int 2)))) (gSeq (gAsg (gBin mMod (gBin mMulA (gBin mAdd (gVar 5) (gBin mMulA (gC (.int 48271)) (gVar 2))) (gBin mAdd (gC (.int 39373)) (gVar 2))) (gC (.int 2147483647))) (tgName 4)) (gSeq (gAsg (gBin mMod (gBin mMulA (gBin mAdd (gBin mAdd (gVar 4) (gVar 2)) (gBin mDiv (gVar 5) (gC (.int 1000003)))) (gBin mAdd (gBin mMod (gVar 4) (gC (.int 40009))) (gC (.int 7)))) (gC (.int 2147483629))) (tgName 6)) (gRet (gBin mMod (gBin mDiv (gBin mMod (gBin mAdd (gBin mMulA (gVar 6) (gC (.int 48271))) (gVar 4)) (gC (.int 2147483587))) (gC (.int 64))) (gVar 1)))))))
def m_law_take : MF := gBody 7 b_law_take
theorem sc_law_take : FnScope ["_law_box_here", "_law_below", "_law_far", "_law_found", "_law_once", "_law_seed", "_law_twice"] ["_law_box_here", "_law_below"] (defScope s_law_take) :=
  ⟨rfl, rfl, rfl, by decide +kernel, rfl, by decide +kernel, by decide +kernel⟩
theorem fn_law_take (F : W K mg) {fd : FuncData} (D : FunD K d_law_take.name d_law_take.qual d_law_take.params d_law_take.body d_law_take.scope (d_law_take.dvs K) (d_law_take.kws K) (He.fAd K d_law_take.at_) fd) :
    FnG P w K mg base (L2.CX P w) 1 (He.fAd K d_law_take.at_) fd ["_law_box_here", "_law_below"] (spM ⟨K, tN K⟩ 2 m_law_take) :=
  def_MD D sc_law_take b_law_take fun cdv A outer s H E hs hr => by
    have sc := sc_law_take
    exact js_cons (js_if (jt_gt (je_ix (hu_of hr) (je_var (pv 0)) (je_int)) (je_int)) (js_cons (js_set (i := 3) sc.nd rfl (Or.inl rfl) (je_mod (je_ix (hu_of hr) (je_var (pv 0)) (je_int)) (je_var (pv 1)))) (js_cons (js_asg (je_div (je_ix (hu_of hr) (je_var (pv 0)) (je_int)) (je_var (pv 1))) (jg_sub (hu_of hr) (je_var (pv 0)) (je_int))) (js_one (js_ret (je_var (pv 3)))))) (js_nil)) (js_cons (js_par (i := 5) (j := 2) rfl sc.nd rfl rfl (by decide) rfl rfl (ja_cons (je_ix (hu_of hr) (je_var (pv 0)) (je_int)) (ja_cons (je_add (je_ix (hu_of hr) (je_var (pv 0)) (je_int)) (je_int)) (ja_nil)))) (js_cons (js_asg (je_var (pv 2)) (jg_sub (hu_of hr) (je_var (pv 0)) (je_int))) (js_cons (js_set (i := 4) sc.nd rfl (Or.inl rfl) (je_mod (je_mulA (je_add (je_var (pv 5)) (je_mulA (je_int) (je_var (pv 2)))) (je_add (je_int) (je_var (pv 2)))) (je_int))) (js_cons (js_set (i := 6) sc.nd rfl (Or.inl rfl) (je_mod (je_mulA (je_add (je_add (je_var (pv 4)) (je_var (pv 2))) (je_div (je_var (pv 5)) (je_int))) (je_add (je_mod (je_var (pv 4)) (je_int)) (je_int))) (je_int))) (js_one (js_ret (je_mod (je_div (je_mod (je_add (je_mulA (je_var (pv 6)) (je_int)) (je_var (pv 4))) (je_int)) (je_int)) (je_var (pv 1)))))))))
theorem ok_law_take (F : W K mg) : FM P w K mg base (tN K) 1 (He.fAd K d_law_take.at_) 2 [] m_law_take := by
  obtain ⟨fd, D⟩ := F.c.def_ 4 (d := d_law_take) rfl
  exact FM.of0 (ps := ["_law_box_here", "_law_below"]) D (fn_law_take F D) rfl (fun _ _ _ _ _ _ us hl => match us, hl with | [_, _], _ => rfl)
abbrev sl_law_of : List Str := ["_law_box_here", "_law_some"]
def b_law_of : MS := gRet (gBin mIx (gVar 1) (gCall m_law_take [] 2 (gCons (gVar 0) (gCons (gCB (f1 mLenV) (gCons (gVar 1) (gNil))) (gNil)))))
def m_law_of : MF := gBody 2 b_law_of
theorem sc_law_of : FnScope ["_law_box_here", "_law_some"] ["_law_box_here", "_law_some"] (defScope s_law_of) :=
  ⟨rfl, rfl, rfl, by decide +kernel, rfl, by decide +kernel, by decide +kernel⟩
theorem fn_law_of (F : W K mg) {fd : FuncData} (D : FunD K d_law_of.name d_law_of.qual d_law_of.params d_law_of.body d_law_of.scope (d_law_of.dvs K) (d_law_of.kws K) (He.fAd K d_law_of.at_) fd) :
    FnG P w K mg base (L2.CX P w) 2 (He.fAd K d_law_of.at_) fd ["_law_box_here", "_law_some"] (spM ⟨K, tN K⟩ 2 m_law_of) :=
  def_MD D sc_law_of b_law_of fun cdv A outer s H E hs hr => by
    have sc := sc_law_of
    exact js_one (js_ret (je_ix (hu_of hr) (je_var (pv 1)) (je_call (ok_law_take F) hs (hr.mono (by decide)) pass_M (by rfl) (F.glo 16) (ja_cons (je_var (pv 0)) (ja_cons (je_callB call_lenM mc_len (by rfl) (F.free 5) PySem.boot_len (ja_cons (je_var (pv 1)) (ja_nil))) (ja_nil))))))
theorem ok_law_of (F : W K mg) : FM P w K mg base (tN K) 2 (He.fAd K d_law_of.at_) 2 [] m_law_of := by
  obtain ⟨fd, D⟩ := F.c.def_ 5 (d := d_law_of) rfl
  exact FM.of0 (ps := ["_law_box_here", "_law_some"]) D (fn_law_of F D) rfl (fun _ _ _ _ _ _ us hl => match us, hl with | [_, _], _ => rfl)
abbrev sl_Memory_page : List Str := ["self", "number"]
def b_Memory_page : MS := gRet (gCall m_without_end [] 1 (gCons (gDget2 (gFld [0] 2224424605672678250579492959 (gVar 0)) (gVar 1) (gLst (gNil))) (gNil)))
def m_Memory_page : MF := gBody 2 b_Memory_page
theorem sc_Memory_page : FnScope ["self", "number"] ["self", "number"] (defScope s_Memory_page) :=
  ⟨rfl, rfl, rfl, by decide +kernel, rfl, by decide +kernel, by decide +kernel⟩
theorem fn_Memory_page (F : W K mg) {fd : FuncData} (D : FunD K d_Memory_page.name d_Memory_page.qual d_Memory_page.params d_Memory_page.body d_Memory_page.scope (d_Memory_page.dvs K) (d_Memory_page.kws K) (He.fAd K d_Memory_page.at_) fd) :
    FnG P w K mg base (L2.CX P w) 2 (He.fAd K d_Memory_page.at_) fd ["self", "number"] (spM ⟨K, tN K⟩ 2 m_Memory_page) :=
  def_MD D sc_Memory_page b_Memory_page fun cdv A outer s H E hs hr => by
    have sc := sc_Memory_page
    exact js_one (js_ret (je_call (ok_without_end F) hs (hr.mono (by decide)) pass_M (by rfl) (F.glo 9) (ja_cons (je_dget2 (hu_of hr) (je_fld (je_var (pv 0)) (fk_Memory__rows F) n__rows) (je_var (pv 1)) (je_lst (ja_nil)) ⟨rfl, rfl, rfl, rfl⟩) (ja_nil))))
theorem ok_Memory_page (F : W K mg) : FM P w K mg base (tN K) 2 (He.fAd K d_Memory_page.at_) 2 [] m_Memory_page := by
  obtain ⟨fd, D⟩ := F.c.def_ 6 (d := d_Memory_page) rfl
  exact FM.of0 (ps := ["self", "number"]) D (fn_Memory_page F D) rfl (fun _ _ _ _ _ _ us hl => match us, hl with | [_, _], _ => rfl)
abbrev sl_Memory__keep : List Str := ["self", "number"]
def b_Memory__keep : MS := gSeq (gIfS (gB (gBin (mIn fun b => !b) (gVar 1) (gFld [0] 1953625185185451595341496415 (gVar 0)))) (gAsg (gMeth 0 931561028721326424176 m_Memory_page [] 2 (gVar 0) (gCons (gVar 1) (gNil))) (tgSub (gFld [0] 1953625185185451595341496415 (gVar 0)) (gVar 1))) (gNext)) (gIfS (gAnd (gB (gNotN (gFld [0] 2243767354222864078911570015 (gVar 0)))) (gB (gBin (mIn fun b => !b) (gVar 1) (gFld [0] 2243767354222864078911570015 (gVar 0))))) (gAsg (gMeth 0 931561028721326424176 m_Memory_page [] 2 (gVar 0) (gCons (gVar 1) (gNil))) (tgSub (gFld [0] 2243767354222864078911570015 (gVar 0)) (gVar 1))) (gNext))
def m_Memory__keep : MF := gBody 2 b_Memory__keep
theorem sc_Memory__keep : FnScope ["self", "number"] ["self", "number"] (defScope s_Memory__keep) :=
  ⟨rfl, rfl, rfl, by decide +kernel, rfl, by decide +kernel, by decide +kernel⟩
theorem fn_Memory__keep (F : W K mg) {fd : FuncData} (D : FunD K d_Memory__keep.name d_Memory__keep.qual d_Memory__keep.params d_Memory__keep.body d_Memory__keep.scope (d_Memory__keep.dvs K) (d_Memory__keep.kws K) (He.fAd K d_Memory__keep.at_) fd) :
    FnG P w K mg base (L2.CX P w) 3 (He.fAd K d_Memory__keep.at_) fd ["self", "number"] (spM ⟨K, tN K⟩ 2 m_Memory__keep) :=
  def_MD D sc_Memory__keep b_Memory__keep fun cdv A outer s H E hs hr => by
    have sc := sc_Memory__keep
    exact js_cons (js_if (jt_notIn (hu_of hr) (je_var (pv 1)) (je_fld (je_var (pv 0)) (fk_Memory__base F) n__base)) (js_one (js_asg (je_meth (c := 0) (ok_Memory_page F) (F.cls 7) (F.meth 17) n_page hs (hr.mono (by decide)) pass_M (je_var (pv 0)) (ja_cons (je_var (pv 1)) (ja_nil))) (jg_sub (hu_of hr) (je_fld (je_var (pv 0)) (fk_Memory__base F) n__base) (je_var (pv 1))))) (js_nil)) (js_one (js_if (PW.pt (jw_and (jt_notN (je_fld (je_var (pv 0)) (fk_Memory__kept F) n__kept)) (jw_and1 (jt_notIn (hu_of hr) (je_var (pv 1)) (je_fld (je_var (pv 0)) (fk_Memory__kept F) n__kept))))) (js_one (js_asg (je_meth (c := 0) (ok_Memory_page F) (F.cls 7) (F.meth 17) n_page hs (hr.mono (by decide)) pass_M (je_var (pv 0)) (ja_cons (je_var (pv 1)) (ja_nil))) (jg_sub (hu_of hr) (je_fld (je_var (pv 0)) (fk_Memory__kept F) n__kept) (je_var (pv 1))))) (js_nil)))
theorem ok_Memory__keep (F : W K mg) : FM P w K mg base (tN K) 3 (He.fAd K d_Memory__keep.at_) 2 [] m_Memory__keep := by
  obtain ⟨fd, D⟩ := F.c.def_ 7 (d := d_Memory__keep) rfl
  exact FM.of0 (ps := ["self", "number"]) D (fn_Memory__keep F D) rfl (fun _ _ _ _ _ _ us hl => match us, hl with | [_, _], _ => rfl)
end
end K31
set_option Elab.async false
set_option linter.all false
set_option maxRecDepth 100000
set_option maxHeartbeats 8000000
namespace K31
open PySem PySem.Spec PyProof.Rows L2 JB MI
section
variable {P : Program} {w : World} {K : PySem.W.Frag} {mg : Str → Option Value} {base : Heap}
abbrev sl_Memory_get : List Str := ["self", "cell"]
def b_Memory_get : MS := gSeq (gIfS (gB (gBin (mIn fun b => !b) (gBin mDiv (gVar 1) (gC (.int 8))) (gFld [0] 2224424605672678250579492959 (gVar 0)))) (gRet (gC .non)) (gNext)) (gRet (gBin mIx (gBin mIx (gFld [0] 2224424605672678250579492959 (gVar 0)) (gBin mDiv (gVar 1) (gC (.int 8)))) (gBin mMod (gVar 1) (gC (.int 8)))))
def m_Memory_get : MF := gBody 2 b_Memory_get
theorem sc_Memory_get : FnScope ["self", "cell"] ["self", "cell"] (defScope s_Memory_get) :=
  ⟨rfl, rfl, rfl, by decide +kernel, rfl, by decide +kernel, by decide +kernel⟩
theorem fn_Memory_get (F : W K mg) {fd : FuncData} (D : FunD K d_Memory_get.name d_Memory_get.qual d_Memory_get.params d_Memory_get.body d_Memory_get.scope (d_Memory_get.dvs K) (d_Memory_get.kws K) (He.fAd K d_Memory_get.at_) fd) :
    FnG P w K mg base (L2.CX P w) 1 (He.fAd K d_Memory_get.at_) fd ["self", "cell"] (spM ⟨K, tN K⟩ 2 m_Memory_get) :=
  def_MD D sc_Memory_get b_Memory_get fun cdv A outer s H E hs hr => by
    have sc := sc_Memory_get
    exact js_cons (js_if (jt_notIn (hu_of hr) (je_div (je_var (pv 1)) (je_glI (by rfl) (F.int 10))) (je_fld (je_var (pv 0)) (fk_Memory__rows F) n__rows)) (js_one (js_ret (je_non))) (js_nil)) (js_one (js_ret (je_ix (hu_of hr) (je_ix (hu_of hr) (je_fld (je_var (pv 0)) (fk_Memory__rows F) n__rows) (je_div (je_var (pv 1)) (je_glI (by rfl) (F.int 10)))) (je_mod (je_var (pv 1)) (je_glI (by rfl) (F.int 10))))))
theorem ok_Memory_get (F : W K mg) : FM P w K mg base (tN K) 1 (He.fAd K d_Memory_get.at_) 2 [] m_Memory_get := by
  obtain ⟨fd, D⟩ := F.c.def_ 8 (d := d_Memory_get) rfl
  exact FM.of0 (ps := ["self", "cell"]) D (fn_Memory_get F D) rfl (fun _ _ _ _ _ _ us hl => match us, hl with | [_, _], _ => rfl)
abbrev sl_Memory_put : List Str := ["self", "cell", "atom", "number", "row"]
def b_Memory_put : MS := gSeq (gIfS (gB (gBin mEqX (gMeth 0 510173607100519 m_Memory_get [] 2 (gVar 0) (gCons (gVar 1) (gNil))) (gVar 2))) (gRetN) (gNext)) (gSeq (gAsg (gBin mDiv (gVar 1) (gC (.int 8))) (tgName 3)) (gSeq (gExpr (gMeth 0 2166396000310435406327840863 m_Memory__keep [] 2 (gVar 0) (gCons (gVar 3) (gNil)))) (gSeq (gAsg (gSetd (gFld [0] 2224424605672678250579492959 (gVar 0)) (gVar 3) (gBin mMulA (gLst (gCons (gC .non) (gNil))) (gC (.int 8)))) (tgName 4)) (gSeq (gAsg (gVar 2) (tgSub (gVar 4) (gBin mMod (gVar 1) (gC (.int 8))))) (gSeq (gIfS (gNot (gTru (gCall m_without_end [] 1 (gCons (gVar 4) (gNil))))) (gDel (gFld [0] 2224424605672678250579492959 (gVar 0)) (gVar 3)) (gNext)) (gFldAug [0] 2224424578002588528290037855 (fun i j => i + j) (gVar 0) (gC (.int 1))))))))
def m_Memory_put : MF := gBody 5 b_Memory_put
theorem sc_Memory_put : FnScope ["self", "cell", "atom", "number", "row"] ["self", "cell", "atom"] (defScope s_Memory_put) :=
  ⟨rfl, rfl, rfl, by decide +kernel, rfl, by decide +kernel, by decide +kernel⟩
theorem fn_Memory_put (F : W K mg) {fd : FuncData} (D : FunD K d_Memory_put.name d_Memory_put.qual d_Memory_put.params d_Memory_put.body d_Memory_put.scope (d_Memory_put.dvs K) (d_Memory_put.kws K) (He.fAd K d_Memory_put.at_) fd) :
    FnG P w K mg base (L2.CX P w) 4 (He.fAd K d_Memory_put.at_) fd ["self", "cell", "atom"] (spM ⟨K, tN K⟩ 3 m_Memory_put) :=
  def_MD D sc_Memory_put b_Memory_put fun cdv A outer s H E hs hr => by
    have sc := sc_Memory_put
    exact js_cons (js_if (jt_eqF hr.units (je_meth (c := 0) (ok_Memory_get F) (F.cls 7) (F.meth 18) n_get hs (hr.mono (by decide)) pass_M (je_var (pv 0)) (ja_cons (je_var (pv 1)) (ja_nil))) (je_var (pv 2))) (js_one (js_retN)) (js_nil)) (js_cons (js_set (i := 3) sc.nd rfl (Or.inl rfl) (je_div (je_var (pv 1)) (je_glI (by rfl) (F.int 10)))) (js_cons (js_expr (je_meth (c := 0) (ok_Memory__keep F) (F.cls 7) (F.meth 19) n__keep hs (hr.mono (by decide)) pass_M (je_var (pv 0)) (ja_cons (je_var (pv 3)) (ja_nil)))) (js_cons (js_set (i := 4) sc.nd rfl (Or.inl rfl) (je_setd (je_fld (je_var (pv 0)) (fk_Memory__rows F) n__rows) (je_var (pv 3)) (je_mulA (je_lst (ja_cons (je_non) (ja_nil))) (je_glI (by rfl) (F.int 10))) ⟨rfl, rfl, rfl, rfl⟩)) (js_cons (js_asg (je_var (pv 2)) (jg_sub (hu_of hr) (je_var (pv 4)) (je_mod (je_var (pv 1)) (je_glI (by rfl) (F.int 10))))) (js_cons (js_if (jt_not (jt_tru (je_call (ok_without_end F) hs (hr.mono (by decide)) pass_M (by rfl) (F.glo 9) (ja_cons (je_var (pv 4)) (ja_nil))))) (js_one (js_del (je_fld (je_var (pv 0)) (fk_Memory__rows F) n__rows) (je_var (pv 3)))) (js_nil)) (js_one (js_fldaug (je_var (pv 0)) (je_int) (fk_Memory__puts F) n__puts aug_add)))))))
theorem ok_Memory_put (F : W K mg) : FM P w K mg base (tN K) 4 (He.fAd K d_Memory_put.at_) 3 [] m_Memory_put := by
  obtain ⟨fd, D⟩ := F.c.def_ 9 (d := d_Memory_put) rfl
  exact FM.of0 (ps := ["self", "cell", "atom"]) D (fn_Memory_put F D) rfl (fun _ _ _ _ _ _ us hl => match us, hl with | [_, _, _], _ => rfl)
abbrev sl_Memory_changed : List Str := ["self", "number", "page"]
def b_Memory_changed : MS := gRet (gCB (f1 mSorted) (gCons (gLock (pkF 0 1953625185185451595341496415) (gLc (gWalk itIs (gFld [0] 1953625185185451595341496415 (gVar 0))) (.row [1, 2]) (gB (gBin mNeX (gMeth 0 931561028721326424176 m_Memory_page [] 2 (gVar 0) (gCons (gVar 1) (gNil))) (gVar 2))) (gVar 1) [1, 2])) (gNil)))
def m_Memory_changed : MF := gBody 3 b_Memory_changed
theorem sc_Memory_changed : FnScope ["self", "number", "page"] ["self"] (defScope s_Memory_changed) :=
  ⟨rfl, rfl, rfl, by decide +kernel, rfl, by decide +kernel, by decide +kernel⟩
theorem fn_Memory_changed (F : W K mg) {fd : FuncData} (D : FunD K d_Memory_changed.name d_Memory_changed.qual d_Memory_changed.params d_Memory_changed.body d_Memory_changed.scope (d_Memory_changed.dvs K) (d_Memory_changed.kws K) (He.fAd K d_Memory_changed.at_) fd) :
    FnG P w K mg base (L2.CX P w) 3 (He.fAd K d_Memory_changed.at_) fd ["self"] (spM ⟨K, tN K⟩ 1 m_Memory_changed) :=
  def_MD D sc_Memory_changed b_Memory_changed fun cdv A outer s H E hs hr => by
    have sc := sc_Memory_changed
    exact js_one (js_ret (je_callB (call_sortM rfl) mc_sorted (by rfl) (F.free 20) (by decide +kernel) (ja_cons (je_lock (pk := (pkF 0 1953625185185451595341496415)) (je_lcA (c := .row [1, 2]) [("number", 1), ("page", 2)] rfl rfl sc.nd (ji_items (je_fld (je_var (pv 0)) (fk_Memory__base F) n__base)) (blkOk_by (own := [("number", 1), ("page", 2)]) (N := sl_Memory_changed) (sc := defScope s_Memory_changed) (by decide +kernel)) (fun _ _ _ _ _ => PG.or (pg_tup rfl (pgs_more (pg_name (i := 1) sc.nd rfl (Or.inl rfl)) (pgs_more (pg_name (i := 2) sc.nd rfl (Or.inl rfl)) (pgs_names))) rfl rfl) (pg_unl rfl (pgs_more (pg_name (i := 1) sc.nd rfl (Or.inl rfl)) (pgs_more (pg_name (i := 2) sc.nd rfl (Or.inl rfl)) (pgs_names))) rfl rfl)) (fun _ _ _ _ _ => jts_one (jt_neF hr.units (je_meth (c := 0) (ok_Memory_page F) (F.cls 7) (F.meth 17) n_page hs (hr.mono (by decide)) pass_E00 (je_var (pv 0)) (ja_cons (je_var (pv 1)) (ja_nil))) (je_var (pv 2)))) (fun _ _ _ _ _ => je_var (pv 1)) (by decide))) (ja_nil))))
theorem ok_Memory_changed (F : W K mg) : FM P w K mg base (tN K) 3 (He.fAd K d_Memory_changed.at_) 1 [] m_Memory_changed := by
  obtain ⟨fd, D⟩ := F.c.def_ 10 (d := d_Memory_changed) rfl
  exact FM.of0 (ps := ["self"]) D (fn_Memory_changed F D) rfl (fun _ _ _ _ _ _ us hl => match us, hl with | [_], _ => rfl)
abbrev sl_law_same : List Str := ["_law_found", "_law_due"]
def b_law_same : MS := gRet (gSameA (gVar 0) (gVar 1))
def m_law_same : MF := gBody 2 b_law_same
theorem sc_law_same : FnScope ["_law_found", "_law_due"] ["_law_found", "_law_due"] (defScope s_law_same) :=
  ⟨rfl, rfl, rfl, by decide +kernel, rfl, by decide +kernel, by decide +kernel⟩
theorem fn_law_same (F : W K mg) {fd : FuncData} (D : FunD K d_law_same.name d_law_same.qual d_law_same.params d_law_same.body d_law_same.scope (d_law_same.dvs K) (d_law_same.kws K) (He.fAd K d_law_same.at_) fd) :
    FnG P w K mg base (L2.CX P w) 1 (He.fAd K d_law_same.at_) fd ["_law_found", "_law_due"] (spM ⟨K, tN K⟩ 2 m_law_same) :=
  def_MD D sc_law_same b_law_same fun cdv A outer s H E hs hr => by
    have sc := sc_law_same
    exact js_one (js_ret (je_sameA hs hr.units (by rfl) (F.free 21) (je_var (pv 0)) (je_var (pv 1))))
theorem ok_law_same (F : W K mg) : FM P w K mg base (tN K) 1 (He.fAd K d_law_same.at_) 2 [] m_law_same := by
  obtain ⟨fd, D⟩ := F.c.def_ 11 (d := d_law_same) rfl
  exact FM.of0 (ps := ["_law_found", "_law_due"]) D (fn_law_same F D) rfl (fun _ _ _ _ _ _ us hl => match us, hl with | [_, _], _ => rfl)
abbrev sl_law_thing : List Str := ["_law_box_here", "_law_some"]
def b_law_thing : MS := gSeq (gAsg (gLst (gCons (gC .non) (gCons (gC (.int 0)) (gCons (gUn mNeg (gC (.int 1))) (gCons (gC (.int 7)) (gCons (gBin mPow (gC (.int 10)) (gC (.int 40))) (gCons (gC (.str [])) (gCons (gC (.str [120])) (gCons (gC (.str [64, 48])) (gCons (gC (.str [64, 57])) (gCons (gC (.str [116, 119, 111, 32, 119, 111, 114, 100, 115])) (gCons (gCall m_law_take [] 2 (gCons (gVar 0) (gCons (gC (.int 1000)) (gNil)))) (gCons (gCB (f1 mStr) (gCons (gCall m_law_take [] 2 (gCons (gVar 0) (gCons (gC (.int 99)) (gNil)))) (gNil))) (gNil)))))))))))))) (tgName 1)) (gRet (gCall m_law_of [] 2 (gCons (gVar 0) (gCons (gVar 1) (gNil)))))
def m_law_thing : MF := gBody 2 b_law_thing
theorem sc_law_thing : FnScope ["_law_box_here", "_law_some"] ["_law_box_here"] (defScope s_law_thing) :=
  ⟨rfl, rfl, rfl, by decide +kernel, rfl, by decide +kernel, by decide +kernel⟩
theorem fn_law_thing (F : W K mg) {fd : FuncData} (D : FunD K d_law_thing.name d_law_thing.qual d_law_thing.params d_law_thing.body d_law_thing.scope (d_law_thing.dvs K) (d_law_thing.kws K) (He.fAd K d_law_thing.at_) fd) :
    FnG P w K mg base (L2.CX P w) 3 (He.fAd K d_law_thing.at_) fd ["_law_box_here"] (spM ⟨K, tN K⟩ 1 m_law_thing) :=
  def_MD D sc_law_thing b_law_thing fun cdv A outer s H E hs hr => by
    have sc := sc_law_thing
    exact js_cons (js_set (i := 1) sc.nd rfl (Or.inl rfl) (je_lst (ja_cons (je_non) (ja_cons (je_int) (ja_cons (je_neg (je_int)) (ja_cons (je_int) (ja_cons (je_pow (je_int) (je_int)) (ja_cons (je_str (l := [])) (ja_cons (je_str (l := [120])) (ja_cons (je_str (l := [64, 48])) (ja_cons (je_str (l := [64, 57])) (ja_cons (je_str (l := [116, 119, 111, 32, 119, 111, 114, 100, 115])) (ja_cons (je_call (ok_law_take F) hs (hr.mono (by decide)) pass_M (by rfl) (F.glo 16) (ja_cons (je_var (pv 0)) (ja_cons (je_int) (ja_nil)))) (ja_cons (je_callT call_str_int mc_str (by rfl) (F.free 22) (by decide +kernel) (ja_cons (je_call (ok_law_take F) hs (hr.mono (by decide)) pass_M (by rfl) (F.glo 16) (ja_cons (je_var (pv 0)) (ja_cons (je_int) (ja_nil)))) (ja_nil))) (ja_nil))))))))))))))) (js_one (js_ret (je_call (ok_law_of F) hs (hr.mono (by decide)) pass_M (by rfl) (F.glo 23) (ja_cons (je_var (pv 0)) (ja_cons (je_var (pv 1)) (ja_nil))))))
theorem ok_law_thing (F : W K mg) : FM P w K mg base (tN K) 3 (He.fAd K d_law_thing.at_) 1 [] m_law_thing := by
  obtain ⟨fd, D⟩ := F.c.def_ 12 (d := d_law_thing) rfl
  exact FM.of0 (ps := ["_law_box_here"]) D (fn_law_thing F D) rfl (fun _ _ _ _ _ _ us hl => match us, hl with | [_], _ => rfl)
abbrev sl_law_trim : List Str := ["_law_some", "_law_size"]
def b_law_trim : MS := gSeq (gAsg (gCB (f1 mLenV) (gCons (gVar 0) (gNil))) (tgName 1)) (gSeq (gWhile (gAnd (gB (gBin mGtI (gVar 1) (gC (.int 0)))) (gB (gIsN (gBin mIx (gVar 0) (gBin mSub (gVar 1) (gC (.int 1))))))) (gAsg (gBin mSub (gVar 1) (gC (.int 1))) (tgName 1)) 100000) (gRet (gCB (f1 mTuple) (gCons (gSl (gVar 0) (gPn) (gPs (gVar 1))) (gNil)))))
def m_law_trim : MF := gBody 2 b_law_trim
theorem sc_law_trim : FnScope ["_law_some", "_law_size"] ["_law_some"] (defScope s_law_trim) :=
  ⟨rfl, rfl, rfl, by decide +kernel, rfl, by decide +kernel, by decide +kernel⟩
theorem fn_law_trim (F : W K mg) {fd : FuncData} (D : FunD K d_law_trim.name d_law_trim.qual d_law_trim.params d_law_trim.body d_law_trim.scope (d_law_trim.dvs K) (d_law_trim.kws K) (He.fAd K d_law_trim.at_) fd) :
    FnG P w K mg base (L2.CX P w) 1 (He.fAd K d_law_trim.at_) fd ["_law_some"] (spM ⟨K, tN K⟩ 1 m_law_trim) :=
  def_MD D sc_law_trim b_law_trim fun cdv A outer s H E hs hr => by
    have sc := sc_law_trim
    exact js_cons (js_set (i := 1) sc.nd rfl (Or.inl rfl) (je_callB call_lenM mc_len (by rfl) (F.free 5) PySem.boot_len (ja_cons (je_var (pv 0)) (ja_nil)))) (js_cons (js_while 100000 own_M (PW.pt (jw_and (jt_gt (je_var (pv 1)) (je_int)) (jw_and1 (jt_isN (je_ix (hu_of hr) (je_var (pv 0)) (je_sub (je_var (pv 1)) (je_int))))))) (js_one (js_set (i := 1) sc.nd rfl (Or.inl rfl) (je_sub (je_var (pv 1)) (je_int))))) (js_one (js_ret (je_callT call_tuple_of mc_tuple (by rfl) (F.free 6) PyProof.Rows.boot_tuple (ja_cons (je_slice (je_var (pv 0)) (jp_none) (jp_some (je_var (pv 1)))) (ja_nil))))))
theorem ok_law_trim (F : W K mg) : FM P w K mg base (tN K) 1 (He.fAd K d_law_trim.at_) 1 [] m_law_trim := by
  obtain ⟨fd, D⟩ := F.c.def_ 13 (d := d_law_trim) rfl
  exact FM.of0 (ps := ["_law_some"]) D (fn_law_trim F D) rfl (fun _ _ _ _ _ _ us hl => match us, hl with | [_], _ => rfl)
abbrev sl_law_leaves : List Str := ["_law_known", "_law_which", "_law_at"]
def b_law_leaves : MS := gRet (gLc (gRng1 (gC (.int 8))) (.one 1) (gYes) (gCall m_law_trim [] 1 (gCons (gLc (gRng1 (gC (.int 8))) (.one 2) (gYes) (gDget (gVar 0) (gBin mAdd (gBin mMulA (gC (.int 8)) (gVar 1)) (gVar 2))) [2]) (gNil))) [1])
def m_law_leaves : MF := gBody 3 b_law_leaves
theorem sc_law_leaves : FnScope ["_law_known", "_law_which", "_law_at"] ["_law_known"] (defScope s_law_leaves) :=
  ⟨rfl, rfl, rfl, by decide +kernel, rfl, by decide +kernel, by decide +kernel⟩
theorem fn_law_leaves (F : W K mg) {fd : FuncData} (D : FunD K d_law_leaves.name d_law_leaves.qual d_law_leaves.params d_law_leaves.body d_law_leaves.scope (d_law_leaves.dvs K) (d_law_leaves.kws K) (He.fAd K d_law_leaves.at_) fd) :
    FnG P w K mg base (L2.CX P w) 2 (He.fAd K d_law_leaves.at_) fd ["_law_known"] (spM ⟨K, tN K⟩ 1 m_law_leaves) :=
  def_MD D sc_law_leaves b_law_leaves fun cdv A outer s H E hs hr => by
    have sc := sc_law_leaves
    exact js_one (js_ret (je_lcA (c := .one 1) [("_law_which", 1)] rfl rfl sc.nd (ji_range1 (by rfl) (F.free 24) (je_int)) (blkOk_by (own := [("_law_which", 1)]) (N := sl_law_leaves) (sc := defScope s_law_leaves) (by decide +kernel)) (fun _ _ _ _ _ => pg_name (i := 1) sc.nd rfl (Or.inr rfl)) (fun _ _ _ _ _ => jts_nil) (fun _ _ _ _ _ => je_call (ok_law_trim F) hs (hr.mono (by decide)) pass_E00 (by rfl) (F.glo 25) (ja_cons (je_lcA (c := .one 2) [("_law_at", 2)] rfl rfl sc.nd (ji_range1 (by rfl) (F.free 24) (je_int)) (blkOk_by (own := [("_law_at", 2)]) (by rfl)) (fun _ _ _ _ _ => pg_name (i := 2) sc.nd rfl (Or.inl rfl)) (fun _ _ _ _ _ => jts_nil) (fun _ _ _ _ _ => je_dget (hu_of hr) (je_var (pv 0)) (je_add (je_mulA (je_int) (je_var (pv 1))) (je_var (pv 2))) ⟨rfl, rfl, rfl, rfl⟩) (by decide)) (ja_nil))) (by decide)))
theorem ok_law_leaves (F : W K mg) : FM P w K mg base (tN K) 2 (He.fAd K d_law_leaves.at_) 1 [] m_law_leaves := by
  obtain ⟨fd, D⟩ := F.c.def_ 14 (d := d_law_leaves) rfl
  exact FM.of0 (ps := ["_law_known"]) D (fn_law_leaves F D) rfl (fun _ _ _ _ _ _ us hl => match us, hl with | [_], _ => rfl)
abbrev sl_law_unlike : List Str := ["_law_known", "_law_base", "_law_its", "_law_mine", "_law_which"]
def b_law_unlike : MS := gSeq (gAsg (gTup (gCons (gCall m_law_leaves [] 1 (gCons (gVar 0) (gNil))) (gCons (gCall m_law_leaves [] 1 (gCons (gVar 1) (gNil))) (gNil)))) (tgTup [3, 2])) (gRet (gLc (gRng1 (gC (.int 8))) (.one 4) (gB (gBin mNeX (gBin mIx (gVar 3) (gVar 4)) (gBin mIx (gVar 2) (gVar 4)))) (gVar 4) [4]))
def m_law_unlike : MF := gBody 5 b_law_unlike
theorem sc_law_unlike : FnScope ["_law_known", "_law_base", "_law_its", "_law_mine", "_law_which"] ["_law_known", "_law_base"] (defScope s_law_unlike) :=
  ⟨rfl, rfl, rfl, by decide +kernel, rfl, by decide +kernel, by decide +kernel⟩
theorem fn_law_unlike (F : W K mg) {fd : FuncData} (D : FunD K d_law_unlike.name d_law_unlike.qual d_law_unlike.params d_law_unlike.body d_law_unlike.scope (d_law_unlike.dvs K) (d_law_unlike.kws K) (He.fAd K d_law_unlike.at_) fd) :
    FnG P w K mg base (L2.CX P w) 3 (He.fAd K d_law_unlike.at_) fd ["_law_known", "_law_base"] (spM ⟨K, tN K⟩ 2 m_law_unlike) :=
  def_MD D sc_law_unlike b_law_unlike fun cdv A outer s H E hs hr => by
    have sc := sc_law_unlike
    exact js_cons (js_asg (je_tup (ja_cons (je_call (ok_law_leaves F) hs (hr.mono (by decide)) pass_M (by rfl) (F.glo 26) (ja_cons (je_var (pv 0)) (ja_nil))) (ja_cons (je_call (ok_law_leaves F) hs (hr.mono (by decide)) pass_M (by rfl) (F.glo 26) (ja_cons (je_var (pv 1)) (ja_nil))) (ja_nil)))) (jg_tup (is := [3, 2]) rfl (pgs_more (pg_name (i := 3) sc.nd rfl (Or.inr rfl)) (pgs_more (pg_name (i := 2) sc.nd rfl (Or.inr rfl)) (pgs_names))))) (js_one (js_ret (je_lcA (c := .one 4) [("_law_which", 4)] rfl rfl sc.nd (ji_range1 (by rfl) (F.free 24) (je_int)) (blkOk_by (own := [("_law_which", 4)]) (N := sl_law_unlike) (sc := defScope s_law_unlike) (by decide +kernel)) (fun _ _ _ _ _ => pg_name (i := 4) sc.nd rfl (Or.inl rfl)) (fun _ _ _ _ _ => jts_one (jt_neF hr.units (je_ix (hu_of hr) (je_var (pv 3)) (je_var (pv 4))) (je_ix (hu_of hr) (je_var (pv 2)) (je_var (pv 4))))) (fun _ _ _ _ _ => je_var (pv 4)) (by decide))))
theorem ok_law_unlike (F : W K mg) : FM P w K mg base (tN K) 3 (He.fAd K d_law_unlike.at_) 2 [] m_law_unlike := by
  obtain ⟨fd, D⟩ := F.c.def_ 15 (d := d_law_unlike) rfl
  exact FM.of0 (ps := ["_law_known", "_law_base"]) D (fn_law_unlike F D) rfl (fun _ _ _ _ _ _ us hl => match us, hl with | [_, _], _ => rfl)
end
end K31
set_option Elab.async false
set_option linter.all false
set_option maxRecDepth 100000
set_option maxHeartbeats 8000000
namespace K31
open PySem PySem.Spec PyProof.Rows L2 JB MI
section
variable {P : Program} {w : World} {K : PySem.W.Frag} {mg : Str → Option Value} {base : Heap}
abbrev sl_Memory_many : List Str := ["self"]
def b_Memory_many : MS := gRet (gBin mAdd (gMaxD (gFld [0] 2224424605672678250579492959 (gVar 0)) (gUn mNeg (gC (.int 1)))) (gC (.int 1)))
def m_Memory_many : MF := gBody 1 b_Memory_many
theorem sc_Memory_many : FnScope ["self"] ["self"] (defScope s_Memory_many) :=
  ⟨rfl, rfl, rfl, by decide +kernel, rfl, by decide +kernel, by decide +kernel⟩
theorem fn_Memory_many (F : W K mg) {fd : FuncData} (D : FunD K d_Memory_many.name d_Memory_many.qual d_Memory_many.params d_Memory_many.body d_Memory_many.scope (d_Memory_many.dvs K) (d_Memory_many.kws K) (He.fAd K d_Memory_many.at_) fd) :
    FnG P w K mg base (L2.CX P w) 1 (He.fAd K d_Memory_many.at_) fd ["self"] (spM ⟨K, tN K⟩ 1 m_Memory_many) :=
  def_MD D sc_Memory_many b_Memory_many fun cdv A outer s H E hs hr => by
    have sc := sc_Memory_many
    exact js_one (js_ret (je_add (je_maxD rfl (by rfl) (F.free 27) (je_fld (je_var (pv 0)) (fk_Memory__rows F) n__rows) (je_neg (je_int))) (je_int)))
theorem ok_Memory_many (F : W K mg) : FM P w K mg base (tN K) 1 (He.fAd K d_Memory_many.at_) 1 [] m_Memory_many := by
  obtain ⟨fd, D⟩ := F.c.def_ 16 (d := d_Memory_many) rfl
  exact FM.of0 (ps := ["self"]) D (fn_Memory_many F D) rfl (fun _ _ _ _ _ _ us hl => match us, hl with | [_], _ => rfl)
abbrev sl_Memory_freeze : List Str := ["self"]
def b_Memory_freeze : MS := gSeq (gIfS (gB (gNotN (gFld [0] 2243767354222864078911570015 (gVar 0)))) (gBadS) (gNext)) (gSeq (gFldS [0] 2243767354222864078911570015 (gDic) (gVar 0)) (gSeq (gFldS [0] 94941204903626959178789249757594317142006096203679912689759 (gMeth 0 1116028500244747518061 m_Memory_many [] 1 (gVar 0) gNil) (gVar 0)) (gRet (gMeth 0 8507063270072193834987087082683635859555 m_Memory_changed [] 1 (gVar 0) gNil))))
def m_Memory_freeze : MF := gBody 1 b_Memory_freeze
theorem sc_Memory_freeze : FnScope ["self"] ["self"] (defScope s_Memory_freeze) :=
  ⟨rfl, rfl, rfl, by decide +kernel, rfl, by decide +kernel, by decide +kernel⟩
theorem fn_Memory_freeze (F : W K mg) {fd : FuncData} (D : FunD K d_Memory_freeze.name d_Memory_freeze.qual d_Memory_freeze.params d_Memory_freeze.body d_Memory_freeze.scope (d_Memory_freeze.dvs K) (d_Memory_freeze.kws K) (He.fAd K d_Memory_freeze.at_) fd) :
    FnG P w K mg base (L2.CX P w) 4 (He.fAd K d_Memory_freeze.at_) fd ["self"] (spM ⟨K, tN K⟩ 1 m_Memory_freeze) :=
  def_MD D sc_Memory_freeze b_Memory_freeze fun cdv A outer s H E hs hr => by
    have sc := sc_Memory_freeze
    exact js_cons (js_if (jt_notN (je_fld (je_var (pv 0)) (fk_Memory__kept F) n__kept)) (js_one (js_bad)) (js_nil)) (js_cons (js_fld (je_var (pv 0)) (je_dic) (fk_Memory__kept F) n__kept) (js_cons (js_fld (je_var (pv 0)) (je_meth0 (c := 0) (ok_Memory_many F) (F.cls 7) (F.meth 28) n_many hs (hr.mono (by decide)) pass_M (je_var (pv 0))) (fk_Memory__kept_many F) n__kept_many) (js_one (js_ret (je_meth0 (c := 0) (ok_Memory_changed F) (F.cls 7) (F.meth 29) n_changed hs (hr.mono (by decide)) pass_M (je_var (pv 0)))))))
theorem ok_Memory_freeze (F : W K mg) : FM P w K mg base (tN K) 4 (He.fAd K d_Memory_freeze.at_) 1 [] m_Memory_freeze := by
  obtain ⟨fd, D⟩ := F.c.def_ 17 (d := d_Memory_freeze) rfl
  exact FM.of0 (ps := ["self"]) D (fn_Memory_freeze F D) rfl (fun _ _ _ _ _ _ us hl => match us, hl with | [_], _ => rfl)
abbrev sl_Memory__need_frozen : List Str := ["self"]
def b_Memory__need_frozen : MS := gIfS (gB (gIsN (gFld [0] 2243767354222864078911570015 (gVar 0)))) (gBadS) (gNext)
def m_Memory__need_frozen : MF := gBody 1 b_Memory__need_frozen
theorem sc_Memory__need_frozen : FnScope ["self"] ["self"] (defScope s_Memory__need_frozen) :=
  ⟨rfl, rfl, rfl, by decide +kernel, rfl, by decide +kernel, by decide +kernel⟩
theorem fn_Memory__need_frozen (F : W K mg) {fd : FuncData} (D : FunD K d_Memory__need_frozen.name d_Memory__need_frozen.qual d_Memory__need_frozen.params d_Memory__need_frozen.body d_Memory__need_frozen.scope (d_Memory__need_frozen.dvs K) (d_Memory__need_frozen.kws K) (He.fAd K d_Memory__need_frozen.at_) fd) :
    FnG P w K mg base (L2.CX P w) 1 (He.fAd K d_Memory__need_frozen.at_) fd ["self"] (spM ⟨K, tN K⟩ 1 m_Memory__need_frozen) :=
  def_MD D sc_Memory__need_frozen b_Memory__need_frozen fun cdv A outer s H E hs hr => by
    have sc := sc_Memory__need_frozen
    exact js_one (js_if (jt_isN (je_fld (je_var (pv 0)) (fk_Memory__kept F) n__kept)) (js_one (js_bad)) (js_nil))
theorem ok_Memory__need_frozen (F : W K mg) : FM P w K mg base (tN K) 1 (He.fAd K d_Memory__need_frozen.at_) 1 [] m_Memory__need_frozen := by
  obtain ⟨fd, D⟩ := F.c.def_ 18 (d := d_Memory__need_frozen) rfl
  exact FM.of0 (ps := ["self"]) D (fn_Memory__need_frozen F D) rfl (fun _ _ _ _ _ _ us hl => match us, hl with | [_], _ => rfl)
abbrev sl_Memory_settle : List Str := ["self"]
def b_Memory_settle : MS := gSeq (gExpr (gMeth 0 379596215269537023593716527823455569553730270615374589765347872264421471 m_Memory__need_frozen [] 1 (gVar 0) gNil)) (gSeq (gFldS [0] 1953625185185451595341496415 (gFld [0] 2243767354222864078911570015 (gVar 0)) (gVar 0)) (gFldS [0] 2243767354222864078911570015 (gC .non) (gVar 0)))
def m_Memory_settle : MF := gBody 1 b_Memory_settle
theorem sc_Memory_settle : FnScope ["self"] ["self"] (defScope s_Memory_settle) :=
  ⟨rfl, rfl, rfl, by decide +kernel, rfl, by decide +kernel, by decide +kernel⟩
theorem fn_Memory_settle (F : W K mg) {fd : FuncData} (D : FunD K d_Memory_settle.name d_Memory_settle.qual d_Memory_settle.params d_Memory_settle.body d_Memory_settle.scope (d_Memory_settle.dvs K) (d_Memory_settle.kws K) (He.fAd K d_Memory_settle.at_) fd) :
    FnG P w K mg base (L2.CX P w) 2 (He.fAd K d_Memory_settle.at_) fd ["self"] (spM ⟨K, tN K⟩ 1 m_Memory_settle) :=
  def_MD D sc_Memory_settle b_Memory_settle fun cdv A outer s H E hs hr => by
    have sc := sc_Memory_settle
    exact js_cons (js_expr (je_meth0 (c := 0) (ok_Memory__need_frozen F) (F.cls 7) (F.meth 30) n__need_frozen hs (hr.mono (by decide)) pass_M (je_var (pv 0)))) (js_cons (js_fld (je_var (pv 0)) (je_fld (je_var (pv 0)) (fk_Memory__kept F) n__kept) (fk_Memory__base F) n__base) (js_one (js_fld (je_var (pv 0)) (je_non) (fk_Memory__kept F) n__kept)))
theorem ok_Memory_settle (F : W K mg) : FM P w K mg base (tN K) 2 (He.fAd K d_Memory_settle.at_) 1 [] m_Memory_settle := by
  obtain ⟨fd, D⟩ := F.c.def_ 19 (d := d_Memory_settle) rfl
  exact FM.of0 (ps := ["self"]) D (fn_Memory_settle F D) rfl (fun _ _ _ _ _ _ us hl => match us, hl with | [_], _ => rfl)
abbrev sl_Memory_thaw : List Str := ["self"]
def b_Memory_thaw : MS := gSeq (gExpr (gMeth 0 379596215269537023593716527823455569553730270615374589765347872264421471 m_Memory__need_frozen [] 1 (gVar 0) gNil)) (gFldS [0] 2243767354222864078911570015 (gC .non) (gVar 0))
def m_Memory_thaw : MF := gBody 1 b_Memory_thaw
theorem sc_Memory_thaw : FnScope ["self"] ["self"] (defScope s_Memory_thaw) :=
  ⟨rfl, rfl, rfl, by decide +kernel, rfl, by decide +kernel, by decide +kernel⟩
theorem fn_Memory_thaw (F : W K mg) {fd : FuncData} (D : FunD K d_Memory_thaw.name d_Memory_thaw.qual d_Memory_thaw.params d_Memory_thaw.body d_Memory_thaw.scope (d_Memory_thaw.dvs K) (d_Memory_thaw.kws K) (He.fAd K d_Memory_thaw.at_) fd) :
    FnG P w K mg base (L2.CX P w) 2 (He.fAd K d_Memory_thaw.at_) fd ["self"] (spM ⟨K, tN K⟩ 1 m_Memory_thaw) :=
  def_MD D sc_Memory_thaw b_Memory_thaw fun cdv A outer s H E hs hr => by
    have sc := sc_Memory_thaw
    exact js_cons (js_expr (je_meth0 (c := 0) (ok_Memory__need_frozen F) (F.cls 7) (F.meth 30) n__need_frozen hs (hr.mono (by decide)) pass_M (je_var (pv 0)))) (js_one (js_fld (je_var (pv 0)) (je_non) (fk_Memory__kept F) n__kept))
theorem ok_Memory_thaw (F : W K mg) : FM P w K mg base (tN K) 2 (He.fAd K d_Memory_thaw.at_) 1 [] m_Memory_thaw := by
  obtain ⟨fd, D⟩ := F.c.def_ 20 (d := d_Memory_thaw) rfl
  exact FM.of0 (ps := ["self"]) D (fn_Memory_thaw F D) rfl (fun _ _ _ _ _ _ us hl => match us, hl with | [_], _ => rfl)
abbrev sl_law_right : List Str := ["_law_box_here", "_law_at", "_law_base", "_law_cold", "_law_first", "_law_found", "_law_known", "_law_leaf", "_law_spot", "_law_store_so", "_law_thing_here", "_law_turn", "_law_way", "_law_which"]
def b_law_right : MS := gSeq (gAsg (gLst (gNil)) (tgName 4)) (gSeq (gFor (gRng1 (gCall m_law_take [] 2 (gCons (gVar 0) (gCons (gC (.int 5)) (gNil))))) (tgName 11) (gExpr (gBM "list" lApp (gVar 4) (gCons (gCB (f1 mTuple) (gCons (gLc (gRng1 (gCall m_law_take [] 2 (gCons (gVar 0) (gCons (gC (.int 9)) (gNil))))) (.one 8) (gYes) (gCall m_law_thing [] 1 (gCons (gVar 0) (gNil))) [8]) (gNil))) (gNil))))) (gSeq (gAsg (gDic) (tgName 6)) (gSeq (gFor (gEnumA (gVar 4)) (tgTup [13, 7]) (gFor (gEnumA (gVar 7)) (tgTup [1, 10]) (gAsg (gVar 10) (tgSub (gVar 6) (gBin mAdd (gBin mMulA (gC (.int 8)) (gVar 13)) (gVar 1)))))) (gSeq (gPar 2 3 (gCons (gCB (f1 mDictC) (gCons (gVar 6) (gNil))) (gCons (gC .non) (gNil)))) (gSeq (gAsg (gMake 0 m_Memory___init [] 2 (gCons (gCB (f1 mTuple) (gCons (gVar 4) (gNil))) (gNil))) (tgName 9)) (gSeq (gFor (gRng1 (gC (.int 40))) (tgName 11) (gSeq (gAsg (gCall m_law_take [] 2 (gCons (gVar 0) (gCons (gC (.int 48)) (gNil)))) (tgName 8)) (gSeq (gAsg (gCall m_law_of [] 2 (gCons (gVar 0) (gCons (gLst (gCons (gCall m_law_thing [] 1 (gCons (gVar 0) (gNil))) (gCons (gDget (gVar 2) (gVar 8)) (gCons (gC .non) (gCons (gDget (gVar 6) (gVar 8)) (gNil)))))) (gNil)))) (tgName 10)) (gSeq (gExpr (gMeth 0 510173640654960 m_Memory_put [] 3 (gVar 9) (gCons (gVar 8) (gCons (gVar 10) (gNil))))) (gSeq (gAsg (gVar 10) (tgSub (gVar 6) (gVar 8))) (gSeq (gIfS (gNot (gTru (gCall m_law_same [] 2 (gCons (gMeth 0 8507063270072193834987087082683635859555 m_Memory_changed [] 1 (gVar 9) gNil) (gCons (gCall m_law_unlike [] 2 (gCons (gVar 6) (gCons (gVar 2) (gNil)))) (gNil)))))) (gRet (gC (.bl false))) (gNext)) (gSeq (gAsg (gCall m_law_take [] 2 (gCons (gVar 0) (gCons (gC (.int 9)) (gNil)))) (tgName 12)) (gSeq (gIfS (gAnd (gB (gBin mEqX (gVar 12) (gC (.int 0)))) (gB (gIsN (gVar 3)))) (gSeq (gPar 5 3 (gCons (gMeth 0 4097049099761768874413419055284326 m_Memory_freeze [] 1 (gVar 9) gNil) (gCons (gCB (f1 mDictC) (gCons (gVar 6) (gNil))) (gNil)))) (gSeq (gIfS (gNot (gTru (gCall m_law_same [] 2 (gCons (gVar 5) (gCons (gCall m_law_unlike [] 2 (gCons (gVar 6) (gCons (gVar 2) (gNil)))) (gNil)))))) (gRet (gC (.bl false))) (gNext)) (gExpr (gBM "list" lApp (gVar 5) (gCons (gC (.int 99)) (gNil)))))) (gIfS (gAnd (gB (gBin mEqX (gVar 12) (gC (.int 1)))) (gB (gNotN (gVar 3)))) (gSeq (gExpr (gMeth 0 4097048828962523631383007413141619 m_Memory_settle [] 1 (gVar 9) gNil)) (gPar 2 3 (gCons (gVar 3) (gCons (gC .non) (gNil))))) (gIfS (gAnd (gB (gBin mEqX (gVar 12) (gC (.int 2)))) (gB (gNotN (gVar 3)))) (gSeq (gExpr (gMeth 0 1097581698996448002164 m_Memory_thaw [] 1 (gVar 9) gNil)) (gAsg (gC .non) (tgName 3))) (gNext)))) (gSeq (gAsg (gMeth 0 8507063270072193834987087082683635859555 m_Memory_changed [] 1 (gVar 9) gNil) (tgName 5)) (gSeq (gExpr (gBM "list" lApp (gVar 5) (gCons (gC (.int 99)) (gNil)))) (gIfS (gNot (gTru (gCall m_law_same [] 2 (gCons (gMeth 0 8507063270072193834987087082683635859555 m_Memory_changed [] 1 (gVar 9) gNil) (gCons (gCall m_law_unlike [] 2 (gCons (gVar 6) (gCons (gVar 2) (gNil)))) (gNil)))))) (gRet (gC (.bl false))) (gNext)))))))))))) (gRet (gC (.bl true)))))))))
def m_law_right : MF := gBody 14 b_law_right
theorem sc_law_right : FnScope ["_law_box_here", "_law_at", "_law_base", "_law_cold", "_law_first", "_law_found", "_law_known", "_law_leaf", "_law_spot", "_law_store_so", "_law_thing_here", "_law_turn", "_law_way", "_law_which"] ["_law_box_here"] (defScope s_law_right) :=
  ⟨rfl, rfl, rfl, by decide +kernel, rfl, by decide +kernel, by decide +kernel⟩
theorem fn_law_right (F : W K mg) {fd : FuncData} (D : FunD K d_law_right.name d_law_right.qual d_law_right.params d_law_right.body d_law_right.scope (d_law_right.dvs K) (d_law_right.kws K) (He.fAd K d_law_right.at_) fd) :
    FnG P w K mg base (L2.CX P w) 5 (He.fAd K d_law_right.at_) fd ["_law_box_here"] (spM ⟨K, tN K⟩ 1 m_law_right) :=
  def_MD D sc_law_right b_law_right fun cdv A outer s H E hs hr => by
    have sc := sc_law_right
    exact js_cons (js_set (i := 4) sc.nd rfl (Or.inl rfl) (je_lst (ja_nil))) (js_cons (js_for own_M rfl (ji_range1 (by rfl) (F.free 24) (je_call (ok_law_take F) hs (hr.mono (by decide)) pass_M (by rfl) (F.glo 16) (ja_cons (je_var (pv 0)) (ja_cons (je_int) (ja_nil))))) (jg_name (pg_name (i := 11) sc.nd rfl (Or.inl rfl))) (js_one (js_expr (je_bm PySem.F.plainAttrs_list PySem.F.slot_list_append PySem.F.type_list_append mt_append mm_app (je_var (pv 4)) (ja_cons (je_callT call_tuple_of mc_tuple (by rfl) (F.free 6) PyProof.Rows.boot_tuple (ja_cons (je_lcA (c := .one 8) [("_law_spot", 8)] rfl rfl sc.nd (ji_range1 (by rfl) (F.free 24) (je_call (ok_law_take F) hs (hr.mono (by decide)) pass_M (by rfl) (F.glo 16) (ja_cons (je_var (pv 0)) (ja_cons (je_int) (ja_nil))))) (blkOk_by (own := [("_law_spot", 8)]) (N := sl_law_right) (sc := defScope s_law_right) (by decide +kernel)) (fun _ _ _ _ _ => pg_name (i := 8) sc.nd rfl (Or.inl rfl)) (fun _ _ _ _ _ => jts_nil) (fun _ _ _ _ _ => je_call (ok_law_thing F) hs (hr.mono (by decide)) pass_E00 (by rfl) (F.glo 31) (ja_cons (je_var (pv 0)) (ja_nil))) (by decide)) (ja_nil))) (ja_nil)))))) (js_cons (js_set (i := 6) sc.nd rfl (Or.inl rfl) (je_dic)) (js_cons (js_for own_M rfl (ji_enumT (by rfl) (F.free 2) (je_var (pv 4))) (jg_tup (is := [13, 7]) rfl (pgs_more (pg_name (i := 13) sc.nd rfl (Or.inl rfl)) (pgs_more (pg_name (i := 7) sc.nd rfl (Or.inl rfl)) (pgs_names)))) (js_one (js_for own_M rfl (ji_enumT (by rfl) (F.free 2) (je_var (pv 7))) (jg_tup (is := [1, 10]) rfl (pgs_more (pg_name (i := 1) sc.nd rfl (Or.inl rfl)) (pgs_more (pg_name (i := 10) sc.nd rfl (Or.inl rfl)) (pgs_names)))) (js_one (js_asg (je_var (pv 10)) (jg_sub (hu_of hr) (je_var (pv 6)) (je_add (je_mulA (je_int) (je_var (pv 13))) (je_var (pv 1))))))))) (js_cons (js_par (i := 2) (j := 3) rfl sc.nd rfl rfl (by decide) rfl rfl (ja_cons (je_callT call_dictD mc_dict (by rfl) (F.free 32) (by decide +kernel) (ja_cons (je_var (pv 6)) (ja_nil))) (ja_cons (je_non) (ja_nil)))) (js_cons (js_set (i := 9) sc.nd rfl (Or.inl rfl) (je_make (c := 0) (ok_Memory___init_d0 F) (F.mkr 33) hs (hr.mono (by decide)) pass_M (by rfl) (F.glo 15) (ja_cons (je_callT call_tuple_of mc_tuple (by rfl) (F.free 6) PyProof.Rows.boot_tuple (ja_cons (je_var (pv 4)) (ja_nil))) (ja_nil)))) (js_cons (js_for own_M rfl (ji_range1 (by rfl) (F.free 24) (je_int)) (jg_name (pg_name (i := 11) sc.nd rfl (Or.inl rfl))) (js_cons (js_set (i := 8) sc.nd rfl (Or.inl rfl) (je_call (ok_law_take F) hs (hr.mono (by decide)) pass_M (by rfl) (F.glo 16) (ja_cons (je_var (pv 0)) (ja_cons (je_int) (ja_nil))))) (js_cons (js_set (i := 10) sc.nd rfl (Or.inl rfl) (je_call (ok_law_of F) hs (hr.mono (by decide)) pass_M (by rfl) (F.glo 23) (ja_cons (je_var (pv 0)) (ja_cons (je_lst (ja_cons (je_call (ok_law_thing F) hs (hr.mono (by decide)) pass_M (by rfl) (F.glo 31) (ja_cons (je_var (pv 0)) (ja_nil))) (ja_cons (je_dget (hu_of hr) (je_var (pv 2)) (je_var (pv 8)) ⟨rfl, rfl, rfl, rfl⟩) (ja_cons (je_non) (ja_cons (je_dget (hu_of hr) (je_var (pv 6)) (je_var (pv 8)) ⟨rfl, rfl, rfl, rfl⟩) (ja_nil)))))) (ja_nil))))) (js_cons (js_expr (je_meth (c := 0) (ok_Memory_put F) (F.cls 7) (F.meth 34) n_put hs (hr.mono (by decide)) pass_M (je_var (pv 9)) (ja_cons (je_var (pv 8)) (ja_cons (je_var (pv 10)) (ja_nil))))) (js_cons (js_asg (je_var (pv 10)) (jg_sub (hu_of hr) (je_var (pv 6)) (je_var (pv 8)))) (js_cons (js_if (jt_not (jt_tru (je_call (ok_law_same F) hs (hr.mono (by decide)) pass_M (by rfl) (F.glo 35) (ja_cons (je_meth0 (c := 0) (ok_Memory_changed F) (F.cls 7) (F.meth 29) n_changed hs (hr.mono (by decide)) pass_M (je_var (pv 9))) (ja_cons (je_call (ok_law_unlike F) hs (hr.mono (by decide)) pass_M (by rfl) (F.glo 36) (ja_cons (je_var (pv 6)) (ja_cons (je_var (pv 2)) (ja_nil)))) (ja_nil)))))) (js_one (js_ret (je_bl))) (js_nil)) (js_cons (js_set (i := 12) sc.nd rfl (Or.inl rfl) (je_call (ok_law_take F) hs (hr.mono (by decide)) pass_M (by rfl) (F.glo 16) (ja_cons (je_var (pv 0)) (ja_cons (je_int) (ja_nil))))) (js_cons (js_if (PW.pt (jw_and (jt_eqF hr.units (je_var (pv 12)) (je_int)) (jw_and1 (jt_isN (je_var (pv 3)))))) (js_cons (js_par (i := 5) (j := 3) rfl sc.nd rfl rfl (by decide) rfl rfl (ja_cons (je_meth0 (c := 0) (ok_Memory_freeze F) (F.cls 7) (F.meth 37) n_freeze hs (hr.mono (by decide)) pass_M (je_var (pv 9))) (ja_cons (je_callT call_dictD mc_dict (by rfl) (F.free 32) (by decide +kernel) (ja_cons (je_var (pv 6)) (ja_nil))) (ja_nil)))) (js_cons (js_if (jt_not (jt_tru (je_call (ok_law_same F) hs (hr.mono (by decide)) pass_M (by rfl) (F.glo 35) (ja_cons (je_var (pv 5)) (ja_cons (je_call (ok_law_unlike F) hs (hr.mono (by decide)) pass_M (by rfl) (F.glo 36) (ja_cons (je_var (pv 6)) (ja_cons (je_var (pv 2)) (ja_nil)))) (ja_nil)))))) (js_one (js_ret (je_bl))) (js_nil)) (js_one (js_expr (je_bm PySem.F.plainAttrs_list PySem.F.slot_list_append PySem.F.type_list_append mt_append mm_app (je_var (pv 5)) (ja_cons (je_int) (ja_nil))))))) (js_one (js_if (PW.pt (jw_and (jt_eqF hr.units (je_var (pv 12)) (je_int)) (jw_and1 (jt_notN (je_var (pv 3)))))) (js_cons (js_expr (je_meth0 (c := 0) (ok_Memory_settle F) (F.cls 7) (F.meth 38) n_settle hs (hr.mono (by decide)) pass_M (je_var (pv 9)))) (js_one (js_par (i := 2) (j := 3) rfl sc.nd rfl rfl (by decide) rfl rfl (ja_cons (je_var (pv 3)) (ja_cons (je_non) (ja_nil)))))) (js_one (js_if (PW.pt (jw_and (jt_eqF hr.units (je_var (pv 12)) (je_int)) (jw_and1 (jt_notN (je_var (pv 3)))))) (js_cons (js_expr (je_meth0 (c := 0) (ok_Memory_thaw F) (F.cls 7) (F.meth 39) n_thaw hs (hr.mono (by decide)) pass_M (je_var (pv 9)))) (js_one (js_set (i := 3) sc.nd rfl (Or.inl rfl) (je_non)))) (js_nil)))))) (js_cons (js_set (i := 5) sc.nd rfl (Or.inl rfl) (je_meth0 (c := 0) (ok_Memory_changed F) (F.cls 7) (F.meth 29) n_changed hs (hr.mono (by decide)) pass_M (je_var (pv 9)))) (js_cons (js_expr (je_bm PySem.F.plainAttrs_list PySem.F.slot_list_append PySem.F.type_list_append mt_append mm_app (je_var (pv 5)) (ja_cons (je_int) (ja_nil)))) (js_one (js_if (jt_not (jt_tru (je_call (ok_law_same F) hs (hr.mono (by decide)) pass_M (by rfl) (F.glo 35) (ja_cons (je_meth0 (c := 0) (ok_Memory_changed F) (F.cls 7) (F.meth 29) n_changed hs (hr.mono (by decide)) pass_M (je_var (pv 9))) (ja_cons (je_call (ok_law_unlike F) hs (hr.mono (by decide)) pass_M (by rfl) (F.glo 36) (ja_cons (je_var (pv 6)) (ja_cons (je_var (pv 2)) (ja_nil)))) (ja_nil)))))) (js_one (js_ret (je_bl))) (js_nil))))))))))))) (js_one (js_ret (je_bl)))))))))
theorem ok_law_right (F : W K mg) : FM P w K mg base (tN K) 5 (He.fAd K d_law_right.at_) 1 [] m_law_right := by
  obtain ⟨fd, D⟩ := F.c.def_ 21 (d := d_law_right) rfl
  exact FM.of0 (ps := ["_law_box_here"]) D (fn_law_right F D) rfl (fun _ _ _ _ _ _ us hl => match us, hl with | [_], _ => rfl)
abbrev sl_law : List Str := ["_law_script", "_law_box_here", "_law_cells_here", "_law_k", "_law_turn"]
def b_law : MS := gSeq (gAsg (gCall m_law_cells [] 2 (gCons (gVar 0) (gCons (gC (.int 2)) (gNil)))) (tgName 2)) (gSeq (gFor (gRng1 (gCB (f1 mLenV) (gCons (gVar 2) (gNil)))) (tgName 3) (gSeq (gAsg (gCall m_law_box [] 2 (gCons (gVar 2) (gCons (gVar 3) (gNil)))) (tgName 1)) (gIfS (gNot (gTru (gCB (f1 mAll) (gCons (gLc (gRng1 (gC (.int 2))) (.one 4) (gYes) (gCall m_law_right [] 1 (gCons (gVar 1) (gNil))) [4]) (gNil))))) (gRet (gC (.bl false))) (gNext)))) (gRet (gC (.bl true))))
def m_law : MF := gBody 5 b_law
theorem sc_law : FnScope ["_law_script", "_law_box_here", "_law_cells_here", "_law_k", "_law_turn"] ["_law_script"] (defScope s_law) :=
  ⟨rfl, rfl, rfl, by decide +kernel, rfl, by decide +kernel, by decide +kernel⟩
theorem fn_law (F : W K mg) {fd : FuncData} (D : FunD K d_law.name d_law.qual d_law.params d_law.body d_law.scope (d_law.dvs K) (d_law.kws K) (He.fAd K d_law.at_) fd) :
    FnG P w K mg base (L2.CX P w) 6 (He.fAd K d_law.at_) fd ["_law_script"] (spM ⟨K, tN K⟩ 1 m_law) :=
  def_MD D sc_law b_law fun cdv A outer s H E hs hr => by
    have sc := sc_law
    exact js_cons (js_set (i := 2) sc.nd rfl (Or.inl rfl) (je_call (ok_law_cells F) hs (hr.mono (by decide)) pass_M (by rfl) (F.glo 40) (ja_cons (je_var (pv 0)) (ja_cons (je_int) (ja_nil))))) (js_cons (js_for own_M rfl (ji_range1 (by rfl) (F.free 24) (je_callB call_lenM mc_len (by rfl) (F.free 5) PySem.boot_len (ja_cons (je_var (pv 2)) (ja_nil)))) (jg_name (pg_name (i := 3) sc.nd rfl (Or.inl rfl))) (js_cons (js_set (i := 1) sc.nd rfl (Or.inr rfl) (je_call (ok_law_box F) hs (hr.mono (by decide)) pass_M (by rfl) (F.glo 41) (ja_cons (je_var (pv 2)) (ja_cons (je_var (pv 3)) (ja_nil))))) (js_one (js_if (jt_not (jt_tru (je_callB (cr_all rfl) mc_all (by rfl) (F.free 43) (by decide +kernel) (ja_cons (je_lcA (c := .one 4) [("_law_turn", 4)] rfl rfl sc.nd (ji_range1 (by rfl) (F.free 24) (je_int)) (blkOk_by (own := [("_law_turn", 4)]) (N := sl_law) (sc := defScope s_law) (by decide +kernel)) (fun _ _ _ _ _ => pg_name (i := 4) sc.nd rfl (Or.inl rfl)) (fun _ _ _ _ _ => jts_nil) (fun _ _ _ _ _ => je_call (ok_law_right F) hs (hr.mono (by decide)) pass_E00 (by rfl) (F.glo 42) (ja_cons (je_var (pv 1)) (ja_nil))) (by decide)) (ja_nil))))) (js_one (js_ret (je_bl))) (js_nil))))) (js_one (js_ret (je_bl))))
theorem ok_law (F : W K mg) : FM P w K mg base (tN K) 6 (He.fAd K d_law.at_) 1 [] m_law := by
  obtain ⟨fd, D⟩ := F.c.def_ 22 (d := d_law) rfl
  exact FM.of0 (ps := ["_law_script"]) D (fn_law F D) rfl (fun _ _ _ _ _ _ us hl => match us, hl with | [_], _ => rfl)
end
end K31
set_option Elab.async false
set_option linter.all false
set_option maxRecDepth 100000
set_option maxHeartbeats 4000000
namespace K31
open MI XG XM XK
theorem t_right : m_law_right = mRight31 0 := rfl
theorem t_law : m_law = mLaw (2 : Nat) (2 : Nat) m_law_right := rfl
theorem law_true {ns : List Int} (hl : ns.length ≤ 63) : ∃ h', m_law [.fls (ns.map .int)] .empty = .ok (.bl true) h' := by
  rw [t_law, t_right]
  exact law_gen right31_ok (by decide) (by decide) (by decide) (by decide) hl
end K31
set_option Elab.async false
set_option linter.all false
set_option maxRecDepth 100000
set_option maxHeartbeats 0
namespace K31
open PySem PySem.Spec PyProof.Rows L2 JB MI
abbrev R : PySem.W.OpenRow := PySem.W.OpenLaw.row PySem.Challenge.rw_lastingrun_k31_changed_pages
abbrev hk : PySem.W.Hook := hookM 5 fa fn fc
def ob (s : PySem.W.SharedT) : He.AlD × Bool := obM 5 fa fn fc (HandSHeadRun.getT s)
theorem ob_eq (s : PySem.W.SharedT) : ob s = hk.obs s.abs := obM_eq (HandSHeadRun.getT_eq s)
def loose : List Str := ["_wall", "Busy", "Idle", "PAGE", "without_end", "Memory", "_law_cells", "_law_box", "_law_take", "_law_of", "_law_same", "_law_thing", "_law_trim", "_law_leaves", "_law_unlike", "_law_right"]
theorem run (w : World) : HandSHeadRun.RunEq R (PySem.W.view R.prog [19]) hk ob 8000 loose w := by
  intro os
  kernel_rfl
theorem facts {P : Program} {w : World} {K : PySem.W.Frag} {h : Heap} {mg : Str → Option Value} {f : Addr} (X : K.In h) (G : h.Ns mainGlobals mg) (hfa : mg ("law" : Str) = some (.ref f)) (c : He.SaysD fa fn K) (cx : fc.all (fun f => f.ok K) = true) :
    ∃ fd : FuncData, (∀ (s : Shared) (v : Value), BindsTo s fd ⟨[v], []⟩ [("_law_script", v)]) ∧ ∀ base : Heap, K.In base → base.Ns mainGlobals mg → FnG P w K mg base (L2.CX P w) 6 f fd ["_law_script"] (spM ⟨K, tN K⟩ 1 m_law) := by
  have F : W K mg := ⟨⟨h, X, G⟩, c, cx⟩
  obtain ⟨fd, D⟩ := c.def_ (fn.length - 1) (d := d_law) rfl
  have e := hfa.symm.trans (He.glo_ok X G (c.fact 0 (f := .glo "law") rfl))
  cases e
  have b := FunD.bindsA (ps := ["_law_script"]) D fun _ _ _ _ _ _ us hl => match us, hl with | [_], _ => rfl
  exact ⟨fd, fun s v => b s [v] rfl, fun base _ _ => fn_law F D⟩
end K31
open PySem PySem.W PySem.Calls PyProof.Rows
set_option maxRecDepth 100000 in
set_option maxHeartbeats 0 in
theorem PySem.Challenge.cw_lastingrun_k31_changed_pages_holds : PySem.Challenge.rw_lastingrun_k31_changed_pages.Holds := by
  w_on; o_law
  refine HandSHeadRun.head_any (r := OpenLaw.row PySem.Challenge.rw_lastingrun_k31_changed_pages) (q := view (OpenLaw.row PySem.Challenge.rw_lastingrun_k31_changed_pages).prog [19]) (H := K31.hk) (ob := K31.ob) (M := 8000) (loose := K31.loose) (d := HandSHeadRun.topDef (OpenLaw.row PySem.Challenge.rw_lastingrun_k31_changed_pages).prog 19) (kwd := []) K31.ob_eq
    (by kernel_rfl) (fun s => by kernel_rfl) K31.run (by kernel_rfl) (by kernel_rfl) (by kernel_rfl) (by rfl) (by first | assumption | decide +kernel) (by decide +kernel) ⟨rfl, rfl, rfl, rfl, rfl, by decide +kernel⟩ ?hw ?hc
  case hw => w_witness2
  case hc =>
    refine MI.walk_GE (l := PySem.Challenge.rw_lastingrun_k31_changed_pages) (n := 63) (k := 6) (x := "_law_script") rfl (by decide) (by kernel_rfl) ⟨rfl, by decide, by decide⟩ ?F
    intro w mg fa h Y G hmg0
    obtain ⟨K, KX, c, cx⟩ := Y
    have hmg : mg ("law" : PySem.Str) = some (.ref fa) := by
      have e : (HandSHeadRun.topDef (OpenLaw.row PySem.Challenge.rw_lastingrun_k31_changed_pages).prog 19).name = ("law" : PySem.Str) := by kernel_rfl
      rw [← e]
      exact hmg0
    obtain ⟨fd, hb, hF⟩ := K31.facts (P := (PySem.Challenge.rw_lastingrun_k31_changed_pages).prog) (w := w) KX G hmg c cx
    refine ⟨K, fd, _, KX, hb, fun H a ns hl hO hS => ?_, hF⟩
    obtain ⟨h', e⟩ := K31.law_true hl
    exact MI.law_sp (Z := ⟨K, K31.tN K⟩) hO hS e
