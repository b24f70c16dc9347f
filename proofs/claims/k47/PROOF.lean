import PyProof.Rows.All
import Wide.All
import OpenK.AllK
import Wide.FinOn
import HandS.ForMost
import HandS.IsInst
import HandS.FStr
import HandS.ExcInit
import HandS.ExcIs
import HandS.MakeKw
import HandS.Rev
import HandS.NoneIn
import HandS.Small
import HandS.Flow
import HandS.TupAny
import KE.KUnpack
import PyProof.AutoSeq1
import PyProof.ReprBulk
import HandS.Star
import HandS.SetKeys
import HandS.TupMul
import HandS.SortInts
import HandS.More
import KE.KSortedM
import PyProof.Draws
import PyProof.EnumMake
import PyProof.TupleIter
import HandS.SortKw
import PyProof.MinMaxWalk
import PyProof.DictWalks
import HandS.HeadEnd
import HandS.HeadHook1
import HandS.HeadHook2
import HandS.Head2
import HandS.Defaults
import Lean
import HandS.Conv
import HandS.RaiseMore
import PyProof.CallFns
import PyProof.FitsInt
import KE.KExcIs
import HandS.ExcValue
import HandS.TryMany
import HandS.Style
import KE.DataFind
import PySem.Challenge.RW_lastingrun_k47_a_known_log
set_option Elab.async false
set_option linter.all false
set_option maxRecDepth 100000
set_option maxHeartbeats 4000000
namespace JB
open PySem PySem.Spec PyProof.Rows L2
abbrev Still (A : Around) : Prop := A.guards = some []
structure FnG (P : Program) (w : World) (K : PySem.W.Frag) (mg : Str → Option Value)
    (base : Heap) (CX : CXT) (k : Nat) (f : Addr) (fd : FuncData) (ps : List Str) (sp : Sp) : Prop where
  many : ∀ a h q e, sp a h q e → a.length = ps.length
  goes : ∀ (A : Around) (outer : List Env) (s : Shared) (H : Hp) (args : Args)
    (us : List Value) (vs : List V) (Q : VK) (E : XK), Still A → Room k A →
    Env0 P w K mg base A outer s H → BindsTo s fd args (ps.zip us) → Vals vs us →
    sp vs H Q E → codeAny (model P w) A (.call (.ref f) args) (CR CX outer P w H s Q E) s
section
variable {P : Program} {w : World} {K : PySem.W.Frag} {mg : Str → Option Value} {base : Heap}
variable {CX : CXT} {j k : Nat} {f : Addr} {fd : FuncData} {ps : List Str} {sp : Sp}
theorem FnG.of (F : FnOk P w K mg base CX k f fd ps sp) : FnG P w K mg base CX k f fd ps sp :=
  ⟨F.len, fun A o s H a us vs Q E _ r e b v h => F.run A o s H a us vs Q E r e b v h⟩
end
theorem still_make {A : Around} {C : Addr} {us : List Value} {kw : List (Str × Value)} (h : Still A) :
    Still (A.under (.builtin "type.__call__" ⟨.ref C :: us, kw⟩)) := by
  first
    | exact h
    | (simpa [Still, Around.under, Code.guards, Code.isGuard, pushGuards, guardIds] using h)
section
variable {X : Cx} {CX : CXT} {k : Nat} {f C : Addr} {fd : FuncData} {ps : List Str} {sp : Sp}
variable {dvs : List V} {ds : List Value} {E : XK} {x m : Str} {p pos apos : Pos} {e o : Expr} {es : List Expr} {ta : TE} {t : TA}
theorem run_g {pins : List (Addr × Obj)} {σ : L2.St} {H : Hp} {s : Shared} {Q : VK} {us : List Value}
    {vs : List V} (hs : Still X.A) (F : FnG X.prog X.w X.K X.mg X.base CX k f fd ps sp)
    (hr : Room k X.A) (hb : Binds X.K fd ps ds) (hd : Vals dvs ds) (hx : Passes CX X E)
    (I : Inv X pins σ H s) (r : Vals vs us) (h : sp (vs ++ dvs) H Q E) :
    wpAny (model X.prog X.w) X.A (call (.ref f) us) (EP X pins σ Q) X.xe s := by
  have rr := r.append hd
  have hl : (us ++ ds).length = ps.length := by
    rw [← rr.length]; exact F.many _ _ _ _ h
  refine wpAny_call (codeAny_mono (F.goes X.A X.stack s H ⟨us, []⟩ (us ++ ds) (vs ++ dvs) Q E hs hr
    I.env0 (hb s us I.kIn hl) rr h) fun z s' hq => ?_)
  cases z with
  | error er => exact hx pins σ H s er s' I hq
  | ok fl => cases fl <;> first | exact I.after hq | exact False.elim hq
theorem pe_callG (hs : Still X.A) (F : FnG X.prog X.w X.K X.mg X.base CX k f fd ps sp)
    (hr : Room k X.A) (hg : Gl X x) (hm : X.mg x = some (.ref f))
    (hk : PySem.W.keepIn X.K (.ref f) = true) (hb : Binds X.K fd ps ds) (hd : Vals dvs ds)
    (hx : Passes CX X E) (ha : PA X (e :: es) t)
    (hdb : (x == ("__debug__" : Str)) = false := by decide)
    (he : starEach (e :: es) X.env = (false, eval e X.env) :: starEach es X.env := by rfl)
    (hpl : (backTo pos (starEach es X.env)).any (·.1) = false := by rfl) :
    PE X (.Call (.Name x p) (e :: es) [] pos) (tCall sp dvs E t) :=
  ⟨fun pins s σ H Q I h => wpAny_Call_Name_kw (ld_glob I hg hm (PySem.W.callWith_K (h₀ := X.base)
    I.ok.mod.kin hk (thn (ha.run pos pins s σ H _ I h) fun us s1 ⟨vs, H1, I1, r, q⟩ =>
      ⟨I1.kIn, run_g hs F hr hb hd hx I1 r q⟩) he hpl) hdb)⟩
end
theorem fn_g {CX : CXT} {P : Program} {w : World} {K : PySem.W.Frag} {mg : Str → Option Value}
    {base : Heap} {k : Nat} {f : Addr} {name qual : Str} {params : Arguments} {body : List Stmt}
    {scope : Scope} {dV kV doc pm cdv ct oc : Value} {an od : Option Addr}
    {osl : Array (Option Value)} {N ps : List Str} {sp : Sp}
    (lk : K.lookup f = some ⟨oc, od, .func (PySem.W.fnOf name qual params body scope dV kV doc pm an cdv ct), osl⟩)
    (hcd : PySem.W.codeIn K cdv qual = true) (S : FnScope N ps scope)
    (many : ∀ a h q e, sp a h q e → a.length = ps.length)
    (hbody : ∀ (A : Around) (outer : List Env) (s : Shared) (H : Hp) (vs : List V) (Q : VK) (E : XK),
      Still (A.deeper (envOfC qual scope s.heap.objs.size f cdv)) →
      Room k (A.deeper (envOfC qual scope s.heap.objs.size f cdv)) → sp vs H Q E →
      ∃ t, PSs (cxOf CX P w K mg base N qual scope f cdv A outer s H E) body t ∧
        t { nx := fun _ H' => Q .non H', rt := Q } (start N vs) H) :
    FnG P w K mg base CX (k + 1) f (PySem.W.fnOf name qual params body scope dV kV doc pm an cdv ct) ps sp := by
  refine ⟨many, fun A outer s H args us vs Q E hst hr e0 hb r hsp => ?_⟩
  have hl := many _ _ _ _ hsp
  have KX : K.In s.heap := e0.mod.kin.keeps fun b o e => (e0.bs b o e).1
  have lim : s.heap.NoLimit := e0.mod.nolimit.keeps fun b o e => (e0.bs b o e).1
  have hkind : ∀ y ∈ ps.zip us, scope.names.lookup y.1 = some .local ∨ (scope.names.lookup y.1 = some .cell ∧
      ((cellsFrom (s.heap.objs.size + 1) scope.names []).lookup y.1).isSome = true) := by
    rintro ⟨n, v⟩ hy
    rcases S.par n (List.of_mem_zip hy).1 with q | q
    · exact .inl q
    · exact .inr ⟨q, PySem.W.cellsFrom_some _ _ _ (.inl q)⟩
  refine codeAny_call_function hr.depth (KX _ _ lk) rfl S.co S.gen rfl
    (PySem.W.codeRec_of KX hcd) (hb _ _ _ _ ?_)
  refine wpAny_newFunctionEnv_cells S.kind hkind fun env he s1 x => ?_
  subst he
  refine ⟨lim.keeps x.toInCall.keep, codeAny_func ?_⟩
  obtain ⟨t, ht, hq⟩ := hbody A outer s H vs Q E hst (hr.deeper _) hsp
  have I : Inv (cxOf CX P w K mg base N qual scope f cdv A outer s H E) [] (start N vs) H s1 :=
    inv_start S hr.hd e0 hl r x
  refine wpAny_mono (ht.run [] s1 (start N vs) H _ I hq) (fun fl s' hs => ?_) fun e s' hs => hs
  have fin : ∀ {σ' : L2.St} {H' : Hp} {v : V} {u : Value},
      Inv (cxOf CX P w K mg base N qual scope f cdv A outer s H E) [] σ' H' s' → RelV v u →
      Q v H' → CE outer P w H s Q u s' :=
    fun {σ' H' v u} J rv q => ⟨v, H', J.os, J.bare, J.base, J.hok, rv, q⟩
  cases fl with
  | ret u => obtain ⟨v, σ', H', J, rv, q⟩ := hs; exact fin J rv q
  | next => obtain ⟨σ', H', J, q⟩ := hs; exact fin (v := V.non) (u := Value.none) J rfl q
  | brk => obtain ⟨_, _, _, q⟩ := hs; exact False.elim q
  | cont => obtain ⟨_, _, _, q⟩ := hs; exact False.elim q
end JB
set_option Elab.async false
set_option linter.all false
set_option maxRecDepth 100000
set_option maxHeartbeats 4000000
namespace JB
open PySem PySem.Spec PyProof.Rows L2
theorem law_callG {P : Program} {w : World} {K : PySem.W.Frag} {mg mb : Str → Option Value} {CX : CXT}
    {k : Nat} {fa a : Addr} {fd : FuncData} {x : Str} {sp : Sp} {s₁ : Shared} {vs : List Value} {ns : List Int}
    (KX : K.In s₁.heap) (hns : s₁.heap.Ns mainGlobals mg) (hb : s₁.heap.Ns builtinsNs mb)
    (hbb : ∀ x : Str, x ≠ "__name__" → mb x = bootBuiltins x) (hlim : s₁.heap.NoLimit)
    (hg : s₁.gens = #[]) (ha : s₁.heap.get? a = some { cls := .type "list", data := .seq vs.toArray })
    (hi : IntsAre vs ns) (hl : ns.length ≤ sizeLine) (hr : Room k callerA)
    (F : ∀ base : Heap, K.In base → base.Ns mainGlobals mg → FnG P w K mg base CX k fa fd [x] sp)
    (hbind : ∀ (s : Shared) (u : Value), BindsTo s fd ⟨[u], []⟩ [(x, u)])
    (hsp : ∀ H : Hp, Only H → SqL K H a (ns.map V.int) →
      sp [.ref a] H (fun v _ => v = .bl true) fun _ _ _ => False)
    (hCX : ∀ H e s', CX [] H s₁ (fun _ _ _ => False) e s' → False) :
    codeAny (model P w) callerA (.call (.ref fa) ⟨[.ref a], []⟩)
      (fun r s' => r = .ok (.ret (.bool true)) ∧ OldK s₁.heap s'.heap ∧ s'.os = s₁.os ∧ AllBare s'.gens) s₁ := by
  have rv := vals_ints hi
  have lenV := hi.length
  have core : ∀ H : Hp, Only H → SqL K H a (ns.map V.int) → HOk P w H s₁.heap →
      (∀ b, H b ≠ none → b = a) → (H a ≠ none → K.lookup a = none) →
      codeAny (model P w) callerA (.call (.ref fa) ⟨[.ref a], []⟩)
        (fun r s' => r = .ok (.ret (.bool true)) ∧ OldK s₁.heap s'.heap ∧ s'.os = s₁.os ∧ AllBare s'.gens) s₁ := by
    intro H hO hS hok hA hK
    have base_of : ∀ {b : Addr} {o : Obj}, s₁.heap.get? b = some o → H b = none →
        (hidT s₁.heap H).get? b = some o := fun e n => hidT_get e n
    have noA : ∀ {b : Addr} {o : Obj} {es : Array DictEntry} {ep : Nat},
        s₁.heap.get? b = some o → o.data = .dict es ep → H b = none := by
      intro b o es ep e d
      cases q : H b with
      | none => rfl
      | some u =>
        obtain rfl : b = a := hA b (by rw [q]; simp)
        rw [ha] at e
        cases e
        exact absurd (show Data.seq vs.toArray _ = Data.dict es ep from d) (fun z => by cases z)
    have nsK : ∀ {b : Addr} {m : Str → Option Value}, s₁.heap.Ns b m → (hidT s₁.heap H).Ns b m := by
      rintro b m ⟨o, es, ep, e, d, r⟩
      exact ⟨o, es, ep, base_of e (noA e d), d, r⟩
    have hKb : K.In (hidT s₁.heap H) := by
      intro b o e
      refine base_of (KX b o e) ?_
      cases q : H b with
      | none => rfl
      | some u =>
        obtain rfl : b = a := hA b (by rw [q]; simp)
        rw [hK (by rw [q]; simp)] at e
        cases e
    have hM : Mod K mg (hidT s₁.heap H) := by
      obtain ⟨mc, h1, h2⟩ := hlim
      exact ⟨hKb, nsK hns, ⟨mb, nsK hb, hbb⟩, ⟨mc, nsK h1, h2⟩⟩
    have nil : ∀ {α : Type} (b : α), ¬ b ∈ ([] : List α) := fun b z => nomatch z
    have e0 : Env0 P w K mg (hidT s₁.heap H) callerA [] s₁ H :=
      ⟨rfl, hM, fun b o e => of_hidT e, Nat.le_of_eq (hidT_size _ _), trivial,
        fun b hb => (nil b hb).elim, hok, .of_eq hg⟩
    refine codeAny_mono ((F _ hKb (nsK hns)).goes callerA [] s₁ H ⟨[.ref a], []⟩ [.ref a] [.ref a] _ _
      rfl hr e0 (hbind s₁ (.ref a)) (.cons rfl .nil) (hsp H hO hS)) fun r s' h => ?_
    cases r with
    | error e => exact (hCX H e s' h).elim
    | ok fl =>
      cases fl with
      | next => exact False.elim h
      | brk => exact False.elim h
      | cont => exact False.elim h
      | ret u =>
        obtain ⟨v, H', os, bare, un, hok', r', q⟩ := h
        obtain rfl : v = .bl true := q
        obtain rfl : u = Value.bool true := r'
        refine ⟨rfl, OldK.of_keep fun b o e => ?_, os, bare⟩
        rcases hO b with z | ⟨ob, xs, z⟩
        · exact un.keep b o e z (nil b) (nil b)
        · obtain ⟨e1, _⟩ := hok b _ z
          obtain ⟨e2, _⟩ := hok' b _ (un.frzs b ob _ z)
          rw [e] at e1
          cases e1
          exact e2
  cases hk : K.lookup a with
  | some o =>
    have e := KX a o hk
    rw [ha] at e
    cases e
    refine core (fun _ => none) (fun _ => .inl rfl) (.inr ⟨_, vs.toArray, _, hk, rfl, rfl, rfl, ?_, ?_⟩)
      (fun b u z => ?_) (fun b z => absurd rfl z) fun z => absurd rfl z
    · rw [List.size_toArray, lenV]; exact hl
    · simpa using rv
    · exact absurd (show (none : Option HO) = some u from z) (fun z => by cases z)
  | none =>
    refine core (fun b => if b = a then some (.frz { cls := .type "list", data := .seq vs.toArray }
      (.lst (ns.map V.int))) else none) (fun b => ?_) (.inl (.inr ⟨_, if_pos rfl⟩)) (fun b u z => ?_)
      (fun b z => ?_) fun _ => hk
    all_goals by_cases hb : b = a
    · exact .inr ⟨_, _, if_pos hb⟩
    · exact .inl (if_neg hb)
    · have z' := (if_pos hb).symm.trans z
      cases z'
      subst hb
      exact ⟨ha, by rw [List.length_map]; exact hl, vs, _, rv, ha⟩
    · have z' := (if_neg hb).symm.trans z
      cases z'
    · exact hb
    · exact absurd (if_neg hb) z
section
variable {X : Cx}
def rShow (K : PySem.W.Frag) : List V → Hp → VK → Prop := fun xs H Q => ∃ (a : Addr) (d : PyData),
  xs = [.ref a] ∧ Dp K H (.ref a) d ∧ d.showable = true ∧ d.hasDict = false ∧ d.depth ≤ 60 ∧
  d.shown.length ≤ sizeLine ∧ Q (.str d.shown) H
theorem call_show (hs : Still X.A) (hu : X.A.units + 64 < cLine) : CallR X (.builtin "repr") (rShow X.K) := by
  intro pins s σ H xs us Q I r h
  obtain ⟨a, d, rfl, hd, h1, h2, h3, h4, q⟩ := h
  obtain ⟨u, rfl, rfl⟩ : ∃ u, us = [u] ∧ u = Value.ref a := by
    cases r with | cons r1 r2 => cases r2; exact ⟨_, rfl, r1⟩
  obtain ⟨as, rd⟩ := Dp.reads I d (.ref a) (.ref a) hd rfl
  exact repr_of_reads' rd h1 (PyData.noDict_hsm h2) hs (by omega) (fun _ _ e => e)
    (fun h' u tk hk => ⟨.str d.shown, H, I.kept hk, ⟨u, rfl⟩, q⟩) h4
end
end JB
set_option Elab.async false
set_option linter.all false
set_option maxRecDepth 100000
set_option maxHeartbeats 4000000
namespace MI
open PySem PySem.Spec PyProof.Rows L2
structure Zt where
  K : PySem.W.Frag
  adr : Nat → Addr
inductive MV where
  | non | bl (b : Bool) | int (n : Int) | str (s : List Nat) | tup (xs : List MV) | ktp (xs : List MV) | fls (xs : List MV) | ref (i : Nat) | adr (a : Nat) | ty (s : String) | err (C : Nat) (ks : List Nat) (xs : List MV)
  deriving Inhabited
abbrev MK := Sum Int (List Nat)
def kOf : MK → Key
  | .inl i => .inl i
  | .inr s => .inr ⟨s.toArray⟩
def digs : Nat → Nat → List Nat
  | 0, _ => []
  | n + 1, k => if k = 0 then [] else (k % 2097152) :: digs n (k / 2097152)
def digv : List Nat → Nat
  | [] => 0
  | d :: l => d + 2097152 * digv l
theorem digv_digs : ∀ n k : Nat, k ≤ n → digv (digs n k) = k
  | 0, k, h => by
    have : k = 0 := by omega
    subst this; rfl
  | n + 1, k, h => by
    unfold digs
    by_cases e : k = 0
    · rw [if_pos e, e]; rfl
    · rw [if_neg e]
      show k % 2097152 + 2097152 * digv (digs n (k / 2097152)) = k
      rw [digv_digs n (k / 2097152) (by omega)]
      omega
def nm (k : Nat) : Str := ⟨(digs k k).toArray⟩
theorem nm_inj {i j : Nat} (h : nm i = nm j) : i = j := by
  have e2 : (digs i i).toArray = (digs j j).toArray := Str.mk.inj h
  have e3 : digs i i = digs j j := by simpa using e2
  rw [← digv_digs i i (Nat.le_refl _), ← digv_digs j j (Nat.le_refl _), e3]
inductive MO where
  | lst (xs : List MV) | dic (kvs : List (MK × MV)) | dit (kvs : List (List MK × MV)) | ins (C : Nat) (fs : List (Nat × MV)) | fdi (kvs : List (MK × MV))
  deriving Inhabited
def MO.opn : MO → Bool
  | .fdi _ => false
  | _ => true
inductive Tr where
  | nil | leaf (l : List (Nat × MO)) | node (l r : Tr)
namespace Tr
def get : Nat → Tr → Nat → Option MO
  | 0, .leaf l, i => l.lookup i
  | _, .leaf _, _ => none
  | d + 1, .node l r, i => if i % 2 = 0 then get d l (i / 2) else get d r (i / 2)
  | 0, .node _ _, _ => none
  | _, .nil, _ => none
def set : Nat → Tr → Nat → MO → Tr
  | 0, .leaf l, i, o => .leaf ((i, o) :: l.filter fun p => p.1 != i)
  | 0, _, i, o => .leaf [(i, o)]
  | d + 1, .node l r, i, o => if i % 2 = 0 then .node (set d l (i / 2) o) r else .node l (set d r (i / 2) o)
  | d + 1, _, i, o => if i % 2 = 0 then .node (set d .nil (i / 2) o) .nil else .node .nil (set d .nil (i / 2) o)
theorem look_filter {l : List (Nat × MO)} {i j : Nat} (h : j ≠ i) : (l.filter fun p => p.1 != i).lookup j = l.lookup j := by
  induction l with
  | nil => rfl
  | cons p l ih =>
    obtain ⟨a, o⟩ := p
    rw [List.filter_cons]
    by_cases e : a = i
    · subst e
      rw [if_neg (by simp), ih, List.lookup_cons]
      rw [beq_false_of_ne h]
    · rw [if_pos (by simpa using e), List.lookup_cons, List.lookup_cons, ih]
theorem get_set (d : Nat) : ∀ (t : Tr) (i j : Nat) (o : MO), get d (set d t i o) j = if j = i then some o else get d t j := by
  induction d with
  | zero =>
    intro t i j o
    cases t with
    | leaf l =>
      show List.lookup j ((i, o) :: _) = _
      rw [List.lookup_cons]
      by_cases e : j = i
      · subst e; simp
      · rw [if_neg e, beq_false_of_ne e]
        exact look_filter e
    | nil =>
      show List.lookup j [(i, o)] = _
      rw [List.lookup_cons]
      by_cases e : j = i
      · subst e; simp
      · rw [if_neg e, beq_false_of_ne e]; rfl
    | node _ _ =>
      show List.lookup j [(i, o)] = _
      rw [List.lookup_cons]
      by_cases e : j = i
      · subst e; simp
      · rw [if_neg e, beq_false_of_ne e]; rfl
  | succ d ih =>
    intro t i j o
    have key : ∀ l r : Tr, get (d + 1) (if i % 2 = 0 then Tr.node (set d l (i / 2) o) r else .node l (set d r (i / 2) o)) j = if j = i then some o else get (d + 1) (.node l r) j := by
      intro l r
      by_cases hi : i % 2 = 0
      · rw [if_pos hi]
        show (if j % 2 = 0 then get d (set d l (i / 2) o) (j / 2) else get d r (j / 2)) = _
        by_cases hj : j % 2 = 0
        · rw [if_pos hj, ih]
          by_cases e : j = i
          · subst e; simp
          · rw [if_neg (by omega), if_neg e]
            show _ = if j % 2 = 0 then get d l (j / 2) else get d r (j / 2)
            rw [if_pos hj]
        · rw [if_neg hj, if_neg (by intro e; subst e; exact hj hi)]
          show _ = if j % 2 = 0 then get d l (j / 2) else get d r (j / 2)
          rw [if_neg hj]
      · rw [if_neg hi]
        show (if j % 2 = 0 then get d l (j / 2) else get d (set d r (i / 2) o) (j / 2)) = _
        by_cases hj : j % 2 = 0
        · rw [if_pos hj, if_neg (by intro e; subst e; exact hi hj)]
          show _ = if j % 2 = 0 then get d l (j / 2) else get d r (j / 2)
          rw [if_pos hj]
        · rw [if_neg hj, ih]
          by_cases e : j = i
          · subst e; simp
          · rw [if_neg (by omega), if_neg e]
            show _ = if j % 2 = 0 then get d l (j / 2) else get d r (j / 2)
            rw [if_neg hj]
    have nn : ∀ n k, get n .nil k = none := fun n k => by cases n <;> rfl
    have nil2 : get (d + 1) (.node .nil .nil) j = none := by
      show (if j % 2 = 0 then get d .nil (j / 2) else get d .nil (j / 2)) = none
      rw [nn]; split <;> rfl
    cases t with
    | node l r => exact key l r
    | nil =>
      have := key .nil .nil
      rw [nil2] at this
      exact this
    | leaf l =>
      have := key .nil .nil
      rw [nil2] at this
      exact this
end Tr
structure MH where
  n : Nat
  t : Tr
namespace MH
def get (h : MH) (i : Nat) : Option MO := if i < h.n then h.t.get 6 i else none
def set (h : MH) (i : Nat) (o : MO) : MH := ⟨h.n, h.t.set 6 i o⟩
def push (h : MH) (o : MO) : MH := ⟨h.n + 1, h.t.set 6 h.n o⟩
def empty : MH := ⟨0, .nil⟩
theorem get_set {h : MH} {i j : Nat} {o : MO} (hi : i < h.n) : (h.set i o).get j = if j = i then some o else h.get j := by
  unfold get set
  show (if j < h.n then _ else _) = _
  rw [Tr.get_set]
  by_cases e : j = i
  · subst e; rw [if_pos hi, if_pos rfl, if_pos rfl]
  · rw [if_neg e, if_neg e]
theorem get_push {h : MH} {j : Nat} {o : MO} : (h.push o).get j = if j = h.n then some o else h.get j := by
  unfold get push
  show (if j < h.n + 1 then _ else _) = _
  rw [Tr.get_set]
  by_cases e : j = h.n
  · subst e; rw [if_pos (Nat.lt_succ_self _), if_pos rfl, if_pos rfl]
  · rw [if_neg e, if_neg e]
    by_cases e2 : j < h.n
    · rw [if_pos e2, if_pos (by omega)]
    · rw [if_neg e2, if_neg (by omega)]
theorem get_lt {h : MH} {i : Nat} {o : MO} (e : h.get i = some o) : i < h.n := by
  unfold get at e
  split at e
  · assumption
  · cases e
theorem get_none {h : MH} {i : Nat} (e : h.n ≤ i) : h.get i = none := by unfold get; rw [if_neg (by omega)]
end MH
def FzL (K : PySem.W.Frag) (H : Hp) (a : Addr) (vs : List V) : Prop := (∃ o, H a = some (.frz o (.lst vs))) ∨ SqL K (fun _ => none) a vs
theorem ktp_sq {K : PySem.W.Frag} {H : Hp} {a : Addr} {vs : List V} (h : SqT K (fun _ => none) a vs) : SqT K H a vs := by
  rcases h with (h | ⟨o, h⟩) | h
  · cases h
  · cases h
  · exact .inr h
theorem FzL.sq {K : PySem.W.Frag} {H : Hp} {a : Addr} {vs : List V} (h : FzL K H a vs) : SqL K H a vs := by
  rcases h with h | h
  · exact .inl (.inr h)
  · rcases h with (h | ⟨o, h⟩) | h
    · cases h
    · cases h
    · exact .inr h
def exk (e C : Addr) (d : Option Addr) : HO := .ext fun h => ∃ (oe : Obj) (vs : Array Value), h.get? e = some oe ∧ oe.cls = .ref C ∧ oe.dict = d ∧ oe.data = .fields vs
def XdH (H : Hp) (d : Option Addr) (ks : List Nat) (vs : List V) : Prop := (d = none ∧ ks = [] ∧ vs = []) ∨ ∃ dx, d = some dx ∧ H dx = some (.xd ((ks.map nm).zip vs)) ∧ ks.length = vs.length
mutual
inductive RV (Z : Zt) (ρ : List Addr) (H : Hp) : MV → V → Prop
  | non : RV Z ρ H .non .non
  | bl (b : Bool) : RV Z ρ H (.bl b) (.bl b)
  | int (n : Int) : RV Z ρ H (.int n) (.int n)
  | str (s : List Nat) : RV Z ρ H (.str s) (.str ⟨s.toArray⟩)
  | ty (s : String) : RV Z ρ H (.ty s) (.ty s)
  | adr (a : Addr) : RV Z ρ H (.adr a) (.ref a)
  | ref {i : Nat} {a : Addr} : ρ[i]? = some a → RV Z ρ H (.ref i) (.ref a)
  | tup {a : Addr} {xs : List MV} {vs : List V} : H a = some (.tup vs) → RVs Z ρ H xs vs → RV Z ρ H (.tup xs) (.ref a)
  | ktp {a : Addr} {xs : List MV} {vs : List V} : SqT Z.K (fun _ => none) a vs → RVs Z ρ H xs vs → RV Z ρ H (.ktp xs) (.ref a)
  | fls {a : Addr} {xs : List MV} {vs : List V} : FzL Z.K H a vs → RVs Z ρ H xs vs → RV Z ρ H (.fls xs) (.ref a)
  | err {a : Addr} {C : Nat} {d : Option Addr} {ks : List Nat} {xs : List MV} {vs : List V} : H a = some (exk a (Z.adr C) d) → XdH H d ks vs → RVs Z ρ H xs vs → RV Z ρ H (.err C ks xs) (.ref a)
inductive RVs (Z : Zt) (ρ : List Addr) (H : Hp) : List MV → List V → Prop
  | nil : RVs Z ρ H [] []
  | cons {x : MV} {v : V} {xs : List MV} {vs : List V} : RV Z ρ H x v → RVs Z ρ H xs vs → RVs Z ρ H (x :: xs) (v :: vs)
end
def Still : HO → Prop
  | .tup _ => True
  | .own _ => True
  | .frz _ _ => True
  | .xd _ => True
  | .ext _ => True
  | _ => False
structure Ext (ρ : List Addr) (H : Hp) (ρ' : List Addr) (H' : Hp) : Prop where
  pre : ∃ τ, ρ' = ρ ++ τ ∧ ∀ a ∈ τ, H a = none
  hold : ∀ a o, H a = some o → (Still o ∨ ¬ a ∈ ρ) → H' a = some o
  mono : ∀ a, H' a = none → H a = none
theorem Ext.still {ρ ρ' : List Addr} {H H' : Hp} (e : Ext ρ H ρ' H') : ∀ a o, H a = some o → Still o → H' a = some o := fun a o h s => e.hold a o h (.inl s)
theorem Ext.refl {ρ : List Addr} {H : Hp} : Ext ρ H ρ H := ⟨⟨[], by simp⟩, fun _ _ h _ => h, fun _ h => h⟩
theorem Ext.trans {ρ ρ1 ρ2 : List Addr} {H H1 H2 : Hp} (a : Ext ρ H ρ1 H1) (b : Ext ρ1 H1 ρ2 H2) : Ext ρ H ρ2 H2 := by
  obtain ⟨⟨t1, rfl, f1⟩, s1, m1⟩ := a
  obtain ⟨⟨t2, rfl, f2⟩, s2, m2⟩ := b
  refine ⟨⟨t1 ++ t2, by simp, fun x hx => ?_⟩, fun x o h s => s2 x o (s1 x o h s) ?_, fun x h => m1 x (m2 x h)⟩
  · rcases List.mem_append.mp hx with hx | hx
    · exact f1 x hx
    · exact m1 x (f2 x hx)
  · rcases s with s | s
    · exact .inl s
    · refine .inr fun hx => ?_
      rcases List.mem_append.mp hx with hx | hx
      · exact s hx
      · rw [f1 x hx] at h; cases h
theorem Ext.at {ρ ρ' : List Addr} {H H' : Hp} (e : Ext ρ H ρ' H') {i : Nat} {a : Addr} (h : ρ[i]? = some a) : ρ'[i]? = some a := by
  obtain ⟨⟨t, rfl, _⟩, _⟩ := e
  rw [List.getElem?_append_left]
  · exact h
  · exact (List.getElem?_eq_some_iff.mp h).1
theorem Ext.sqT {Z : Zt} {ρ ρ' : List Addr} {H H' : Hp} (e : Ext ρ H ρ' H') {a : Addr} {vs : List V} (h : SqT Z.K H a vs) : SqT Z.K H' a vs := by
  rcases h with (h | ⟨o, h⟩) | h
  · exact .inl (.inl (e.still _ _ h trivial))
  · exact .inl (.inr ⟨o, e.still _ _ h trivial⟩)
  · exact .inr h
theorem Ext.fzL {K : PySem.W.Frag} {ρ ρ' : List Addr} {H H' : Hp} (e : Ext ρ H ρ' H') {a : Addr} {vs : List V} (h : FzL K H a vs) : FzL K H' a vs := by
  rcases h with ⟨o, h⟩ | h
  · exact .inl ⟨o, e.still _ _ h trivial⟩
  · exact .inr h
theorem Ext.xdH {ρ ρ' : List Addr} {H H' : Hp} (e : Ext ρ H ρ' H') {d : Option Addr} {ks : List Nat} {vs : List V} (h : XdH H d ks vs) : XdH H' d ks vs := by
  rcases h with h | ⟨dx, h1, h2, h3⟩
  · exact .inl h
  · exact .inr ⟨dx, h1, e.still _ _ h2 trivial, h3⟩
mutual
theorem RV.ext {Z : Zt} {ρ ρ' : List Addr} {H H' : Hp} (e : Ext ρ H ρ' H') {x : MV} {v : V} : RV Z ρ H x v → RV Z ρ' H' x v
  | .non => .non
  | .bl b => .bl b
  | .int n => .int n
  | .str s => .str s
  | .fls h r => .fls (e.fzL h) (RVs.ext e r)
  | .ty s => .ty s
  | .adr a => .adr a
  | .ref h => .ref (e.at h)
  | .tup h r => .tup (e.still _ _ h trivial) (RVs.ext e r)
  | .ktp h r => .ktp h (RVs.ext e r)
  | .err h k r => .err (e.still _ _ h trivial) (e.xdH k) (RVs.ext e r)
theorem RVs.ext {Z : Zt} {ρ ρ' : List Addr} {H H' : Hp} (e : Ext ρ H ρ' H') {x : List MV} {v : List V} : RVs Z ρ H x v → RVs Z ρ' H' x v
  | .nil => .nil
  | .cons h r => .cons (RV.ext e h) (RVs.ext e r)
end
inductive RKs {κ κ' : Type} (f : κ → κ') (Z : Zt) (ρ : List Addr) (H : Hp) : List (κ × MV) → List (κ' × V) → Prop
  | nil : RKs f Z ρ H [] []
  | cons {k : κ} {x : MV} {v : V} {xs : List (κ × MV)} {vs : List (κ' × V)} : RV Z ρ H x v → RKs f Z ρ H xs vs → RKs f Z ρ H ((k, x) :: xs) ((f k, v) :: vs)
theorem RKs.ext {κ κ' : Type} {f : κ → κ'} {Z : Zt} {ρ ρ' : List Addr} {H H' : Hp} (e : Ext ρ H ρ' H') {x : List (κ × MV)} {v : List (κ' × V)} (h : RKs f Z ρ H x v) : RKs f Z ρ' H' x v := by
  induction h with
  | nil => exact .nil
  | cons a _ ih => exact .cons (a.ext e) ih
def OR (Z : Zt) (ρ : List Addr) (H : Hp) (a : Addr) : MO → Prop
  | .lst xs => ∃ vs, H a = some (.lst vs) ∧ RVs Z ρ H xs vs
  | .dic xs => ∃ vs, H a = some (.dK vs) ∧ RKs kOf Z ρ H xs vs
  | .dit xs => ∃ vs, H a = some (.dT vs) ∧ RKs (List.map kOf) Z ρ H xs vs
  | .ins C fs => ∃ dx vs, H a = some (.ins (Z.adr C) dx vs) ∧ RKs nm Z ρ H fs vs
  | .fdi xs => ∃ o vs, H a = some (.frz o (.dK vs)) ∧ RKs kOf Z ρ H xs vs
structure HR (Z : Zt) (ρ : List Addr) (h : MH) (H : Hp) : Prop where
  nodup : ρ.Nodup
  len : ρ.length = h.n
  all : ∀ i o, h.get i = some o → ∃ a, ρ[i]? = some a ∧ OR Z ρ H a o
  has : ∀ i, i < h.n → (h.get i).isSome = true
theorem OR.ext {Z : Zt} {ρ ρ' : List Addr} {H H' : Hp} (e : Ext ρ H ρ' H') {a : Addr} {o : MO} (h : OR Z ρ H a o) (k : H' a = H a) : OR Z ρ' H' a o := by
  cases o with
  | lst xs => obtain ⟨vs, h1, h2⟩ := h; exact ⟨vs, k.trans h1, h2.ext e⟩
  | dic xs => obtain ⟨vs, h1, h2⟩ := h; exact ⟨vs, k.trans h1, h2.ext e⟩
  | dit xs => obtain ⟨vs, h1, h2⟩ := h; exact ⟨vs, k.trans h1, h2.ext e⟩
  | ins C fs => obtain ⟨dx, vs, h1, h2⟩ := h; exact ⟨dx, vs, k.trans h1, h2.ext e⟩
  | fdi xs => obtain ⟨dx, vs, h1, h2⟩ := h; exact ⟨dx, vs, k.trans h1, h2.ext e⟩
theorem OR.notStill {Z : Zt} {ρ : List Addr} {H : Hp} {a : Addr} {o : MO} (h : OR Z ρ H a o) {u : HO} (e : H a = some u) (hop : o.opn = true) : ¬ Still u := by
  cases o with
  | lst xs => obtain ⟨vs, h1, _⟩ := h; rw [h1] at e; cases e; exact fun z => z
  | dic xs => obtain ⟨vs, h1, _⟩ := h; rw [h1] at e; cases e; exact fun z => z
  | dit xs => obtain ⟨vs, h1, _⟩ := h; rw [h1] at e; cases e; exact fun z => z
  | ins C fs => obtain ⟨dx, vs, h1, _⟩ := h; rw [h1] at e; cases e; exact fun z => z
  | fdi xs => cases hop
theorem OR.some {Z : Zt} {ρ : List Addr} {H : Hp} {a : Addr} {o : MO} (h : OR Z ρ H a o) : ∃ u, H a = some u := by
  cases o with
  | lst xs => obtain ⟨vs, h1, _⟩ := h; exact ⟨_, h1⟩
  | dic xs => obtain ⟨vs, h1, _⟩ := h; exact ⟨_, h1⟩
  | dit xs => obtain ⟨vs, h1, _⟩ := h; exact ⟨_, h1⟩
  | ins C fs => obtain ⟨dx, vs, h1, _⟩ := h; exact ⟨_, h1⟩
  | fdi xs => obtain ⟨dx, vs, h1, _⟩ := h; exact ⟨_, h1⟩
section
variable {Z : Zt} {ρ : List Addr} {h : MH} {H : Hp}
theorem upd_none {p a : Addr} {u : HO} (e : upd H p u a = none) : H a = none := by
  by_cases q : a = p
  · subst q; rw [upd_same] at e; cases e
  · rw [upd_ne q] at e; exact e
theorem Ext.still1 {p : Addr} {u : HO} (hp : H p = none) : Ext ρ H ρ (upd H p u) :=
  ⟨⟨[], by simp⟩, fun a o e _ => by rw [upd_ne (ne_of_none e hp)]; exact e, fun a e => upd_none e⟩
theorem HR.still1 (R : HR Z ρ h H) {p : Addr} {u : HO} (hp : H p = none) : HR Z ρ h (upd H p u) := by
  refine ⟨R.nodup, R.len, fun i o e => ?_, R.has⟩
  obtain ⟨a, h1, h2⟩ := R.all i o e
  obtain ⟨u', h3⟩ := h2.some
  exact ⟨a, h1, h2.ext (Ext.still1 hp) (upd_ne (ne_of_none h3 hp))⟩
theorem Ext.push {p : Addr} {u : HO} (hp : H p = none) : Ext ρ H (ρ ++ [p]) (upd H p u) :=
  ⟨⟨[p], rfl, fun a ha => by rw [List.mem_singleton.mp ha]; exact hp⟩, fun a o e _ => by rw [upd_ne (ne_of_none e hp)]; exact e, fun a e => upd_none e⟩
theorem HR.push (R : HR Z ρ h H) {p : Addr} {u : HO} {o : MO} (hp : H p = none) (ho : OR Z (ρ ++ [p]) (upd H p u) p o) : HR Z (ρ ++ [p]) (h.push o) (upd H p u) := by
  refine ⟨?_, ?_, fun i o' e => ?_, fun i hi => ?_⟩
  · refine List.nodup_append.mpr ⟨R.nodup, by simp, fun a ha b hb => ?_⟩
    obtain ⟨i, hi, rfl⟩ := List.getElem_of_mem ha
    obtain rfl : b = p := by simpa using hb
    obtain ⟨o', e⟩ := Option.isSome_iff_exists.mp (R.has i (by rw [← R.len]; exact hi))
    obtain ⟨a', h1, h2⟩ := R.all i o' e
    obtain ⟨u', h3⟩ := h2.some
    rw [List.getElem?_eq_getElem hi] at h1
    cases h1
    exact ne_of_none h3 hp
  · show (ρ ++ [p]).length = h.n + 1
    rw [List.length_append, R.len]; rfl
  · rw [MH.get_push] at e
    by_cases hi : i = h.n
    · rw [if_pos hi] at e
      cases e
      subst hi
      exact ⟨p, by rw [← R.len]; simp, ho⟩
    · rw [if_neg hi] at e
      obtain ⟨a, h1, h2⟩ := R.all i o' e
      obtain ⟨u', h3⟩ := h2.some
      exact ⟨a, (Ext.push (u := u) hp).at h1, h2.ext (Ext.push hp) (upd_ne (ne_of_none h3 hp))⟩
  · rw [MH.get_push]
    by_cases e : i = h.n
    · rw [if_pos e]; rfl
    · rw [if_neg e]; exact R.has i (by have : i < h.n + 1 := hi; omega)
theorem Ext.set {a : Addr} {u : HO} (ha : a ∈ ρ) (hn : ∀ o, H a = some o → ¬ Still o) : Ext ρ H ρ (upd H a u) :=
  ⟨⟨[], by simp⟩, fun b o e s => by
    by_cases hb : b = a
    · subst hb
      rcases s with s | s
      · exact absurd s (hn o e)
      · exact absurd ha s
    · rw [upd_ne hb]; exact e, fun a e => upd_none e⟩
theorem HR.set (R : HR Z ρ h H) {i : Nat} {a : Addr} {u : HO} {o o' : MO} (ho : h.get i = some o) (ha : ρ[i]? = some a) (hu : OR Z ρ (upd H a u) a o') (hop : o.opn = true := by rfl) : HR Z ρ (h.set i o') (upd H a u) := by
  have hi := MH.get_lt ho
  have hn : ∀ o, H a = some o → ¬ Still o := fun u' e => by
    obtain ⟨a', h1, h2⟩ := R.all i o ho
    rw [ha] at h1; cases h1
    exact h2.notStill e hop
  refine ⟨R.nodup, R.len, fun j q e => ?_, fun j hj => ?_⟩
  · rw [MH.get_set hi] at e
    by_cases hj : j = i
    · rw [if_pos hj] at e
      cases e
      subst hj
      exact ⟨a, ha, hu⟩
    · rw [if_neg hj] at e
      obtain ⟨b, h1, h2⟩ := R.all j q e
      refine ⟨b, h1, h2.ext (Ext.set (List.mem_of_getElem? ha) hn) (upd_ne fun z => hj ?_)⟩
      subst z
      have l1 := (List.getElem?_eq_some_iff.mp h1)
      have l2 := (List.getElem?_eq_some_iff.mp ha)
      obtain ⟨q1, q2⟩ := l1
      obtain ⟨q3, q4⟩ := l2
      exact (List.getElem?_inj q1 R.nodup).mp (h1.trans ha.symm)
  · rw [MH.get_set hi]
    by_cases e : j = i
    · rw [if_pos e]; rfl
    · rw [if_neg e]; exact R.has j hj
end
end MI
set_option Elab.async false
set_option linter.all false
set_option maxRecDepth 100000
set_option maxHeartbeats 4000000
namespace MI
open PySem PySem.Spec PyProof.Rows L2 JB
inductive MX where
  | own (C : Nat) (ks : List Nat) (xs : List MV) | typ (s : String)
inductive Out (α : Type) where
  | bad | ok (a : α) (h : MH) | er (x : MX) (h : MH)
namespace Out
def bind {α β : Type} (o : Out α) (k : α → MH → Out β) : Out β := match o with
  | bad => bad
  | ok a h => k a h
  | er x h => er x h
end Out
abbrev ML := List (Option MV)
abbrev ME := ML → MH → Out MV
abbrev MA := ML → MH → Out (List MV)
abbrev MT := ML → MH → Out Bool
def XR (Z : Zt) (ρ : List Addr) (H : Hp) (E : XK) : MX → Prop
  | .own C ks xs => ∀ d vs, XdH H d ks vs → RVs Z ρ H xs vs → E (.ref (Z.adr C)) d H
  | .typ s => E (.type s) none H
abbrev Rl (α β : Type) := List Addr → Hp → α → β → Prop
def Post {α β : Type} (Z : Zt) (R : Rl α β) (ρ : List Addr) (H : Hp) (Q : β → Hp → Prop) (E : XK) : Out α → Prop
  | .bad => False
  | .ok a h' => ∀ ρ' H' b, Ext ρ H ρ' H' → HR Z ρ' h' H' → R ρ' H' a b → Q b H'
  | .er x h' => ∀ ρ' H', Ext ρ H ρ' H' → HR Z ρ' h' H' → XR Z ρ' H' E x
abbrev rV (Z : Zt) : Rl MV V := fun ρ H x v => RV Z ρ H x v
abbrev rVs (Z : Zt) : Rl (List MV) (List V) := fun ρ H x v => RVs Z ρ H x v
abbrev rB : Rl Bool Bool := fun _ _ x v => x = v
section
variable {α β γ δ : Type} {Z : Zt} {ρ : List Addr} {h : MH} {H : Hp} {E : XK}
theorem Post.mono {R : Rl α β} {Q Q' : β → Hp → Prop} {o : Out α} (p : Post Z R ρ H Q E o) (k : ∀ b H', Q b H' → Q' b H') : Post Z R ρ H Q' E o := by
  cases o with
  | bad => exact p
  | ok a h' => exact fun ρ' H' b e r q => k _ _ (p ρ' H' b e r q)
  | er x h' => exact p
theorem Post.ext {R : Rl α β} {Q : β → Hp → Prop} {ρ1 : List Addr} {H1 : Hp} {o : Out α} (p : Post Z R ρ H Q E o) (e1 : Ext ρ H ρ1 H1) : Post Z R ρ1 H1 Q E o := by
  cases o with
  | bad => exact p
  | ok a h' => exact fun ρ' H' b e r q => p ρ' H' b (e1.trans e) r q
  | er x h' => exact fun ρ' H' e r => p ρ' H' (e1.trans e) r
theorem Post.bind {R : Rl α β} {R' : Rl γ δ} {Q : δ → Hp → Prop} {o : Out α} {k : α → MH → Out γ} (p : Post Z R' ρ H Q E (o.bind k)) :
    Post Z R ρ H (fun b H1 => ∃ ρ1 h1 a, Ext ρ H ρ1 H1 ∧ HR Z ρ1 h1 H1 ∧ R ρ1 H1 a b ∧ Post Z R' ρ1 H1 Q E (k a h1)) E o := by
  cases o with
  | bad => exact p
  | ok a h' => exact fun ρ1 H1 b e r q => ⟨ρ1, h', a, e, r, q, Post.ext (o := k a h') p e⟩
  | er x h' => exact p
theorem Post.ok {R : Rl α β} {Q : β → Hp → Prop} {a : α} {b : β} (p : Post Z R ρ H Q E (.ok a h)) (r : HR Z ρ h H) (q : R ρ H a b) : Q b H := p ρ H b .refl r q
end
structure SR (Z : Zt) (ρ : List Addr) (m : ML) (h : MH) (σ : L2.St) (H : Hp) : Prop where
  hr : HR Z ρ h H
  len : m.length = σ.length
  slot : ∀ (i : Nat) (x : MV), m[i]? = some (some x) → ∃ v, σ[i]? = some (some v) ∧ RV Z ρ H x v
theorem SR.to {Z : Zt} {ρ ρ' : List Addr} {m : ML} {h h' : MH} {σ : L2.St} {H H' : Hp} (s : SR Z ρ m h σ H) (e : Ext ρ H ρ' H') (r : HR Z ρ' h' H') : SR Z ρ' m h' σ H' :=
  ⟨r, s.len, fun i x k => by obtain ⟨v, h1, h2⟩ := s.slot i x k; exact ⟨v, h1, h2.ext e⟩⟩
theorem SR.set {Z : Zt} {ρ : List Addr} {m : ML} {h : MH} {σ : L2.St} {H : Hp} {x : MV} {v : V} (s : SR Z ρ m h σ H) (i : Nat) (r : RV Z ρ H x v) : SR Z ρ (m.set i (some x)) h (σ.set i (some v)) H := by
  refine ⟨s.hr, by simp [s.len], fun j y k => ?_⟩
  by_cases e : j = i
  · subst e
    rw [List.getElem?_set] at k
    rw [if_pos rfl] at k
    split at k
    · rename_i hl
      cases k
      exact ⟨v, by rw [List.getElem?_set, if_pos rfl, if_pos (by rw [← s.len]; exact hl)], r⟩
    · cases k
  · rw [List.getElem?_set_ne (Ne.symm e)] at k ⊢
    exact s.slot j y k
def tE (Z : Zt) (E : XK) (g : ME) : TE := fun σ H Q => ∃ ρ m h, SR Z ρ m h σ H ∧ Post Z (rV Z) ρ H Q E (g m h)
def tA (Z : Zt) (E : XK) (g : MA) : TA := fun σ H Q => ∃ ρ m h, SR Z ρ m h σ H ∧ Post Z (rVs Z) ρ H Q E (g m h)
def tT (Z : Zt) (E : XK) (g : MT) : TT := fun σ H Q => ∃ ρ m h, SR Z ρ m h σ H ∧ Post Z rB ρ H Q E (g m h)
abbrev JE (X : Cx) (T : Nat → Addr) (E : XK) (e : Expr) (g : ME) : Prop := PE X e (tE ⟨X.K, T⟩ E g)
abbrev JA (X : Cx) (T : Nat → Addr) (E : XK) (e : List Expr) (g : MA) : Prop := PA X e (tA ⟨X.K, T⟩ E g)
abbrev JT (X : Cx) (T : Nat → Addr) (E : XK) (e : Expr) (g : MT) : Prop := PT X e (tT ⟨X.K, T⟩ E g)
abbrev JW (X : Cx) (T : Nat → Addr) (E : XK) (e : Expr) (g : MT) : Prop := PW X e (tT ⟨X.K, T⟩ E g)
section
variable {X : Cx} {E : XK} {e a b c : Expr} {es : List Expr} {pos : Pos}
theorem PE.le {t t' : TE} (p : PE X e t) (k : ∀ σ H Q, t' σ H Q → t σ H Q) : PE X e t' := ⟨fun pins s σ H Q I h => p.run pins s σ H Q I (k σ H Q h)⟩
theorem PA.le {t t' : TA} (p : PA X es t) (k : ∀ σ H Q, t' σ H Q → t σ H Q) : PA X es t' := ⟨fun po pins s σ H Q I h => p.run po pins s σ H Q I (k σ H Q h)⟩
theorem PT.le {t t' : TT} (p : PT X e t) (k : ∀ σ H Q, t' σ H Q → t σ H Q) : PT X e t' := ⟨fun pins s σ H Q I h => p.run pins s σ H Q I (k σ H Q h)⟩
theorem PW.le {t t' : TT} (p : PW X e t) (k : ∀ σ H Q, t' σ H Q → t σ H Q) : PW X e t' := ⟨fun w pins s σ H Q I h => p.run w pins s σ H Q I (k σ H Q h)⟩
end
section
variable {γ δ : Type} {Z : Zt} {E : XK} {ρ : List Addr} {m : ML} {h : MH} {σ : L2.St} {H : Hp}
theorem stepE {R' : Rl γ δ} {Q : δ → Hp → Prop} {Q' : V → Hp → Prop} {g : ME} {k : MV → MH → Out γ} (s : SR Z ρ m h σ H) (p : Post Z R' ρ H Q E ((g m h).bind k))
    (n : ∀ ρ1 h1 H1 a v, SR Z ρ1 m h1 σ H1 → Ext ρ H ρ1 H1 → RV Z ρ1 H1 a v → Post Z R' ρ1 H1 Q E (k a h1) → Q' v H1) : tE Z E g σ H Q' :=
  ⟨ρ, m, h, s, p.bind.mono fun b H' ⟨ρ1, h1, a, e, r, q, z⟩ => n ρ1 h1 H' a b (s.to e r) e q z⟩
theorem stepA {R' : Rl γ δ} {Q : δ → Hp → Prop} {Q' : List V → Hp → Prop} {g : MA} {k : List MV → MH → Out γ} (s : SR Z ρ m h σ H) (p : Post Z R' ρ H Q E ((g m h).bind k))
    (n : ∀ ρ1 h1 H1 a v, SR Z ρ1 m h1 σ H1 → Ext ρ H ρ1 H1 → RVs Z ρ1 H1 a v → Post Z R' ρ1 H1 Q E (k a h1) → Q' v H1) : tA Z E g σ H Q' :=
  ⟨ρ, m, h, s, p.bind.mono fun b H' ⟨ρ1, h1, a, e, r, q, z⟩ => n ρ1 h1 H' a b (s.to e r) e q z⟩
theorem stepT {R' : Rl γ δ} {Q : δ → Hp → Prop} {Q' : Bool → Hp → Prop} {g : MT} {k : Bool → MH → Out γ} (s : SR Z ρ m h σ H) (p : Post Z R' ρ H Q E ((g m h).bind k))
    (n : ∀ ρ1 h1 H1 a, SR Z ρ1 m h1 σ H1 → Ext ρ H ρ1 H1 → Post Z R' ρ1 H1 Q E (k a h1) → Q' a H1) : tT Z E g σ H Q' :=
  ⟨ρ, m, h, s, p.bind.mono fun b H' ⟨ρ1, h1, a, e, r, q, z⟩ => by have q' : a = b := q; rw [← q']; exact n ρ1 h1 H' a (s.to e r) e z⟩
theorem endE {Q : VK} {g : ME} (s : SR Z ρ m h σ H) (p : Post Z (rV Z) ρ H Q E (g m h)) : tE Z E g σ H Q := ⟨ρ, m, h, s, p⟩
end
def gVar (i : Nat) : ME := fun m h => match m[i]? with
  | some (some v) => .ok v h
  | _ => .bad
def gC (v : MV) : ME := fun _ h => .ok v h
def gBin (f : MV → MV → MH → Out MV) (a b : ME) : ME := fun m h => (a m h).bind fun x h1 => (b m h1).bind fun y h2 => f x y h2
def gUn (f : MV → MH → Out MV) (a : ME) : ME := fun m h => (a m h).bind fun x h1 => f x h1
def gNil : MA := fun _ h => .ok [] h
def gCons (a : ME) (r : MA) : MA := fun m h => (a m h).bind fun x h1 => (r m h1).bind fun xs h2 => .ok (x :: xs) h2
def gTup (r : MA) : ME := fun m h => (r m h).bind fun xs h1 => if xs.length ≤ 1000000 then .ok (.tup xs) h1 else .bad
def gLst (r : MA) : ME := fun m h => (r m h).bind fun xs h1 => if xs.length ≤ 1000000 then .ok (.ref h1.n) (h1.push (.lst xs)) else .bad
def gIf (c : MT) (a b : ME) : ME := fun m h => (c m h).bind fun d h1 => if d = true then a m h1 else b m h1
def gB (a : ME) : MT := fun m h => (a m h).bind fun x h1 => match x with
  | .bl b => .ok b h1
  | _ => .bad
def gAnd (a b : MT) : MT := fun m h => (a m h).bind fun c h1 => if c = true then b m h1 else .ok false h1
def gOr (a b : MT) : MT := fun m h => (a m h).bind fun c h1 => if c = true then .ok true h1 else b m h1
def gNot (a : MT) : MT := fun m h => (a m h).bind fun c h1 => .ok (!c) h1
def gNotV (a : ME) : ME := fun m h => (a m h).bind fun x h1 => match x with
  | .bl b => .ok (.bl (!b)) h1
  | _ => .bad
section
variable {X : Cx} {T : Nat → Addr} {E : XK} {e a b c : Expr} {es rest : List Expr} {pos : Pos} {ga gb : ME} {gr : MA} {gt gu : MT}
theorem je_var {i : Nat} {x : Str} (p : PE X (.Name x pos) (tVar i)) : JE X T E (.Name x pos) (gVar i) := by
  refine PE.le p fun σ H Q ⟨ρ, m, h, s, q⟩ => ?_
  unfold gVar at q
  cases k : m[i]? with
  | none => rw [k] at q; exact q.elim
  | some o =>
    cases o with
    | none => rw [k] at q; exact q.elim
    | some v =>
      rw [k] at q
      obtain ⟨w, h1, h2⟩ := s.slot i v k
      exact ⟨w, h1, q.ok s.hr h2⟩
theorem je_c {v : MV} {w : V} (p : PE X e (tC w)) (r : ∀ ρ H, RV ⟨X.K, T⟩ ρ H v w) : JE X T E e (gC v) :=
  PE.le p fun σ H Q ⟨ρ, m, h, s, q⟩ => q.ok s.hr (r ρ H)
theorem je_int {i j} : JE X T E (.Constant (.int i) j pos) (gC (.int i)) := je_c pe_int fun _ _ => .int _
theorem je_bl {i j} : JE X T E (.Constant (.bool i) j pos) (gC (.bl i)) := je_c pe_bl fun _ _ => .bl _
theorem je_str {i j} {l : List Nat} (h : i = ⟨l.toArray⟩ := by rfl) : JE X T E (.Constant (.str i) j pos) (gC (.str l)) := je_c pe_str fun _ _ => by rw [h]; exact .str _
theorem je_non {j} : JE X T E (.Constant .none j pos) (gC .non) := je_c pe_non fun _ _ => .non
theorem ja_nil : JA X T E [] gNil := PA.le pa_nil fun σ H Q ⟨ρ, m, h, s, q⟩ => q.ok s.hr .nil
theorem ja_cons (ha : JE X T E e ga) (hr : JA X T E es gr) (hs : starEach (e :: es) X.env = (false, eval e X.env) :: starEach es X.env := by rfl) : JA X T E (e :: es) (gCons ga gr) :=
  PA.le (pa_cons ha hr hs) fun σ H Q ⟨ρ, m, h, s, q⟩ => stepE s q fun ρ1 h1 H1 x v s1 e1 r1 q1 => stepA s1 q1 fun ρ2 h2 H2 xs vs s2 e2 r2 q2 => q2.ok s2.hr (.cons (r1.ext e2) r2)
def OpM (Z : Zt) (E : XK) (f : MV → MV → MH → Out MV) (r : R2) : Prop :=
  ∀ ρ h H x y v w Q, HR Z ρ h H → RV Z ρ H x v → RV Z ρ H y w → Post Z (rV Z) ρ H Q E (f x y h) → r v w H Q
theorem le_op {f : MV → MV → MH → Out MV} {r : R2} (o : OpM ⟨X.K, T⟩ E f r) : ∀ σ H Q, tE ⟨X.K, T⟩ E (gBin f ga gb) σ H Q → tOp r (tE ⟨X.K, T⟩ E ga) (tE ⟨X.K, T⟩ E gb) σ H Q :=
  fun σ H Q ⟨ρ, m, h, s, q⟩ => stepE s q fun ρ1 h1 H1 x v s1 e1 r1 q1 => stepE s1 q1 fun ρ2 h2 H2 y w s2 e2 r2 q2 => o ρ2 h2 H2 x y v w Q s2.hr (r1.ext e2) r2 q2
theorem je_op {op : Operator} {f : MV → MV → MH → Out MV} {r : R2} (ho : OpR X (binaryOp op) r) (o : OpM ⟨X.K, T⟩ E f r) (ha : JE X T E a ga) (hb : JE X T E b gb) : JE X T E (.BinOp a op b pos) (gBin f ga gb) :=
  PE.le (pe_op ho ha hb) (le_op o)
theorem je_cmp {op : CmpOp} {f : MV → MV → MH → Out MV} {r : R2} (ho : OpR X (compareOp op) r) (o : OpM ⟨X.K, T⟩ E f r) (ha : JE X T E a ga) (hb : JE X T E b gb) (hm : behindInMarks op b = false) : JE X T E (.Compare a [op] [b] pos) (gBin f ga gb) :=
  PE.le (pe_cmpR ho ha hb hm) (le_op o)
theorem jt_cmp {op : CmpOp} {f : MV → MV → MH → Out MV} {r : R2} (ho : OpR X (compareOp op) r) (o : OpM ⟨X.K, T⟩ E f r) (ha : JE X T E a ga) (hb : JE X T E b gb) (hm : behindInMarks op b = false) : JT X T E (.Compare a [op] [b] pos) (gB (gBin f ga gb)) := by
  refine PT.le (pt_cmpR ho ha hb hm) fun σ H Q ⟨ρ, m, h, s, q⟩ => ?_
  have : tE ⟨X.K, T⟩ E (gBin f ga gb) σ H fun x H1 => ∃ c, x = .bl c ∧ Q c H1 := stepE s q fun ρ1 h1 H1 x v s1 e1 r1 q1 => by
    cases r1 with
    | bl b => exact ⟨b, rfl, q1.ok s1.hr rfl⟩
    | _ => exact q1.elim
  exact le_op o σ H _ this
theorem RVs.length {Z : Zt} {ρ : List Addr} {H : Hp} {xs : List MV} {vs : List V} : RVs Z ρ H xs vs → xs.length = vs.length
  | .nil => rfl
  | .cons _ r => by simp [RVs.length r]
theorem je_tup {x1} (h : JA X T E es gr) : JE X T E (.Tuple es x1 pos) (gTup gr) :=
  PE.le (pe_tup h) fun σ H Q ⟨ρ, m, h, s, q⟩ => stepA s q fun ρ1 h1 H1 xs vs s1 e1 r1 q1 => by
    by_cases z : xs.length ≤ 1000000
    · rw [if_pos z] at q1
      refine ⟨by rw [← r1.length, sizeLine_eq]; omega, fun p hp => ?_⟩
      exact q1 ρ1 _ _ (Ext.still1 hp) (s1.hr.still1 hp) (.tup upd_same (r1.ext (Ext.still1 hp)))
    · rw [if_neg z] at q1
      exact q1.elim
theorem je_lst (h : JA X T E es gr) : JE X T E (.List es pos) (gLst gr) :=
  PE.le (pe_lst h) fun σ H Q ⟨ρ, m, h, s, q⟩ => stepA s q fun ρ1 h1 H1 xs vs s1 e1 r1 q1 => by
    by_cases z : xs.length ≤ 1000000
    · rw [if_pos z] at q1
      refine ⟨by rw [← r1.length, sizeLine_eq]; omega, fun p hp => ?_⟩
      refine q1 (ρ1 ++ [p]) _ _ (Ext.push hp) (s1.hr.push hp ⟨vs, upd_same, r1.ext (Ext.push hp)⟩) (.ref ?_)
      rw [← s1.hr.len]; simp
    · rw [if_neg z] at q1
      exact q1.elim
theorem je_if {c : Expr} (hc : JT X T E c gt) (ha : JE X T E a ga) (hb : JE X T E b gb) : JE X T E (.IfExp c a b pos) (gIf gt ga gb) :=
  PE.le (pe_ifExp hc ha hb) fun σ H Q ⟨ρ, m, h, s, q⟩ => stepT s q fun ρ1 h1 H1 d s1 e1 q1 => by
    cases d with
    | true => exact endE s1 q1
    | false => exact endE s1 q1
theorem jw_and1 (ha : JT X T E a gt) : JW X T E (.BoolOp .And [a] pos) gt := pw_and1 ha
theorem jw_or1 (ha : JT X T E a gt) : JW X T E (.BoolOp .Or [a] pos) gt := pw_or1 ha
theorem endT {Z : Zt} {ρ : List Addr} {m : ML} {h : MH} {σ : L2.St} {H : Hp} {Q : Bool → Hp → Prop} {g : MT} (s : SR Z ρ m h σ H) (p : Post Z rB ρ H Q E (g m h)) : tT Z E g σ H Q := ⟨ρ, m, h, s, p⟩
theorem jw_and (ha : JT X T E a gt) (hb : JW X T E (.BoolOp .And (b :: rest) pos) gu) : JW X T E (.BoolOp .And (a :: b :: rest) pos) (gAnd gt gu) :=
  PW.le (pw_and ha hb) fun σ H Q ⟨ρ, m, h, s, q⟩ => stepT s q fun ρ1 h1 H1 d s1 e1 q1 => by
    cases d with
    | true => exact endT s1 q1
    | false => exact q1.ok s1.hr rfl
theorem jw_or (ha : JT X T E a gt) (hb : JW X T E (.BoolOp .Or (b :: rest) pos) gu) : JW X T E (.BoolOp .Or (a :: b :: rest) pos) (gOr gt gu) :=
  PW.le (pw_or ha hb) fun σ H Q ⟨ρ, m, h, s, q⟩ => stepT s q fun ρ1 h1 H1 d s1 e1 q1 => by
    cases d with
    | true => exact q1.ok s1.hr rfl
    | false => exact endT s1 q1
theorem jt_not (ha : JT X T E a gt) : JT X T E (.UnaryOp .Not a pos) (gNot gt) :=
  PT.le (pt_not ha) fun σ H Q ⟨ρ, m, h, s, q⟩ => stepT s q fun ρ1 h1 H1 d s1 e1 q1 => q1.ok s1.hr rfl
theorem je_one {op} (ha : JE X T E a ga) : JE X T E (.BoolOp op [a] pos) ga := pe_one ha
theorem je_not (ha : JE X T E a ga) : JE X T E (.UnaryOp .Not a pos) (gNotV ga) :=
  PE.le (pe_not ha) fun σ H Q ⟨ρ, m, h, s, q⟩ => stepE s q fun ρ1 h1 H1 x v s1 e1 r1 q1 => by
    cases r1 with
    | bl d => exact ⟨d, rfl, q1.ok s1.hr (.bl _)⟩
    | _ => exact q1.elim
end
end MI
set_option Elab.async false
set_option linter.all false
set_option maxRecDepth 100000
set_option maxHeartbeats 4000000
namespace MI
open PySem PySem.Spec PyProof.Rows L2 JB
inductive SO where
  | bad | nx (m : ML) (h : MH) | rt (v : MV) (h : MH) | bk (m : ML) (h : MH) | ct (m : ML) (h : MH) | er (x : MX) (h : MH)
def Out.bindS {α : Type} (o : Out α) (k : α → MH → SO) : SO := match o with
  | .bad => .bad
  | .ok a h => k a h
  | .er x h => .er x h
def SO.next (o : SO) (k : ML → MH → SO) : SO := match o with
  | .nx m h => k m h
  | o => o
abbrev MS := ML → MH → SO
def SO.only : SO → SO
  | .nx m h => .nx m h
  | .er x h => .er x h
  | _ => .bad
abbrev MG := MV → ML → MH → SO
def PostS (Z : Zt) (ρ : List Addr) (H : Hp) (D : Ends) (E : XK) : SO → Prop
  | .bad => False
  | .nx m' h' => ∀ ρ' H' σ', Ext ρ H ρ' H' → SR Z ρ' m' h' σ' H' → D.nx σ' H'
  | .rt x h' => ∀ ρ' H' v, Ext ρ H ρ' H' → HR Z ρ' h' H' → RV Z ρ' H' x v → D.rt v H'
  | .bk m' h' => ∀ ρ' H' σ', Ext ρ H ρ' H' → SR Z ρ' m' h' σ' H' → D.bk σ' H'
  | .ct m' h' => ∀ ρ' H' σ', Ext ρ H ρ' H' → SR Z ρ' m' h' σ' H' → D.ct σ' H'
  | .er x h' => ∀ ρ' H', Ext ρ H ρ' H' → HR Z ρ' h' H' → XR Z ρ' H' E x
def tS (Z : Zt) (E : XK) (g : MS) : TS := fun D σ H => ∃ ρ m h, SR Z ρ m h σ H ∧ PostS Z ρ H D E (g m h)
def tG (Z : Zt) (E : XK) (g : MG) : TG := fun v σ H Q => ∃ ρ m h x, SR Z ρ m h σ H ∧ RV Z ρ H x v ∧ PostS Z ρ H { nx := Q, rt := fun _ _ => False } E (g x m h)
abbrev JS (X : Cx) (T : Nat → Addr) (E : XK) (st : Stmt) (g : MS) : Prop := PS X st (tS ⟨X.K, T⟩ E g)
abbrev JSs (X : Cx) (T : Nat → Addr) (E : XK) (st : List Stmt) (g : MS) : Prop := PSs X st (tS ⟨X.K, T⟩ E g)
abbrev JG (X : Cx) (T : Nat → Addr) (E : XK) (e : Expr) (g : MG) : Prop := PG X e (tG ⟨X.K, T⟩ E g)
section
variable {Z : Zt} {E : XK} {ρ : List Addr} {m : ML} {h : MH} {σ : L2.St} {H : Hp} {D : Ends}
theorem PostS.ext {ρ1 : List Addr} {H1 : Hp} {o : SO} (p : PostS Z ρ H D E o) (e1 : Ext ρ H ρ1 H1) : PostS Z ρ1 H1 D E o := by
  cases o with
  | bad => exact p
  | nx m' h' => exact fun ρ' H' b e r => p ρ' H' b (e1.trans e) r
  | bk m' h' => exact fun ρ' H' b e r => p ρ' H' b (e1.trans e) r
  | ct m' h' => exact fun ρ' H' b e r => p ρ' H' b (e1.trans e) r
  | rt v h' => exact fun ρ' H' b e r q => p ρ' H' b (e1.trans e) r q
  | er x h' => exact fun ρ' H' e r => p ρ' H' (e1.trans e) r
theorem PostS.bind {α β : Type} {R : Rl α β} {o : Out α} {k : α → MH → SO} (p : PostS Z ρ H D E (o.bindS k)) :
    Post Z R ρ H (fun b H1 => ∃ ρ1 h1 a, Ext ρ H ρ1 H1 ∧ HR Z ρ1 h1 H1 ∧ R ρ1 H1 a b ∧ PostS Z ρ1 H1 D E (k a h1)) E o := by
  cases o with
  | bad => exact p
  | ok a h' => exact fun ρ1 H1 b e r q => ⟨ρ1, h', a, e, r, q, PostS.ext (o := k a h') p e⟩
  | er x h' => exact p
theorem sE {Q' : V → Hp → Prop} {g : ME} {k : MV → MH → SO} (s : SR Z ρ m h σ H) (p : PostS Z ρ H D E ((g m h).bindS k))
    (n : ∀ ρ1 h1 H1 a v, SR Z ρ1 m h1 σ H1 → Ext ρ H ρ1 H1 → RV Z ρ1 H1 a v → PostS Z ρ1 H1 D E (k a h1) → Q' v H1) : tE Z E g σ H Q' :=
  ⟨ρ, m, h, s, p.bind.mono fun b H' ⟨ρ1, h1, a, e, r, q, z⟩ => n ρ1 h1 H' a b (s.to e r) e q z⟩
theorem sT {Q' : Bool → Hp → Prop} {g : MT} {k : Bool → MH → SO} (s : SR Z ρ m h σ H) (p : PostS Z ρ H D E ((g m h).bindS k))
    (n : ∀ ρ1 h1 H1 a, SR Z ρ1 m h1 σ H1 → Ext ρ H ρ1 H1 → PostS Z ρ1 H1 D E (k a h1) → Q' a H1) : tT Z E g σ H Q' :=
  ⟨ρ, m, h, s, (PostS.bind (R := rB) p).mono fun b H' ⟨ρ1, h1, a, e, r, q, z⟩ => by have q' : a = b := q; rw [← q']; exact n ρ1 h1 H' a (s.to e r) e z⟩
theorem PostS.only {o : SO} (p : PostS Z ρ H D E o.only) : PostS Z ρ H { nx := D.nx, rt := fun _ _ => False } E o := by
  cases o with
  | nx m' h' => exact p
  | er x h' => exact p
  | bad => exact p.elim
  | rt v h' => exact p.elim
  | bk m' h' => exact p.elim
  | ct m' h' => exact p.elim
theorem PostS.next {o : SO} {k : ML → MH → SO} (p : PostS Z ρ H D E (o.next k)) : PostS Z ρ H { D with nx := fun σ1 H1 => ∃ ρ1 m1 h1, SR Z ρ1 m1 h1 σ1 H1 ∧ PostS Z ρ1 H1 D E (k m1 h1) } E o := by
  cases o with
  | nx m' h' => exact fun ρ' H' σ' e s => ⟨ρ', m', h', s, PostS.ext (o := k m' h') p e⟩
  | bad => exact p
  | rt v h' => exact p
  | bk m' h' => exact p
  | ct m' h' => exact p
  | er x h' => exact p
end
def gNext : MS := fun m h => .nx m h
def gSeq (a b : MS) : MS := fun m h => (a m h).next b
def gExpr (a : ME) : MS := fun m h => (a m h).bindS fun _ h1 => .nx m h1
def gRet (a : ME) : MS := fun m h => (a m h).bindS fun x h1 => .rt x h1
def gRetN : MS := fun _ h => .rt .non h
def gIfS (c : MT) (a b : MS) : MS := fun m h => (c m h).bindS fun d h1 => if d = true then a m h1 else b m h1
def gAsg (a : ME) (t : MG) : MS := fun m h => (a m h).bindS fun x h1 => (t x m h1).only
def tgName (i : Nat) : MG := fun x m h => .nx (m.set i (some x)) h
def gWhile (c : MT) (b : MS) : Nat → MS
  | 0, _, _ => .bad
  | n + 1, m, h => (c m h).bindS fun d h1 => if d = true then match b m h1 with
      | .nx m2 h2 => gWhile c b n m2 h2
      | .ct m2 h2 => gWhile c b n m2 h2
      | .bk m2 h2 => .nx m2 h2
      | o => o
    else .nx m h1
structure It1 where
  size : MH → Nat
  at_ : Nat → MH → Option (Option MV)
abbrev MI1 := ML → MH → Out It1
def gForN (it : It1) (t : MG) (b : MS) : Nat → Nat → MS
  | 0, _, _, _ => .bad
  | n + 1, i, m, h => match it.at_ i h with
    | none => .bad
    | some none => .nx m h
    | some (some x) => match t x m h with
      | .nx m1 h1 => match b m1 h1 with
        | .nx m2 h2 => gForN it t b n (i + 1) m2 h2
        | .ct m2 h2 => gForN it t b n (i + 1) m2 h2
        | .bk m2 h2 => .nx m2 h2
        | o => o
      | .er x h => .er x h
      | _ => .bad
def gFor (i : MI1) (t : MG) (b : MS) : MS := fun m h => (i m h).bindS fun it h1 => gForN it t b (it.size h1 + 1) 0 m h1
def rI (Z : Zt) : Rl It1 It := fun ρ H it J => ∀ i ρ' h' H', Ext ρ H ρ' H' → HR Z ρ' h' H' → match it.at_ i h' with
  | none => True
  | some none => J.stop i H'
  | some (some x) => J.go i H' ∧ ∀ v H'', J.yld i H' v H'' → ∃ ρ'', Ext ρ' H' ρ'' H'' ∧ HR Z ρ'' h' H'' ∧ RV Z ρ'' H'' x v
def tI (Z : Zt) (E : XK) (g : MI1) : TI := fun σ H R => ∃ ρ m h, SR Z ρ m h σ H ∧ Post Z (rI Z) ρ H R E (g m h)
abbrev JI (X : Cx) (T : Nat → Addr) (E : XK) (tg iter : Expr) (g : MI1) : Prop := PI X tg iter (tI ⟨X.K, T⟩ E g)
section
variable {X : Cx} {T : Nat → Addr} {E : XK} {e a b c : Expr} {st : Stmt} {rest body : List Stmt} {pos : Pos} {ga gb : ME} {gt : MT} {gs gu : MS} {gg : MG}
theorem PS.le {t t' : TS} (p : PS X st t) (k : ∀ D σ H, t' D σ H → t D σ H) : PS X st t' := ⟨fun pins s σ H D I h => p.run pins s σ H D I (k D σ H h)⟩
theorem PSs.le {t t' : TS} (p : PSs X rest t) (k : ∀ D σ H, t' D σ H → t D σ H) : PSs X rest t' := ⟨fun pins s σ H D I h => p.run pins s σ H D I (k D σ H h)⟩
theorem PG.le {t t' : TG} (p : PG X e t) (k : ∀ v σ H Q, t' v σ H Q → t v σ H Q) : PG X e t' := ⟨fun pins s σ H v u Q I r h => p.run pins s σ H v u Q I r (k v σ H Q h)⟩
theorem PI.le {t t' : TI} {tg : Expr} (p : PI X tg e t) (k : ∀ σ H Q, t' σ H Q → t σ H Q) : PI X tg e t' := ⟨fun pins s σ H R I h => p.run pins s σ H R I (k σ H R h)⟩
theorem js_nil : JSs X T E [] gNext := PSs.le pss_nil fun D σ H ⟨ρ, m, h, s, q⟩ => q ρ H σ .refl s
theorem js_cons (h1 : JS X T E st gs) (h2 : JSs X T E rest gu) : JSs X T E (st :: rest) (gSeq gs gu) :=
  PSs.le (pss_cons h1 h2) fun D σ H ⟨ρ, m, h, s, q⟩ => ⟨ρ, m, h, s, q.next⟩
theorem js_one (h1 : JS X T E st gs) : JSs X T E [st] gs := pss_one h1
theorem js_expr (he : JE X T E e ga) (hs : swapsWith e none pos.line X.env = pure false := by rfl) : JS X T E (.Expr e pos) (gExpr ga) :=
  PS.le (ps_expr he hs) fun D σ H ⟨ρ, m, h, s, q⟩ => sE s q fun ρ1 h1 H1 x v s1 e1 r1 q1 => q1 ρ1 H1 σ .refl s1
theorem js_ret (he : JE X T E e ga) : JS X T E (.Return (some e) pos) (gRet ga) :=
  PS.le (ps_ret he) fun D σ H ⟨ρ, m, h, s, q⟩ => sE s q fun ρ1 h1 H1 x v s1 e1 r1 q1 => q1 ρ1 H1 v .refl s1.hr r1
theorem js_retN : JS X T E (.Return none pos) gRetN := PS.le ps_retN fun D σ H ⟨ρ, m, h, s, q⟩ => q ρ H .non .refl s.hr .non
theorem js_if {p q : List Stmt} (hc : JT X T E c gt) (ha : JSs X T E p gs) (hb : JSs X T E q gu) : JS X T E (.If c p q pos) (gIfS gt gs gu) :=
  PS.le (ps_if hc ha hb) fun D σ H ⟨ρ, m, h, s, q⟩ => sT s q fun ρ1 h1 H1 d s1 e1 q1 => by
    cases d with
    | true => exact ⟨ρ1, m, h1, s1, q1⟩
    | false => exact ⟨ρ1, m, h1, s1, q1⟩
theorem jg_name {i : Nat} {x : Str} (p : PG X (.Name x pos) (gName i)) : JG X T E (.Name x pos) (tgName i) :=
  PG.le p fun v σ H Q ⟨ρ, m, h, x, s, r, q⟩ => q ρ H _ .refl (s.set i r)
theorem js_asg {tg : Expr} (he : JE X T E e ga) (hg : JG X T E tg gg) (hs : swapsWithSole [tg] e pos.line X.env = pure false := by rfl) (hw : swappedStores [tg] e X.env = pure none := by rfl)
    (h1 : (assignEach [tg] X.env).map (·.2) = [assign tg X.env] := by rfl) : JS X T E (.Assign [tg] e pos) (gAsg ga gg) :=
  PS.le (ps_asg he hg hs hw h1) fun D σ H ⟨ρ, m, h, s, q⟩ => sE s q fun ρ1 h1 H1 x v s1 e1 r1 q1 => ⟨ρ1, m, h1, x, s1, r1, q1.only⟩
theorem js_set {i : Nat} {x : Str} {pos' : Pos} (hN : X.N.Nodup) (hi : X.N[i]? = some x) (hx : Loc X.env.scope x) (he : JE X T E e ga) (hs : swapsWith e (some (.Name x pos')) pos.line X.env = pure false := by rfl) (hf : X.fn x = true ∨ X.env.scope.names.lookup x = some .local := by first | exact .inl rfl | exact .inr rfl | assumption) :
    JS X T E (.Assign [.Name x pos'] e pos) (gAsg ga (tgName i)) :=
  PS.le (ps_set (i := i) hN hi hx he hs hf) fun D σ H ⟨ρ, m, h, s, q⟩ => sE s q fun ρ1 h1 H1 x v s1 e1 r1 q1 => q1 ρ1 H1 _ .refl (s1.set i r1)
theorem js_while {p : List Stmt} (N : Nat) (hp : PassesOwn (model X.prog X.w) X.A X.env X.xe) (hc : JT X T E c gt) (hb : JSs X T E p gs) : JS X T E (.While c p [] pos) (gWhile gt gs N) := by
  refine PS.le (ps_while hp hc hb) fun D σ H ⟨ρ, m, h, s, q⟩ => ?_
  refine ⟨fun n σ1 H1 => ∃ ρ1 m1 h1, SR ⟨X.K, T⟩ ρ1 m1 h1 σ1 H1 ∧ PostS ⟨X.K, T⟩ ρ1 H1 D E (gWhile gt gs n m1 h1), ⟨N, ρ, m, h, s, q⟩, fun n σ1 H1 ⟨ρ1, m1, h1, s1, q1⟩ => ?_⟩
  cases n with
  | zero => exact q1.elim
  | succ n =>
    refine sT (k := fun d h1 => if d = true then match gs m1 h1 with
      | .nx m2 h2 => gWhile gt gs n m2 h2
      | .ct m2 h2 => gWhile gt gs n m2 h2
      | .bk m2 h2 => .nx m2 h2
      | o => o
      else .nx m1 h1) s1 q1 fun ρ2 h2 H2 d s2 e2 q2 => ?_
    cases d with
    | false => exact q2 ρ2 H2 σ1 .refl s2
    | true =>
      refine ⟨fun σ3 H3 => ∃ ρ3 m3 h3, SR ⟨X.K, T⟩ ρ3 m3 h3 σ3 H3 ∧ PostS ⟨X.K, T⟩ ρ3 H3 D E (gWhile gt gs n m3 h3), fun σ3 H3 z => ⟨n, Nat.lt_succ_self _, z⟩, ρ2, m1, h2, s2, ?_⟩
      have q3 : PostS ⟨X.K, T⟩ ρ2 H2 D E (match gs m1 h2 with
        | .nx m2 h2 => gWhile gt gs n m2 h2
        | .ct m2 h2 => gWhile gt gs n m2 h2
        | .bk m2 h2 => .nx m2 h2
        | o => o) := q2
      generalize gs m1 h2 = o at q3 ⊢
      cases o with
      | bad => exact q3
      | nx m3 h3 => exact fun ρ' H' σ' e s => ⟨ρ', m3, h3, s, PostS.ext (o := gWhile gt gs n m3 h3) q3 e⟩
      | ct m3 h3 => exact fun ρ' H' σ' e s => ⟨ρ', m3, h3, s, PostS.ext (o := gWhile gt gs n m3 h3) q3 e⟩
      | bk m3 h3 => exact q3
      | rt v h3 => exact q3
      | er x h3 => exact q3
theorem js_for {tg iter : Expr} {p : List Stmt} {gi : MI1} (hp : PassesOwn (model X.prog X.w) X.A X.env X.xe) (hc : X.calm = true) (hi : JI X T E tg iter gi) (hg : JG X T E tg gg) (hb : JSs X T E p gs)
    (hs : ∀ x, foldedSetIterable iter X.env x = pure x := by intro _; rfl) : JS X T E (.For tg iter p [] pos) (gFor gi gg gs) := by
  refine PS.le (ps_for hp hc hi hg hb hs) fun D σ H ⟨ρ, m, h, s, q⟩ => ⟨ρ, m, h, s, ?_⟩
  refine (PostS.bind (R := rI ⟨X.K, T⟩) q).mono fun J H1 ⟨ρ1, h1, it, e1, r1, w1, q1⟩ => ?_
  have s1 := s.to e1 r1
  refine ⟨fun i n σ2 H2 => ∃ ρ2 m2 h2, Ext ρ1 H1 ρ2 H2 ∧ SR ⟨X.K, T⟩ ρ2 m2 h2 σ2 H2 ∧ PostS ⟨X.K, T⟩ ρ2 H2 D E (gForN it gg gs n i m2 h2), ⟨_, ρ1, m, h1, .refl, s1, q1⟩, fun i n σ2 H2 ⟨ρ2, m2, h2, e2, s2, q2⟩ => ?_⟩
  cases n with
  | zero => exact q2.elim
  | succ n =>
    have w2 := w1 i ρ2 h2 H2 e2 s2.hr
    unfold gForN at q2
    cases k : it.at_ i h2 with
    | none => rw [k] at q2; exact q2.elim
    | some o =>
      rw [k] at q2 w2
      cases o with
      | none => exact .inl ⟨w2, q2 ρ2 H2 σ2 .refl s2⟩
      | some x =>
        refine .inr ⟨w2.1, fun σ3 H3 => ∃ ρ3 m3 h3, Ext ρ1 H1 ρ3 H3 ∧ SR ⟨X.K, T⟩ ρ3 m3 h3 σ3 H3 ∧ PostS ⟨X.K, T⟩ ρ3 H3 D E (gForN it gg gs n (i + 1) m3 h3), fun σ3 H3 z => ⟨n, Nat.lt_succ_self _, z⟩, fun v H3 y => ?_⟩
        obtain ⟨ρ3, e3, r3, rv3⟩ := w2.2 v H3 y
        have q3 : PostS ⟨X.K, T⟩ ρ2 H2 D E (match gg x m2 h2 with
          | .nx m1 h1 => match gs m1 h1 with
            | .nx m2 h2 => gForN it gg gs n (i + 1) m2 h2
            | .ct m2 h2 => gForN it gg gs n (i + 1) m2 h2
            | .bk m2 h2 => .nx m2 h2
            | o => o
          | .er x h => .er x h
          | _ => .bad) := q2
        refine ⟨ρ3, m2, h2, x, s2.to e3 r3, rv3, ?_⟩
        generalize gg x m2 h2 = o at q3 ⊢
        cases o with
        | bad => exact q3
        | rt _ _ => exact q3.elim
        | bk _ _ => exact q3.elim
        | ct _ _ => exact q3.elim
        | er y h4 => exact q3.ext (o := SO.er y h4) e3
        | nx m4 h4 =>
          intro ρ5 H5 σ5 e5 s5
          refine ⟨ρ5, m4, h4, s5, ?_⟩
          have q4 : PostS ⟨X.K, T⟩ ρ2 H2 D E (match gs m4 h4 with
            | .nx m2 h2 => gForN it gg gs n (i + 1) m2 h2
            | .ct m2 h2 => gForN it gg gs n (i + 1) m2 h2
            | .bk m2 h2 => .nx m2 h2
            | o => o) := q3
          have e35 := e3.trans e5
          have q5 := PostS.ext q4 e35
          have e15 := (e2.trans e3).trans e5
          clear q4 q3
          generalize gs m4 h4 = o at q5 ⊢
          cases o with
          | bad => exact q5
          | nx m3 h3 => exact fun ρ' H' σ' e s => ⟨ρ', m3, h3, e15.trans e, s, PostS.ext (o := gForN it gg gs n (i + 1) m3 h3) q5 e⟩
          | ct m3 h3 => exact fun ρ' H' σ' e s => ⟨ρ', m3, h3, e15.trans e, s, PostS.ext (o := gForN it gg gs n (i + 1) m3 h3) q5 e⟩
          | bk m3 h3 => exact q5
          | rt v h3 => exact q5
          | er x h3 => exact q5
end
end MI
set_option Elab.async false
set_option linter.all false
set_option maxRecDepth 100000
set_option maxHeartbeats 4000000
namespace MI
open PySem PySem.Spec PyProof.Rows L2 JB
abbrev MF := List MV → MH → Out MV
def spM (Z : Zt) (n : Nat) (g : MF) : Sp := fun vs H Q E => ∃ ρ h as, HR Z ρ h H ∧ RVs Z ρ H as vs ∧ vs.length = n ∧ Post Z (rV Z) ρ H Q E (g as h)
def gBody (N : Nat) (b : MS) : MF := fun as h => match b (as.map some ++ List.replicate (N - as.length) none) h with
  | .nx _ h' => .ok .non h'
  | .rt v h' => .ok v h'
  | .er x h' => .er x h'
  | _ => .bad
section
variable {P : Program} {w : World} {K : PySem.W.Frag} {mg : Str → Option Value} {base : Heap} {T : Nat → Addr} {k : Nat} {f : Addr}
theorem RVs.get {Z : Zt} {ρ : List Addr} {H : Hp} : ∀ {xs : List MV} {vs : List V}, RVs Z ρ H xs vs → ∀ {i : Nat} {x : MV}, xs[i]? = some x → ∃ v, vs[i]? = some v ∧ RV Z ρ H x v
  | _, _, .nil, i, x, h => by simp at h
  | _, _, .cons (v := v) a r, 0, x, h => by
    simp at h; subst h
    exact ⟨v, rfl, a⟩
  | _, _, .cons a r, i + 1, x, h => by
    simp at h
    obtain ⟨v, h1, h2⟩ := RVs.get r h
    exact ⟨v, by simpa using h1, h2⟩
theorem start_M {Z : Zt} {ρ : List Addr} {h : MH} {H : Hp} {N : List Str} {as : List MV} {vs : List V} (r : HR Z ρ h H) (a : RVs Z ρ H as vs) :
    SR Z ρ (as.map some ++ List.replicate (N.length - as.length) none) h (L2.start N vs) H := by
  have hl := RVs.length a
  refine ⟨r, by unfold L2.start; simp [hl], fun i x e => ?_⟩
  unfold L2.start
  by_cases hi : i < as.length
  · rw [List.getElem?_append_left (by simpa using hi), List.getElem?_map] at e
    rw [List.getElem?_append_left (by simpa [← hl] using hi), List.getElem?_map]
    cases k : as[i]? with
    | none => rw [k] at e; cases e
    | some y =>
      rw [k] at e
      cases e
      obtain ⟨v, h1, h2⟩ := RVs.get a k
      exact ⟨v, by rw [h1]; rfl, h2⟩
  · rw [List.getElem?_append_right (by simpa using hi), List.getElem?_replicate] at e
    split at e <;> cases e
theorem body_M {Z : Zt} {ρ : List Addr} {H : Hp} {N : Nat} {Q : VK} {E : XK} {as : List MV} {h : MH} {gs : MS} (p : Post Z (rV Z) ρ H Q E (gBody N gs as h)) :
    PostS Z ρ H { nx := fun _ H' => Q .non H', rt := Q } E (gs (as.map some ++ List.replicate (N - as.length) none) h) := by
  unfold gBody at p
  generalize gs (as.map some ++ List.replicate (N - as.length) none) h = o at p ⊢
  cases o with
  | bad => exact p
  | nx m' h' => exact fun ρ' H' σ' e s => p ρ' H' .non e s.hr .non
  | rt v h' => exact p
  | bk _ _ => exact p.elim
  | ct _ _ => exact p.elim
  | er x h' => exact p
theorem pass_M {N : List Str} {qual : Str} {scope : Scope} {cdv : Value} {A : Around} {outer : List Env} {s : Shared} {H : Hp} {E : XK} :
    Passes (L2.CX P w) (cxOf (L2.CX P w) P w K mg base N qual scope f cdv A outer s H E) E :=
  passes_call (X := cxOf (L2.CX P w) P w K mg base N qual scope f cdv A outer s H E) (W := fun c d _ H' => E c d H') (takes_of rfl rfl rfl rfl) (fun _ _ _ _ z => z)
theorem own_M {N : List Str} {qual : Str} {scope : Scope} {cdv : Value} {A : Around} {outer : List Env} {s : Shared} {H : Hp} {E : XK} :
    PassesOwn (model (cxOf (L2.CX P w) P w K mg base N qual scope f cdv A outer s H E).prog (cxOf (L2.CX P w) P w K mg base N qual scope f cdv A outer s H E).w) (cxOf (L2.CX P w) P w K mg base N qual scope f cdv A outer s H E).A
      (cxOf (L2.CX P w) P w K mg base N qual scope f cdv A outer s H E).env (cxOf (L2.CX P w) P w K mg base N qual scope f cdv A outer s H E).xe :=
  passes_of rfl
structure FM (P : Program) (w : World) (K : PySem.W.Frag) (mg : Str → Option Value) (base : Heap) (T : Nat → Addr) (k : Nat) (f : Addr) (n : Nat) (dm : List MV) (g : MF) : Prop where
  ex : ∃ fd ps ds dvs, ps.length = n ∧ FnG P w K mg base (L2.CX P w) k f fd ps (spM ⟨K, T⟩ ps.length g) ∧ PySem.W.keepIn K (.ref f) = true ∧ Binds K fd ps ds ∧ Vals dvs ds ∧ (∀ ρ H, RVs ⟨K, T⟩ ρ H dm dvs)
end
def gCall (g : MF) (dm : List MV) (n : Nat) (a : MA) : ME := fun m h => (a m h).bind fun as h1 => if as.length + dm.length = n then g (as ++ dm) h1 else .bad
def gMeth (c : Nat) (f : Nat) (g : MF) (dm : List MV) (n : Nat) (o : ME) (a : MA) : ME := fun m h => (o m h).bind fun x h1 => match x with
  | .ref i => match h1.get i with
    | some (.ins c' fs) => if c' = c ∧ (fs.lookup f).isNone = true then (a m h1).bind fun as h2 => if as.length + dm.length + 1 = n then g (x :: (as ++ dm)) h2 else .bad else .bad
    | _ => .bad
  | _ => .bad
def gMake (c : Nat) (g : MF) (dm : List MV) (n : Nat) (a : MA) : ME := fun m h => (a m h).bind fun as h1 => if as.length + dm.length + 1 = n then
  (g (.ref h1.n :: (as ++ dm)) (h1.push (.ins c []))).bind fun r h2 => match r with
    | .non => .ok (.ref h1.n) h2
    | _ => .bad
  else .bad
theorem RVs.app {Z : Zt} {ρ : List Addr} {H : Hp} {ys : List MV} {ws : List V} (b : RVs Z ρ H ys ws) : ∀ {xs : List MV} {vs : List V}, RVs Z ρ H xs vs → RVs Z ρ H (xs ++ ys) (vs ++ ws)
  | _, _, .nil => b
  | _, _, .cons a r => .cons a (RVs.app b r)
theorem RKs.lookup {Z : Zt} {ρ : List Addr} {H : Hp} {xs : List (Nat × MV)} {vs : List (Str × V)} (r : RKs nm Z ρ H xs vs) (f : Nat) :
    (xs.lookup f = none ∧ vs.lookup (nm f) = none) ∨ ∃ x v, xs.lookup f = some x ∧ vs.lookup (nm f) = some v ∧ RV Z ρ H x v := by
  induction r with
  | nil => exact .inl ⟨rfl, rfl⟩
  | @cons k x v xs vs a r ih =>
    rw [List.lookup_cons, List.lookup_cons]
    by_cases e : f = k
    · subst e
      simp only [beq_self_eq_true]
      exact .inr ⟨x, v, rfl, rfl, a⟩
    · rw [beq_false_of_ne e, beq_false_of_ne (fun z => e (nm_inj z))]
      exact ih
section
variable {X : Cx} {T : Nat → Addr} {E : XK} {k : Nat} {f : Addr} {dm : List MV} {g : MF} {n : Nat} {x me : Str} {mi : Nat} {p pos apos : Pos} {e o : Expr} {es : List Expr} {ga : MA} {go : ME}
theorem pe_methG {CX : CXT} {fd : FuncData} {ps : List Str} {sp : Sp} {dvs : List V} {ds : List Value} {C : Addr} {te : TE} {t : TA} {pl : Sem Bool} (hs : JB.Still X.A)
    (he : PE X o te) (c : Cls X.K C) (hm : Meth X.K C me f) (F : FnG X.prog X.w X.K X.mg X.base CX k f fd ps sp) (hr : Room k X.A)
    (hb : Binds X.K fd ps ds) (hd : Vals dvs ds) (hx : Passes CX X E) (ha : PA X (e :: es) t)
    (hst : starEach (e :: es) X.env = (false, eval e X.env) :: starEach es X.env := by rfl)
    (hpl : (backTo pos (starEach es X.env)).any (·.1) = false := by rfl)
    (ht : eval (.Call (.Attribute o me apos) (e :: es) [] pos) X.env = (do
      let ov ← eval o X.env
      standAt apos.atName
      let (f, first) ← holding [ov] (getMethod ov me pl)
      callWith pos f first (backTo pos (starEach (e :: es) X.env)) (backToKw pos (keywordEach [] X.env))) := by rfl) :
    PE X (.Call (.Attribute o me apos) (e :: es) [] pos) (tMeth C me sp dvs E te t) :=
  ⟨fun pins s σ H Q I h => PySem.W.methodCall_KW (pl := pl)
    (thn (he.run pins s σ H _ I h) fun u s1 ⟨y, H1, I1, ry, a, dx, fs, ey, ea, l, q⟩ => by
      subst ey
      obtain rfl : u = Value.ref a := ry
      exact getmeth_ok I1 ea c hm l (PySem.W.callWith_K (first := [.ref a]) (h₀ := X.base) I.ok.mod.kin hm.kp
        (thn (ha.run pos pins s1 σ H1 _ I1 q) fun us s2 ⟨vs, H2, I2, r, q2⟩ =>
          ⟨I2.kIn, run_g (us := .ref a :: us) (vs := .ref a :: vs) hs F hr hb hd hx I2 (.cons rfl r) q2⟩) hst hpl)) ht⟩
theorem pe_meth0G {CX : CXT} {fd : FuncData} {ps : List Str} {sp : Sp} {dvs : List V} {ds : List Value} {C : Addr} {te : TE} {pl : Sem Bool} (hs : JB.Still X.A)
    (he : PE X o te) (c : Cls X.K C) (hm : Meth X.K C me f) (F : FnG X.prog X.w X.K X.mg X.base CX k f fd ps sp) (hr : Room k X.A)
    (hb : Binds X.K fd ps ds) (hd : Vals dvs ds) (hx : Passes CX X E)
    (ht : eval (.Call (.Attribute o me apos) [] [] pos) X.env = (do
      let ov ← eval o X.env
      standAt apos.atName
      let (f, first) ← holding [ov] (getMethod ov me pl)
      callWith pos f first (backTo pos (starEach [] X.env)) (backToKw pos (keywordEach [] X.env))) := by rfl) :
    PE X (.Call (.Attribute o me apos) [] [] pos) (tMeth C me sp dvs E te tNil) :=
  ⟨fun pins s σ H Q I h => PySem.W.methodCall_KW (pl := pl)
    (thn (he.run pins s σ H _ I h) fun u s1 ⟨y, H1, I1, ry, a, dx, fs, ey, ea, l, q⟩ => by
      subst ey
      obtain rfl : u = Value.ref a := ry
      exact getmeth_ok I1 ea c hm l (PySem.W.callWith_K0 (first := [.ref a]) I1.kIn hm.kp
        (run_g (us := [.ref a]) (vs := [.ref a]) hs F hr hb hd hx I1 (.cons rfl .nil) q))) ht⟩
theorem run_makeG {CX : CXT} {fd : FuncData} {ps : List Str} {sp : Sp} {dvs : List V} {ds : List Value} {C : Addr} {pins : List (Addr × Obj)} {σ : L2.St} {H : Hp} {s : Shared} {Q : VK} {us : List Value} {vs : List V}
    (hs : JB.Still X.A) (M : Mk X.K C f) (F : FnG X.prog X.w X.K X.mg X.base CX k f fd ps sp) (hr : Room (k + 1) X.A) (hb : Binds X.K fd ps ds) (hd : Vals dvs ds)
    (hx : Passes CX X E) (I : Inv X pins σ H s) (r : Vals vs us)
    (h : ∀ y dx, H y = none → H dx = none → dx ≠ y → sp (.ref y :: (vs ++ dvs)) (upd (upd H dx (.own y)) y (.ins C dx [])) (fun v H2 => v = .non ∧ Q (.ref y) H2) E) :
    wpAny (model X.prog X.w) X.A (call (.ref C) us) (EP X pins σ Q) X.xe s := by
  have hq := h (s.heap.objs.size + 1) s.heap.objs.size (I.hok.fresh (Nat.le_succ _))
    (I.hok.fresh (Nat.le_refl _)) (Nat.ne_of_lt (Nat.lt_succ_self _))
  have I2 := Inv.made (C := C) I
  have rr : Vals (V.ref (s.heap.objs.size + 1) :: (vs ++ dvs)) (Value.ref (s.heap.objs.size + 1) :: (us ++ ds)) := .cons rfl (r.append hd)
  have hl : (Value.ref (s.heap.objs.size + 1) :: us ++ ds).length = ps.length := (rr.length).symm.trans (F.many _ _ _ _ hq)
  refine wpAny_call (make_map (f := f) I.kIn M.makes M.init (beq_iff_eq.mp M.fn)
    (codeAny_mono (F.goes _ X.stack _ _ ⟨Value.ref (s.heap.objs.size + 1) :: us, []⟩ (Value.ref (s.heap.objs.size + 1) :: (us ++ ds)) _ _ E
      (still_make hs) (hr.make C us []) (I2.env0.make C us []) (hb _ (Value.ref (s.heap.objs.size + 1) :: us) I2.kIn hl) rr hq) fun z s' hq' => ?_))
  cases z with
  | error er => exact hx pins σ _ _ er s' I2 hq'
  | ok fl =>
    cases fl with
    | ret u =>
      obtain ⟨v, H', I3, rv, ev, q3⟩ := I2.after hq'
      subst ev
      exact ⟨rv, ⟨V.ref (s.heap.objs.size + 1), H', I3, rfl, q3⟩⟩
    | _ => exact False.elim hq'
theorem pe_makeG {CX : CXT} {fd : FuncData} {ps : List Str} {sp : Sp} {dvs : List V} {ds : List Value} {C : Addr} {t : TA} (hs : JB.Still X.A)
    (M : Mk X.K C f) (F : FnG X.prog X.w X.K X.mg X.base CX k f fd ps sp) (hr : Room (k + 1) X.A) (hg : Gl X x) (hm : X.mg x = some (.ref C))
    (hb : Binds X.K fd ps ds) (hd : Vals dvs ds) (hx : Passes CX X E) (ha : PA X (e :: es) t) (hdb : (x == ("__debug__" : Str)) = false := by decide)
    (he : starEach (e :: es) X.env = (false, eval e X.env) :: starEach es X.env := by rfl) (hpl : (backTo pos (starEach es X.env)).any (·.1) = false := by rfl) :
    PE X (.Call (.Name x p) (e :: es) [] pos) (tMake C sp dvs E t) :=
  ⟨fun pins s σ H Q I h => wpAny_Call_Name_kw (ld_glob I hg hm (PySem.W.callWith_K (h₀ := X.base) I.ok.mod.kin M.kp
    (thn (ha.run pos pins s σ H _ I h) fun us s1 ⟨vs, H1, I1, r, q⟩ => ⟨I1.kIn, run_makeG hs M F hr hb hd hx I1 r q⟩) he hpl) hdb)⟩
theorem go_sp {ρ : List Addr} {h : MH} {H : Hp} {Q : VK} {as : List MV} {vs dvs : List V} {ps : List Str} (r : HR ⟨X.K, T⟩ ρ h H) (a : RVs ⟨X.K, T⟩ ρ H as vs) (d : RVs ⟨X.K, T⟩ ρ H dm dvs)
    (hn : as.length + dm.length = ps.length) (q : Post ⟨X.K, T⟩ (rV ⟨X.K, T⟩) ρ H Q E (g (as ++ dm) h)) : spM ⟨X.K, T⟩ ps.length g (vs ++ dvs) H Q E :=
  ⟨ρ, h, as ++ dm, r, RVs.app d a, by rw [List.length_append, ← RVs.length a, ← RVs.length d]; exact hn, q⟩
theorem je_call (F : FM X.prog X.w X.K X.mg X.base T k f n dm g) (hs : JB.Still X.A) (hr : Room k X.A) (hx : Passes (L2.CX X.prog X.w) X E) (hg : Gl X x) (hm : X.mg x = some (.ref f)) (ha : JA X T E (e :: es) ga)
    (hdb : (x == ("__debug__" : Str)) = false := by decide) (he : starEach (e :: es) X.env = (false, eval e X.env) :: starEach es X.env := by rfl) (hpl : (backTo pos (starEach es X.env)).any (·.1) = false := by rfl) :
    JE X T E (.Call (.Name x p) (e :: es) [] pos) (gCall g dm n ga) := by
  obtain ⟨fd, ps, ds, dvs, rfl, F, hk, hb, hd, hdm⟩ := F.ex
  refine PE.le (pe_callG hs F hr hg hm hk hb hd hx ha hdb he hpl) fun σ H Q ⟨ρ, m, h, s, q⟩ => stepA s q fun ρ1 h1 H1 xs vs s1 e1 r1 q1 => ?_
  by_cases hn : xs.length + dm.length = ps.length
  · rw [if_pos hn] at q1
    exact go_sp s1.hr r1 (hdm _ _) hn q1
  · rw [if_neg hn] at q1
    exact q1.elim
theorem meth_M {ρ : List Addr} {m : ML} {h : MH} {H : Hp} {σ : L2.St} {Q : VK} {dvs : List V} {ps : List Str} {c : Nat} {t : TA} (hmi : me = nm mi) (hd : ∀ ρ H, RVs ⟨X.K, T⟩ ρ H dm dvs) (ht : ∀ σ H Q, tA ⟨X.K, T⟩ E ga σ H Q → t σ H Q)
    (s : SR ⟨X.K, T⟩ ρ m h σ H) (q : Post ⟨X.K, T⟩ (rV ⟨X.K, T⟩) ρ H Q E (gMeth c mi g dm ps.length go ga m h)) : tMeth (T c) me (spM ⟨X.K, T⟩ ps.length g) dvs E (tE ⟨X.K, T⟩ E go) t σ H Q := by
  refine stepE s q fun ρ1 h1 H1 y v s1 e1 r1 q1 => ?_
  cases r1 with
  | @ref i a hi =>
    have q2 : Post _ (rV ⟨X.K, T⟩) ρ1 H1 Q E (match h1.get i with
      | some (.ins c' fs) => if c' = c ∧ (fs.lookup mi).isNone = true then (ga m h1).bind fun as h2 => if as.length + dm.length + 1 = ps.length then g (.ref i :: (as ++ dm)) h2 else .bad else .bad
      | _ => .bad) := q1
    cases k : h1.get i with
    | none => rw [k] at q2; exact q2.elim
    | some ob =>
      rw [k] at q2
      obtain ⟨a', ha', ho⟩ := s1.hr.all i ob k
      rw [hi] at ha'
      cases ha'
      cases ob with
      | ins c' fs =>
        obtain ⟨dx, vs, h3, h4⟩ := ho
        dsimp only at q2
        by_cases z : c' = c ∧ (fs.lookup mi).isNone = true
        · obtain ⟨rfl, z⟩ := z
          rw [if_pos ⟨rfl, z⟩] at q2
          refine ⟨a, dx, vs, rfl, h3, ?_, ht _ _ _ (stepA s1 q2 fun ρ2 h2 H2 xs ws s2 e2 r2 q3 => ?_)⟩
          · rw [hmi]; rcases h4.lookup mi with ⟨_, w⟩ | ⟨_, _, w, _⟩
            · exact w
            · rw [w] at z; cases z
          · by_cases hn : xs.length + dm.length + 1 = ps.length
            · rw [if_pos hn] at q3
              exact go_sp (as := .ref i :: xs) (vs := .ref a :: ws) s2.hr (.cons (.ref (e2.at hi)) r2) (hd _ _) (by simp; omega) q3
            · rw [if_neg hn] at q3
              exact q3.elim
        · rw [if_neg z] at q2
          exact q2.elim
      | _ => exact q2.elim
  | _ => exact q1.elim
theorem je_meth {c : Nat} {pl : Sem Bool} (F : FM X.prog X.w X.K X.mg X.base T k f n dm g) (cl : Cls X.K (T c)) (mt : Meth X.K (T c) me f) (hmi : me = nm mi) (hs : JB.Still X.A) (hr : Room k X.A) (hx : Passes (L2.CX X.prog X.w) X E)
    (ho : JE X T E o go) (ha : JA X T E (e :: es) ga)
    (hst : starEach (e :: es) X.env = (false, eval e X.env) :: starEach es X.env := by rfl)
    (hpl : (backTo pos (starEach es X.env)).any (·.1) = false := by rfl)
    (ht : eval (.Call (.Attribute o me apos) (e :: es) [] pos) X.env = (do
      let ov ← eval o X.env
      standAt apos.atName
      let (f, first) ← holding [ov] (getMethod ov me pl)
      callWith pos f first (backTo pos (starEach (e :: es) X.env)) (backToKw pos (keywordEach [] X.env))) := by rfl) :
    JE X T E (.Call (.Attribute o me apos) (e :: es) [] pos) (gMeth c mi g dm n go ga) := by
  obtain ⟨fd, ps, ds, dvs, rfl, F, hk, hb, hd, hdm⟩ := F.ex
  exact PE.le (pe_methG hs ho cl mt F hr hb hd hx ha hst hpl ht) fun σ H Q ⟨ρ, m, h, s, q⟩ => meth_M hmi hdm (fun _ _ _ z => z) s q
theorem je_meth0 {c : Nat} {pl : Sem Bool} (F : FM X.prog X.w X.K X.mg X.base T k f n dm g) (cl : Cls X.K (T c)) (mt : Meth X.K (T c) me f) (hmi : me = nm mi) (hs : JB.Still X.A) (hr : Room k X.A) (hx : Passes (L2.CX X.prog X.w) X E)
    (ho : JE X T E o go)
    (ht : eval (.Call (.Attribute o me apos) [] [] pos) X.env = (do
      let ov ← eval o X.env
      standAt apos.atName
      let (f, first) ← holding [ov] (getMethod ov me pl)
      callWith pos f first (backTo pos (starEach [] X.env)) (backToKw pos (keywordEach [] X.env))) := by rfl) :
    JE X T E (.Call (.Attribute o me apos) [] [] pos) (gMeth c mi g dm n go gNil) := by
  obtain ⟨fd, ps, ds, dvs, rfl, F, hk, hb, hd, hdm⟩ := F.ex
  exact PE.le (pe_meth0G hs ho cl mt F hr hb hd hx ht) fun σ H Q ⟨ρ, m, h, s, q⟩ => meth_M hmi hdm (fun σ H Q ⟨ρ, m, h, s, q⟩ => q.ok s.hr .nil) s q
theorem make_M {ρ : List Addr} {h : MH} {H : Hp} {Q : VK} {dvs : List V} {ps : List Str} {c : Nat} {as : List MV} {vs : List V} (hd : ∀ ρ H, RVs ⟨X.K, T⟩ ρ H dm dvs)
    (s : HR ⟨X.K, T⟩ ρ h H) (r : RVs ⟨X.K, T⟩ ρ H as vs) (hn : as.length + dm.length + 1 = ps.length)
    (q : Post ⟨X.K, T⟩ (rV ⟨X.K, T⟩) ρ H Q E ((g (.ref h.n :: (as ++ dm)) (h.push (.ins c []))).bind fun r h2 => match r with
      | .non => .ok (.ref h.n) h2
      | _ => .bad)) :
    ∀ y dx, H y = none → H dx = none → dx ≠ y → spM ⟨X.K, T⟩ ps.length g (.ref y :: (vs ++ dvs)) (upd (upd H dx (.own y)) y (.ins (T c) dx [])) (fun v H2 => v = .non ∧ Q (.ref y) H2) E := by
  intro y dx hy hdx hne
  have hy' : upd H dx (.own y) y = none := by rw [upd_ne (Ne.symm hne)]; exact hy
  have e1 : Ext ρ H ρ (upd H dx (.own y)) := Ext.still1 hdx
  have e2 : Ext ρ (upd H dx (.own y)) (ρ ++ [y]) (upd (upd H dx (.own y)) y (.ins (T c) dx [])) := Ext.push hy'
  have s2 : HR ⟨X.K, T⟩ (ρ ++ [y]) (h.push (.ins c [])) (upd (upd H dx (.own y)) y (.ins (T c) dx [])) := (s.still1 hdx).push hy' ⟨dx, [], upd_same, .nil⟩
  have at_ : (ρ ++ [y])[h.n]? = some y := by rw [← s.len]; simp
  refine go_sp (as := .ref h.n :: as) (vs := .ref y :: vs) s2 (.cons (.ref at_) (r.ext (e1.trans e2))) (hd _ _) (by simp; omega) ?_
  refine (Post.bind (R := rV ⟨X.K, T⟩) (q.ext (e1.trans e2))).mono fun v H3 ⟨ρ3, h3, a, e3, r3, ra, q3⟩ => ?_
  cases ra with
  | non => exact ⟨rfl, q3.ok r3 (.ref (e3.at at_))⟩
  | _ => exact q3.elim
theorem je_make {c : Nat} (F : FM X.prog X.w X.K X.mg X.base T k f n dm g) (M : Mk X.K (T c) f) (hs : JB.Still X.A) (hr : Room (k + 1) X.A) (hx : Passes (L2.CX X.prog X.w) X E) (hg : Gl X x) (hm : X.mg x = some (.ref (T c))) (ha : JA X T E (e :: es) ga)
    (hdb : (x == ("__debug__" : Str)) = false := by decide) (he : starEach (e :: es) X.env = (false, eval e X.env) :: starEach es X.env := by rfl) (hpl : (backTo pos (starEach es X.env)).any (·.1) = false := by rfl) :
    JE X T E (.Call (.Name x p) (e :: es) [] pos) (gMake c g dm n ga) := by
  obtain ⟨fd, ps, ds, dvs, rfl, F, hk, hb, hd, hdm⟩ := F.ex
  refine PE.le (pe_makeG hs M F hr hg hm hb hd hx ha hdb he hpl) fun σ H Q ⟨ρ, m, h, s, q⟩ => stepA s q fun ρ1 h1 H1 xs vs s1 e1 r1 q1 => ?_
  by_cases hn : xs.length + dm.length + 1 = ps.length
  · rw [if_pos hn] at q1
    exact make_M hdm s1.hr r1 hn q1
  · rw [if_neg hn] at q1
    exact q1.elim
end
end MI
set_option Elab.async false
set_option linter.all false
set_option maxRecDepth 100000
set_option maxHeartbeats 4000000
namespace MI
open PySem PySem.Spec PyProof.Rows L2 JB
section
variable {Z : Zt} {ρ : List Addr} {h : MH} {H : Hp} {i : Nat} {a : Addr}
theorem HR.obj (R : HR Z ρ h H) {o : MO} (hi : h.get i = some o) (ha : ρ[i]? = some a) : OR Z ρ H a o := by
  obtain ⟨b, h1, h2⟩ := R.all i o hi
  rw [ha] at h1
  cases h1
  exact h2
theorem HR.grow (R : HR Z ρ h H) {o : MO} (hi : h.get i = some o) (ha : ρ[i]? = some a) (u : HO) (hop : o.opn = true := by rfl) : Ext ρ H ρ (upd H a u) :=
  Ext.set (List.mem_of_getElem? ha) fun v e => (R.obj hi ha).notStill e hop
end
def leq : List Nat → List Nat → Bool
  | [], [] => true
  | a :: l, b :: r => if a = b then leq l r else false
  | _, _ => false
theorem leq_iff : ∀ {l r : List Nat}, leq l r = true ↔ l = r
  | [], [] => by simp [leq]
  | a :: l, b :: r => by
    unfold leq
    by_cases e : a = b
    · subst e; simp [leq_iff (l := l) (r := r)]
    · simp [e]
  | [], _ :: _ => by simp [leq]
  | _ :: _, [] => by simp [leq]
def mEq : MV → MV → Option Bool
  | .non, .non => some true
  | .int i, .int j => some (decide (i = j))
  | .bl i, .bl j => some (decide (i = j))
  | .str s, .str t => some (leq s t)
  | .non, .int _ => some false
  | .int _, .non => some false
  | .non, .bl _ => some false
  | .bl _, .non => some false
  | .non, .str _ => some false
  | .str _, .non => some false
  | .int _, .str _ => some false
  | .str _, .int _ => some false
  | .bl _, .str _ => some false
  | .str _, .bl _ => some false
  | _, _ => none
theorem str_eq {s t : List Nat} : decide (V.str ⟨s.toArray⟩ = V.str ⟨t.toArray⟩) = leq s t := by
  rw [Bool.eq_iff_iff, leq_iff]
  simp
theorem mEq_ok {Z : Zt} {ρ : List Addr} {H : Hp} {x y : MV} {v w : V} {b : Bool} (r : RV Z ρ H x v) (q : RV Z ρ H y w) (e : mEq x y = some b) : scal v w = true ∧ decide (v = w) = b := by
  cases r <;> cases q <;> first
    | (cases e; done)
    | (cases e; exact ⟨rfl, str_eq⟩)
    | (cases e; exact ⟨rfl, by simp⟩)
    | (cases e; exact ⟨rfl, rfl⟩)
def oB (o : Option Bool) (h : MH) : Out MV := match o with
  | some b => .ok (.bl b) h
  | none => .bad
def mEqV (x y : MV) (h : MH) : Out MV := oB (mEq x y) h
def mNeV (x y : MV) (h : MH) : Out MV := oB ((mEq x y).map (!·)) h
section
variable {Z : Zt} {E : XK}
theorem om_eq : OpM Z E mEqV rEq := fun ρ h H x y v w Q R r q p => by
  unfold mEqV oB at p
  cases e : mEq x y with
  | none => rw [e] at p; exact p.elim
  | some b =>
    rw [e] at p
    obtain ⟨h1, h2⟩ := mEq_ok r q e
    exact ⟨h1, by rw [h2]; exact p.ok R (.bl b)⟩
theorem om_ne : OpM Z E mNeV rNe := fun ρ h H x y v w Q R r q p => by
  unfold mNeV oB at p
  cases e : mEq x y with
  | none => rw [e] at p; exact p.elim
  | some b =>
    rw [e] at p
    obtain ⟨h1, h2⟩ := mEq_ok r q e
    exact ⟨h1, by rw [h2]; exact p.ok R (.bl _)⟩
def mI (g : Int → Int → MV) (x y : MV) (h : MH) : Out MV := match x, y with
  | .int i, .int j => .ok (g i j) h
  | _, _ => .bad
def mIc (c : Int → Int → Bool) (g : Int → Int → MV) (x y : MV) (h : MH) : Out MV := match x, y with
  | .int i, .int j => if c i j = true then .ok (g i j) h else .bad
  | _, _ => .bad
theorem om_I {g : Int → Int → MV} {g' : Int → Int → V} (k : ∀ i j ρ H, RV Z ρ H (g i j) (g' i j)) : OpM Z E (mI g) (rI0 g') := fun ρ h H x y v w Q R r q p => by
  cases r with
  | int i =>
    cases q with
    | int j => exact ⟨i, j, rfl, rfl, p.ok R (k i j ρ H)⟩
    | _ => exact p.elim
  | _ => exact p.elim
theorem om_Ic {c : Int → Int → Bool} {C : Int → Int → Prop} {g : Int → Int → MV} {g' : Int → Int → V} (hc : ∀ i j, c i j = true → C i j) (k : ∀ i j ρ H, RV Z ρ H (g i j) (g' i j)) : OpM Z E (mIc c g) (L2.rI C g') := fun ρ h H x y v w Q R r q p => by
  cases r with
  | int i =>
    cases q with
    | int j =>
      have p' : Post Z (rV Z) ρ H Q E (if c i j = true then .ok (g i j) h else .bad) := p
      by_cases e : c i j = true
      · rw [if_pos e] at p'
        exact ⟨i, j, rfl, rfl, hc i j e, p'.ok R (k i j ρ H)⟩
      · rw [if_neg e] at p'
        exact p'.elim
    | _ => exact p.elim
  | _ => exact p.elim
def mSub := mI fun i j => .int (i - j)
def cMul (i j : Int) : Bool := decide (i.natAbs < 18446744073709551616) || decide (j.natAbs < 18446744073709551616)
def mMul := mIc cMul fun i j => .int (i * j)
def mMod := mIc (fun _ j => decide (0 < j)) fun i j => .int (i % j)
def mDiv := mIc (fun _ j => decide (0 < j) && decide (j < 1073741824)) fun i j => .int (i / j)
def mPow := mIc (fun i j => decide (0 ≤ j) && decide (j ≤ 1000000) && decide (i.natAbs < 18446744073709551616)) fun i j => .int (i ^ j.toNat)
def mLtI := mI fun i j => .bl (decide (i < j))
def mLeI := mI fun i j => .bl (decide (i ≤ j))
def mGtI := mI fun i j => .bl (decide (j < i))
def mGeI := mI fun i j => .bl (decide (j ≤ i))
theorem om_sub : OpM Z E mSub (rI0 fun i j => .int (i - j)) := om_I fun _ _ _ _ => .int _
theorem om_mul : OpM Z E mMul (L2.rI CMul fun i j => .int (i * j)) := om_Ic (fun i j e => by
  unfold cMul at e
  simp at e
  unfold CMul
  omega) fun _ _ _ _ => .int _
theorem om_mod : OpM Z E mMod (L2.rI (fun _ j => 0 < j) fun i j => .int (i % j)) := om_Ic (fun i j e => by simpa using e) fun _ _ _ _ => .int _
theorem om_div : OpM Z E mDiv (L2.rI CDiv fun i j => .int (i / j)) := om_Ic (fun i j e => by simpa [CDiv] using e) fun _ _ _ _ => .int _
theorem om_pow : OpM Z E mPow (L2.rI CPow fun i j => .int (i ^ j.toNat)) := om_Ic (fun i j e => by
  simp at e
  exact ⟨e.1.1, e.1.2, by have : (2 : Nat) ^ 64 = 18446744073709551616 := by decide
                          omega⟩) fun _ _ _ _ => .int _
theorem om_lt : OpM Z E mLtI (rI0 fun i j => .bl (decide (i < j))) := om_I fun _ _ _ _ => .bl _
theorem om_le : OpM Z E mLeI (rI0 fun i j => .bl (decide (i ≤ j))) := om_I fun _ _ _ _ => .bl _
theorem om_gt : OpM Z E mGtI (rI0 fun i j => .bl (decide (j < i))) := om_I fun _ _ _ _ => .bl _
theorem om_ge : OpM Z E mGeI (rI0 fun i j => .bl (decide (j ≤ i))) := om_I fun _ _ _ _ => .bl _
def mAdd (x y : MV) (h : MH) : Out MV := match x, y with
  | .int i, .int j => .ok (.int (i + j)) h
  | .str s, .str t => if s.length + t.length ≤ 1000000 then .ok (.str (s ++ t)) h else .bad
  | .tup xs, .tup ys => if xs.length + ys.length ≤ 1000000 ∧ xs.isEmpty = false then .ok (.tup (xs ++ ys)) h else .bad
  | .ref i, .ref j => match h.get i, h.get j with
    | some (.lst xs), some (.lst ys) => if xs.length + ys.length ≤ 1000000 then .ok (.ref h.n) (h.push (.lst (xs ++ ys))) else .bad
    | _, _ => .bad
  | _, _ => .bad
abbrev rAddS : R2 := fun x y H Q => ∃ i j, x = .str i ∧ y = .str j ∧ i.length + j.length ≤ sizeLine ∧ Q (.str (i ++ j)) H
abbrev rAddM (K : PySem.W.Frag) : R2 := fun x y H Q => (rI0 (fun i j => .int (i + j)) x y H Q ∨ rAddS x y H Q) ∨ (rCatT K x y H Q ∨ rCat x y H Q)
theorem str_app {s t : List Nat} : (⟨s.toArray⟩ : Str) ++ ⟨t.toArray⟩ = ⟨(s ++ t).toArray⟩ := by
  show Str.mk _ = Str.mk _
  simp
theorem RVs.nil_iff {ρ : List Addr} {H : Hp} {xs : List MV} {vs : List V} (r : RVs Z ρ H xs vs) : vs = [] ↔ xs = [] := by
  cases r <;> simp
theorem om_add : OpM Z E mAdd (rAddM Z.K) := fun ρ h H x y v w Q R r q p => by
  cases r with
  | int i =>
    cases q with
    | int j => exact .inl (.inl ⟨i, j, rfl, rfl, p.ok R (.int _)⟩)
    | _ => exact p.elim
  | str s =>
    cases q with
    | str t =>
      have p' : Post Z (rV Z) ρ H Q E (if s.length + t.length ≤ 1000000 then .ok (.str (s ++ t)) h else .bad) := p
      by_cases e : s.length + t.length ≤ 1000000
      · rw [if_pos e] at p'
        refine .inl (.inr ⟨_, _, rfl, rfl, ?_, ?_⟩)
        · show s.toArray.size + t.toArray.size ≤ sizeLine
          rw [sizeLine_eq]; simp; omega
        · rw [str_app]
          exact p'.ok R (.str _)
      · rw [if_neg e] at p'
        exact p'.elim
    | _ => exact p.elim
  | tup h1 r1 =>
    cases q with
    | tup h2 r2 =>
      rename_i a xs vs b ys ws
      have p' : Post Z (rV Z) ρ H Q E (if xs.length + ys.length ≤ 1000000 ∧ xs.isEmpty = false then .ok (.tup (xs ++ ys)) h else .bad) := p
      by_cases e : xs.length + ys.length ≤ 1000000 ∧ xs.isEmpty = false
      · rw [if_pos e] at p'
        have ne : xs ≠ [] := by intro z; rw [z] at e; exact absurd e.2 (by decide)
        refine .inr (.inl ⟨a, b, vs, ws, rfl, rfl, .inl (.inl h1), .inl (.inl h2), fun z => ne (r1.nil_iff.mp z), by rw [← r1.length, ← r2.length, sizeLine_eq]; omega, fun z => ?_, fun z pp hp => ?_⟩)
        · rw [r2.nil_iff.mp z, List.append_nil] at p'
          exact p'.ok R (.tup h1 r1)
        · exact p' ρ _ _ (Ext.still1 hp) (R.still1 hp) (.tup upd_same (RVs.app (r2.ext (Ext.still1 hp)) (r1.ext (Ext.still1 hp))))
      · rw [if_neg e] at p'
        exact p'.elim
    | _ => exact p.elim
  | @ref i a hi =>
    cases q with
    | @ref j b hj =>
      have p' : Post Z (rV Z) ρ H Q E (match h.get i, h.get j with
        | some (.lst xs), some (.lst ys) => if xs.length + ys.length ≤ 1000000 then .ok (.ref h.n) (h.push (.lst (xs ++ ys))) else .bad
        | _, _ => .bad) := p
      cases k1 : h.get i with
      | none => rw [k1] at p'; exact p'.elim
      | some o1 =>
        cases k2 : h.get j with
        | none => rw [k1, k2] at p'; cases o1 <;> exact p'.elim
        | some o2 =>
          rw [k1, k2] at p'
          cases o1 with
          | lst xs =>
            cases o2 with
            | lst ys =>
              dsimp only at p'
              obtain ⟨vs, v1, v2⟩ := R.obj k1 hi
              obtain ⟨ws, w1, w2⟩ := R.obj k2 hj
              by_cases e : xs.length + ys.length ≤ 1000000
              · rw [if_pos e] at p'
                refine .inr (.inr ⟨a, b, vs, ws, rfl, rfl, v1, w1, by rw [← v2.length, ← w2.length, sizeLine_eq]; omega, fun pp hp => ?_⟩)
                refine p' (ρ ++ [pp]) _ _ (Ext.push hp) (R.push hp ⟨_, upd_same, RVs.app (w2.ext (Ext.push hp)) (v2.ext (Ext.push hp))⟩) (.ref ?_)
                rw [← R.len]; simp
              · rw [if_neg e] at p'
                exact p'.elim
            | _ => exact p'.elim
          | _ => exact p'.elim
    | _ => exact p.elim
  | _ => exact p.elim
end
section
variable {X : Cx} {T : Nat → Addr} {E : XK} {a b : Expr} {ga gb : ME} {pos : Pos}
theorem op_addM : OpR X (binaryOp .Add) (rAddM X.K) := (OpR.or (OpR.or op_add op_add_str) (OpR.or op_catT op_cat))
theorem je_add (ha : JE X T E a ga) (hb : JE X T E b gb) : JE X T E (.BinOp a .Add b pos) (gBin mAdd ga gb) := je_op op_addM om_add ha hb
theorem je_sub (ha : JE X T E a ga) (hb : JE X T E b gb) : JE X T E (.BinOp a .Sub b pos) (gBin mSub ga gb) := je_op op_sub om_sub ha hb
theorem je_mul (ha : JE X T E a ga) (hb : JE X T E b gb) : JE X T E (.BinOp a .Mult b pos) (gBin mMul ga gb) := je_op op_mul om_mul ha hb
theorem je_mod (ha : JE X T E a ga) (hb : JE X T E b gb) : JE X T E (.BinOp a .Mod b pos) (gBin mMod ga gb) := je_op op_mod om_mod ha hb
theorem je_div (ha : JE X T E a ga) (hb : JE X T E b gb) : JE X T E (.BinOp a .FloorDiv b pos) (gBin mDiv ga gb) := je_op op_fdiv om_div ha hb
theorem je_pow (ha : JE X T E a ga) (hb : JE X T E b gb) : JE X T E (.BinOp a .Pow b pos) (gBin mPow ga gb) := je_op op_pow om_pow ha hb
theorem jt_eq (ha : JE X T E a ga) (hb : JE X T E b gb) : JT X T E (.Compare a [.Eq] [b] pos) (gB (gBin mEqV ga gb)) := jt_cmp op_eq om_eq ha hb (nobehind _ (by decide) (by decide))
theorem jt_ne (ha : JE X T E a ga) (hb : JE X T E b gb) : JT X T E (.Compare a [.NotEq] [b] pos) (gB (gBin mNeV ga gb)) := jt_cmp op_ne om_ne ha hb (nobehind _ (by decide) (by decide))
theorem jt_lt (ha : JE X T E a ga) (hb : JE X T E b gb) : JT X T E (.Compare a [.Lt] [b] pos) (gB (gBin mLtI ga gb)) := jt_cmp op_lt om_lt ha hb (nobehind _ (by decide) (by decide))
theorem jt_le (ha : JE X T E a ga) (hb : JE X T E b gb) : JT X T E (.Compare a [.LtE] [b] pos) (gB (gBin mLeI ga gb)) := jt_cmp op_le om_le ha hb (nobehind _ (by decide) (by decide))
theorem jt_gt (ha : JE X T E a ga) (hb : JE X T E b gb) : JT X T E (.Compare a [.Gt] [b] pos) (gB (gBin mGtI ga gb)) := jt_cmp op_gt om_gt ha hb (nobehind _ (by decide) (by decide))
theorem jt_ge (ha : JE X T E a ga) (hb : JE X T E b gb) : JT X T E (.Compare a [.GtE] [b] pos) (gB (gBin mGeI ga gb)) := jt_cmp op_ge om_ge ha hb (nobehind _ (by decide) (by decide))
theorem je_ge (ha : JE X T E a ga) (hb : JE X T E b gb) : JE X T E (.Compare a [.GtE] [b] pos) (gBin mGeI ga gb) := je_cmp op_ge om_ge ha hb (nobehind _ (by decide) (by decide))
def mNeg (x : MV) (h : MH) : Out MV := match x with
  | .int i => .ok (.int (-i)) h
  | _ => .bad
theorem je_neg (ha : JE X T E a ga) : JE X T E (.UnaryOp .USub a pos) (gUn mNeg ga) :=
  PE.le (pe_un un_neg ha) fun σ H Q ⟨ρ, m, h, s, q⟩ => stepE s q fun ρ1 h1 H1 x v s1 e1 r1 q1 => by
    cases r1 with
    | int i => exact ⟨i, rfl, q1.ok s1.hr (.int _)⟩
    | _ => exact q1.elim
def mIsN (x : MV) : Bool := match x with
  | .non => true
  | _ => false
theorem isN_ok {Z : Zt} {ρ : List Addr} {H : Hp} {x : MV} {v : V} (r : RV Z ρ H x v) : decide (v = .non) = mIsN x := by cases r <;> rfl
def gIsN (a : ME) : ME := gUn (fun x h => .ok (.bl (mIsN x)) h) a
def gNotN (a : ME) : ME := gUn (fun x h => .ok (.bl (!mIsN x)) h) a
theorem le_isN : ∀ σ H Q, tE ⟨X.K, T⟩ E (gIsN ga) σ H Q → tIsN (tE ⟨X.K, T⟩ E ga) σ H Q := fun σ H Q ⟨ρ, m, h, s, q⟩ => stepE s q fun ρ1 h1 H1 x v s1 e1 r1 q1 => by
  rw [isN_ok r1]; exact q1.ok s1.hr (.bl _)
theorem le_notN : ∀ σ H Q, tE ⟨X.K, T⟩ E (gNotN ga) σ H Q → tNotN (tE ⟨X.K, T⟩ E ga) σ H Q := fun σ H Q ⟨ρ, m, h, s, q⟩ => stepE s q fun ρ1 h1 H1 x v s1 e1 r1 q1 => by
  rw [isN_ok r1]; exact q1.ok s1.hr (.bl _)
theorem le_B {t : TE} {g : ME} (k : ∀ σ H Q, tE ⟨X.K, T⟩ E g σ H Q → t σ H Q) : ∀ σ H Q, tT ⟨X.K, T⟩ E (gB g) σ H Q → tB t σ H Q := fun σ H Q ⟨ρ, m, h, s, q⟩ =>
  k _ _ _ (stepE s q fun ρ1 h1 H1 x v s1 e1 r1 q1 => by
    cases r1 with
    | bl b => exact ⟨b, rfl, q1.ok s1.hr rfl⟩
    | _ => exact q1.elim)
theorem jt_isN {j pos'} (ha : JE X T E a ga) : JT X T E (.Compare a [.Is] [.Constant .none j pos'] pos) (gB (gIsN ga)) := PT.le (pt_cmp (pc_isN ha)) (le_B le_isN)
theorem jt_notN {j pos'} (ha : JE X T E a ga) : JT X T E (.Compare a [.IsNot] [.Constant .none j pos'] pos) (gB (gNotN ga)) := PT.le (pt_cmp (pc_notN ha)) (le_B le_notN)
end
end MI
set_option Elab.async false
set_option linter.all false
set_option maxRecDepth 100000
set_option maxHeartbeats 4000000
namespace MI
open PySem PySem.Spec PyProof.Rows L2 JB
def mput (f : Nat) (v : MV) : List (Nat × MV) → List (Nat × MV)
  | [] => [(f, v)]
  | (g, x) :: r => if g = f then (g, v) :: r else (g, x) :: mput f v r
theorem RKs.put {Z : Zt} {ρ : List Addr} {H : Hp} {xs : List (Nat × MV)} {vs : List (Str × V)} (r : RKs nm Z ρ H xs vs) {f : Nat} {x : MV} {v : V} (q : RV Z ρ H x v) : RKs nm Z ρ H (mput f x xs) (putF (nm f) v vs) := by
  induction r with
  | nil => exact .cons q .nil
  | @cons k y w xs vs a r ih =>
    show RKs nm Z ρ H (if k = f then (k, x) :: xs else (k, y) :: mput f x xs) (if nm k = nm f then (nm k, v) :: vs else (nm k, w) :: putF (nm f) v vs)
    by_cases e : k = f
    · subst e; rw [if_pos rfl, if_pos rfl]; exact .cons q r
    · rw [if_neg e, if_neg (fun z => e (nm_inj z))]; exact .cons a ih
theorem RKs.length {κ κ' : Type} {f : κ → κ'} {Z : Zt} {ρ : List Addr} {H : Hp} {xs : List (κ × MV)} {vs : List (κ' × V)} (r : RKs f Z ρ H xs vs) : xs.length = vs.length := by
  induction r with
  | nil => rfl
  | cons _ _ ih => simp [ih]
def mFld (cs : List Nat) (f : Nat) (x : MV) (h : MH) : Out MV := match x with
  | .ref i => match h.get i with
    | some (.ins c fs) => if cs.contains c = true then match fs.lookup f with
        | some v => .ok v h
        | none => .bad
      else .bad
    | _ => .bad
  | _ => .bad
def gFld (cs : List Nat) (f : Nat) (a : ME) : ME := gUn (mFld cs f) a
def FldOk (K : PySem.W.Frag) (T : Nat → Addr) (cs : List Nat) (f : Nat) : Prop := ∀ c ∈ cs, Cls K (T c) ∧ NoAttr K (T c) (nm f)
def gFldS (cs : List Nat) (f : Nat) (v o : ME) : MS := fun m h => (v m h).bindS fun y h1 => (o m h1).bindS fun x h2 => match x with
  | .ref i => match h2.get i with
    | some (.ins c fs) => if cs.contains c = true ∧ fs.length < 900 then .nx m (h2.set i (.ins c (mput f y fs))) else .bad
    | _ => .bad
  | _ => .bad
def gFldAug (cs : List Nat) (f : Nat) (g : Int → Int → Int) (o v : ME) : MS := fun m h => (o m h).bindS fun x h1 => (mFld cs f x h1).bindS fun w h1 => (v m h1).bindS fun y h2 => match x, w, y with
  | .ref i, .int p, .int q => match h1.get i, h2.get i with
    | some (.ins c0 _), some (.ins c fs) => if c = c0 ∧ fs.length < 900 then .nx m (h2.set i (.ins c (mput f (.int (g p q)) fs))) else .bad
    | _, _ => .bad
  | _, _, _ => .bad
section
variable {X : Cx} {T : Nat → Addr} {E : XK} {o e value : Expr} {f : Str} {fi : Nat} {cs : List Nat} {pos pos' tpos : Pos} {go ge : ME}
theorem fld_ok {Z : Zt} {α : Type} {R : α → Prop} {ρ : List Addr} {h : MH} {H : Hp} {x : MV} {v : V} {k : MV → MH → SO} (R1 : HR Z ρ h H) (rv : RV Z ρ H x v) (D : Ends) (q : PostS Z ρ H D E ((mFld cs fi x h).bindS k)) :
    ∃ i a c fs dx vs y w, x = .ref i ∧ v = .ref a ∧ ρ[i]? = some a ∧ h.get i = some (.ins c fs) ∧ c ∈ cs ∧ H a = some (.ins (Z.adr c) dx vs) ∧ RKs nm Z ρ H fs vs ∧ vs.lookup (nm fi) = some w ∧ RV Z ρ H y w ∧ PostS Z ρ H D E (k y h) := by
  cases rv with
  | @ref i a hi =>
    have q' : PostS Z ρ H D E (Out.bindS (match h.get i with
      | some (.ins c fs) => if cs.contains c = true then match fs.lookup fi with
          | some v => .ok v h
          | none => .bad
        else .bad
      | _ => .bad) k) := q
    cases g : h.get i with
    | none => rw [g] at q'; exact q'.elim
    | some ob =>
      rw [g] at q'
      cases ob with
      | ins c fs =>
        dsimp only at q'
        by_cases z : cs.contains c = true
        · rw [if_pos z] at q'
          obtain ⟨dx, vs, h3, h4⟩ := R1.obj g hi
          rcases h4.lookup fi with ⟨l, _⟩ | ⟨y, w, l1, l2, l3⟩
          · rw [l] at q'; exact q'.elim
          · rw [l1] at q'
            exact ⟨i, a, c, fs, dx, vs, y, w, rfl, rfl, hi, g, by simpa using z, h3, h4, l2, l3, q'⟩
        · rw [if_neg z] at q'; exact q'.elim
      | _ => exact q'.elim
  | _ => exact q.elim
theorem je_fld (ho : JE X T E o go) (k : FldOk X.K T cs fi) (hf : f = nm fi := by rfl) (hb : attributeBase o f X.env (eval o X.env) = eval o X.env := by rfl) : JE X T E (.Attribute o f pos) (gFld cs fi go) := by
  refine PE.le (pe_fld ho hb) fun σ H Q ⟨ρ, m, h, s, q⟩ => stepE s q fun ρ1 h1 H1 x v s1 e1 r1 q1 => ?_
  cases r1 with
  | @ref i a hi =>
    have q' : Post ⟨X.K, T⟩ (rV ⟨X.K, T⟩) ρ1 H1 Q E (match h1.get i with
      | some (.ins c fs) => if cs.contains c = true then match fs.lookup fi with
          | some v => .ok v h1
          | none => .bad
        else .bad
      | _ => .bad) := q1
    cases g : h1.get i with
    | none => rw [g] at q'; exact q'.elim
    | some ob =>
      rw [g] at q'
      cases ob with
      | ins c fs =>
        dsimp only at q'
        by_cases z : cs.contains c = true
        · rw [if_pos z] at q'
          obtain ⟨dx, vs, h3, h4⟩ := s1.hr.obj g hi
          obtain ⟨k1, k2⟩ := k c (by simpa using z)
          rcases h4.lookup fi with ⟨l, _⟩ | ⟨y, w, l1, l2, l3⟩
          · rw [l] at q'; exact q'.elim
          · rw [l1] at q'
            subst hf
            exact ⟨a, T c, dx, vs, w, rfl, h3, k1, k2, l2, q'.ok s1.hr l3⟩
        · rw [if_neg z] at q'; exact q'.elim
      | _ => exact q'.elim
  | _ => exact q1.elim
theorem js_fld (ho : JE X T E o go) (hv : JE X T E value ge) (k : FldOk X.K T cs fi) (hf : f = nm fi := by rfl) (hs : swapsWith value (some (.Attribute o f pos')) pos.line X.env = pure false := by rfl) :
    JS X T E (.Assign [.Attribute o f pos'] value pos) (gFldS cs fi ge go) := by
  refine PS.le (ps_fld ho hv hs) fun D σ H ⟨ρ, m, h, s, q⟩ => sE s q fun ρ1 h1 H1 y w s1 e1 r1 q1 => sE s1 q1 fun ρ2 h2 H2 x v s2 e2 r2 q2 => ?_
  cases r2 with
  | @ref i a hi =>
    have q' : PostS ⟨X.K, T⟩ ρ2 H2 D E (match h2.get i with
      | some (.ins c fs) => if cs.contains c = true ∧ fs.length < 900 then .nx m (h2.set i (.ins c (mput fi y fs))) else .bad
      | _ => .bad) := q2
    cases g : h2.get i with
    | none => rw [g] at q'; exact q'.elim
    | some ob =>
      rw [g] at q'
      cases ob with
      | ins c fs =>
        dsimp only at q'
        by_cases z : cs.contains c = true ∧ fs.length < 900
        · rw [if_pos z] at q'
          obtain ⟨dx, vs, h3, h4⟩ := s2.hr.obj g hi
          obtain ⟨k1, k2⟩ := k c (by simpa using z.1)
          subst hf
          refine ⟨a, T c, dx, vs, rfl, h3, k1, k2, by rw [← h4.length]; omega, ?_⟩
          have x1 := s2.hr.grow g hi (.ins (T c) dx (putF (nm fi) w vs))
          exact q' ρ2 _ _ x1 (s2.to x1 (s2.hr.set g hi ⟨dx, _, upd_same, (h4.ext x1).put ((r1.ext e2).ext x1)⟩))
        · rw [if_neg z] at q'; exact q'.elim
      | _ => exact q'.elim
  | _ => exact q2.elim
theorem js_fldaug {op : Operator} {g : Int → Int → Int} (ho : JE X T E o go) (hv : JE X T E value ge) (k : FldOk X.K T cs fi) (hf : f = nm fi)
    (hop : InOp X op (fun x y H Q => ∃ i j, x = .int i ∧ y = .int j ∧ Q (.int (g i j)) H)) :
    JS X T E (.AugAssign (.Attribute o f tpos) op value pos) (gFldAug cs fi g go ge) := by
  refine PS.le (ps_fldaug ho hv hop) fun D σ H ⟨ρ, m, h, s, q⟩ => sE s q fun ρ1 h1 H1 x v s1 e1 r1 q1 => ?_
  obtain ⟨i, a, c, fs, dx, vs, y, w, rfl, rfl, hi, g1, hc, h3, _, l2, l3, q2⟩ := fld_ok (α := Unit) (R := fun _ => True) s1.hr r1 D q1
  obtain ⟨k1, k2⟩ := k c hc
  subst hf
  refine ⟨a, T c, dx, vs, w, rfl, h3, k1, k2, l2, sE s1 q2 fun ρ2 h2 H2 y2 w2 s2 e2 r2 q3 => ?_⟩
  have l4 := l3.ext e2
  clear l3
  cases l4 with
  | int p =>
    cases r2 with
    | int q0 =>
      refine ⟨p, q0, rfl, rfl, ?_⟩
      have q' : PostS ⟨X.K, T⟩ ρ2 H2 D E (match h1.get i, h2.get i with
        | some (.ins c0 _), some (.ins c fs) => if c = c0 ∧ fs.length < 900 then .nx m (h2.set i (.ins c (mput fi (.int (g p q0)) fs))) else .bad
        | _, _ => .bad) := q3
      rw [g1] at q'
      have hi2 := e2.at hi
      cases gg : h2.get i with
      | none => rw [gg] at q'; exact q'.elim
      | some ob =>
        rw [gg] at q'
        cases ob with
        | ins c' fs' =>
          dsimp only at q'
          by_cases z : c' = c ∧ fs'.length < 900
          · rw [if_pos z] at q'
            obtain ⟨rfl, z⟩ := z
            obtain ⟨dx', vs', h5, h6⟩ := s2.hr.obj gg hi2
            refine ⟨dx', vs', h5, by rw [← h6.length]; omega, ?_⟩
            have x1 := s2.hr.grow gg hi2 (.ins (T c') dx' (putF (nm fi) (.int (g p q0)) vs'))
            exact q' ρ2 _ _ x1 (s2.to x1 (s2.hr.set gg hi2 ⟨dx', _, upd_same, (h6.ext x1).put (.int _)⟩))
          · rw [if_neg z] at q'; exact q'.elim
        | _ => exact q'.elim
    | _ => exact q3.elim
  | _ => exact q3.elim
theorem aug_add : InOp X .Add (fun x y H Q => ∃ i j, x = .int i ∧ y = .int j ∧ Q (.int (i + j)) H) := in_add
theorem aug_sub : InOp X .Sub (fun x y H Q => ∃ i j, x = .int i ∧ y = .int j ∧ Q (.int (i - j)) H) := in_sub
end
def seqOf (h : MH) : MV → Option (List MV)
  | .tup xs => some xs
  | .ktp xs => some xs
  | .fls xs => some xs
  | .ref i => match h.get i with
    | some (.lst xs) => some xs
    | _ => none
  | _ => none
def isL : MV → Bool
  | .tup _ => false
  | .ktp _ => false
  | _ => true
theorem seqOf_ok {Z : Zt} {ρ : List Addr} {h : MH} {H : Hp} {x : MV} {v : V} {xs : List MV} (R : HR Z ρ h H) (r : RV Z ρ H x v) (e : seqOf h x = some xs) :
    ∃ a vs, v = .ref a ∧ RVs Z ρ H xs vs ∧ if isL x = true then SqL Z.K H a vs else SqT Z.K H a vs := by
  cases r with
  | tup h1 r1 => cases e; exact ⟨_, _, rfl, r1, .inl (.inl h1)⟩
  | ktp h1 r1 => cases e; exact ⟨_, _, rfl, r1, ktp_sq h1⟩
  | fls h1 r1 => cases e; exact ⟨_, _, rfl, r1, h1.sq⟩
  | @ref i a hi =>
    dsimp only [seqOf] at e
    cases g : h.get i with
    | none => rw [g] at e; cases e
    | some o =>
      rw [g] at e
      cases o with
      | lst ys =>
        cases e
        obtain ⟨vs, h1, h2⟩ := R.obj g hi
        exact ⟨a, vs, rfl, h2, .inl (.inl h1)⟩
      | _ => cases e
  | _ => cases e
theorem seqOf_or {Z : Zt} {ρ : List Addr} {h : MH} {H : Hp} {x : MV} {v : V} {xs : List MV} (R : HR Z ρ h H) (r : RV Z ρ H x v) (e : seqOf h x = some xs) :
    ∃ a vs, v = .ref a ∧ RVs Z ρ H xs vs ∧ (SqL Z.K H a vs ∨ SqT Z.K H a vs) := by
  obtain ⟨a, vs, h1, h2, h3⟩ := seqOf_ok R r e
  refine ⟨a, vs, h1, h2, ?_⟩
  split at h3
  · exact .inl h3
  · exact .inr h3
def mTru (h : MH) : MV → Option Bool
  | .non => some false
  | .bl b => some b
  | .int i => some (i != 0)
  | .str s => if s.length ≤ 1000000 then some (!s.isEmpty) else none
  | .ref i => match h.get i with
    | some (.lst xs) => some (!xs.isEmpty)
    | some (.dic kvs) => some (!kvs.isEmpty)
    | _ => none
  | x => (seqOf h x).map fun xs => !xs.isEmpty
def gTru (a : ME) : MT := fun m h => (a m h).bind fun x h1 => match mTru h1 x with
  | some b => .ok b h1
  | none => .bad
theorem RVs.emp {Z : Zt} {ρ : List Addr} {H : Hp} {xs : List MV} {vs : List V} (r : RVs Z ρ H xs vs) : (!xs.isEmpty) = !vs.isEmpty := by cases r <;> rfl
theorem RKs.emp {κ κ' : Type} {f : κ → κ'} {Z : Zt} {ρ : List Addr} {H : Hp} {xs : List (κ × MV)} {vs : List (κ' × V)} (r : RKs f Z ρ H xs vs) : (!xs.isEmpty) = !vs.isEmpty := by cases r <;> rfl
theorem mTru_ok {Z : Zt} {ρ : List Addr} {h : MH} {H : Hp} {x : MV} {v : V} {b : Bool} (R : HR Z ρ h H) (r : RV Z ρ H x v) (e : mTru h x = some b) : TruV Z.K v H b := by
  cases r with
  | non => cases e; exact rfl
  | bl c => cases e; exact rfl
  | int i => cases e; exact rfl
  | str s =>
    dsimp only [mTru] at e
    split at e
    · cases e
      refine ⟨?_, ?_⟩
      · show s.toArray.size ≤ sizeLine
        rw [sizeLine_eq]; simp; omega
      · show (!s.isEmpty) = ((s.toArray.size : Int) != 0)
        cases s with
        | nil => rfl
        | cons c l => simp; omega
    · cases e
  | tup h1 r1 => cases e; exact .inr (.inl ⟨_, .inl (.inl h1), r1.emp⟩)
  | ktp h1 r1 => cases e; exact .inr (.inl ⟨_, ktp_sq h1, r1.emp⟩)
  | fls h1 r1 => cases e; exact .inl ⟨_, h1.sq, r1.emp⟩
  | @ref i a hi =>
    dsimp only [mTru] at e
    cases g : h.get i with
    | none => rw [g] at e; cases e
    | some o =>
      rw [g] at e
      cases o with
      | lst ys =>
        cases e
        obtain ⟨vs, h1, h2⟩ := R.obj g hi
        exact .inl ⟨vs, .inl (.inl h1), h2.emp⟩
      | dic ys =>
        cases e
        obtain ⟨vs, h1, h2⟩ := R.obj g hi
        exact .inr (.inr ⟨vs, h1, h2.emp⟩)
      | _ => cases e
  | _ => cases e
section
variable {X : Cx} {T : Nat → Addr} {E : XK} {o e a : Expr} {pos : Pos} {go ge ga : ME}
theorem jt_tru (ha : JE X T E a ga) (he : ∀ whole, isTrue a X.env whole = (do let v ← whole; standAt a.pos; holding [v] (truthy v)) := by intro _; rfl) : JT X T E a (gTru ga) :=
  PT.le (pt_truth ha he) fun σ H Q ⟨ρ, m, h, s, q⟩ => stepE s q fun ρ1 h1 H1 x v s1 e1 r1 q1 => by
    cases k : mTru h1 x with
    | none => rw [k] at q1; exact q1.elim
    | some b => rw [k] at q1; exact ⟨b, mTru_ok s1.hr r1 k, q1.ok s1.hr rfl⟩
end
def mLen (h : MH) : MV → Option Nat
  | .str s => if s.length ≤ 1000000 then some s.length else none
  | .ref i => match h.get i with
    | some (.lst xs) => some xs.length
    | some (.dic kvs) => some kvs.length
    | _ => none
  | x => (seqOf h x).map List.length
end MI
set_option Elab.async false
set_option linter.all false
set_option maxRecDepth 100000
set_option maxHeartbeats 4000000
namespace MI
open PySem PySem.Spec PyProof.Rows L2 JB
def mkey : MV → Option MK
  | .int i => some (.inl i)
  | .str s => some (.inr s)
  | _ => none
def keq : MK → MK → Bool
  | .inl i, .inl j => decide (i = j)
  | .inr s, .inr t => leq s t
  | _, _ => false
theorem keq_iff : ∀ {a b : MK}, keq a b = true ↔ kOf a = kOf b
  | .inl i, .inl j => by simp [keq, kOf]
  | .inr s, .inr t => by
    show leq s t = true ↔ _
    rw [leq_iff]
    simp [kOf]
  | .inl _, .inr _ => by simp [keq, kOf]
  | .inr _, .inl _ => by simp [keq, kOf]
def keqs : List MK → List MK → Bool
  | [], [] => true
  | a :: l, b :: r => keq a b && keqs l r
  | _, _ => false
theorem keqs_iff : ∀ {a b : List MK}, keqs a b = true ↔ a.map kOf = b.map kOf
  | [], [] => by simp [keqs]
  | a :: l, b :: r => by simp [keqs, keq_iff, keqs_iff (a := l) (b := r)]
  | [], _ :: _ => by simp [keqs]
  | _ :: _, [] => by simp [keqs]
theorem mkey_ok {Z : Zt} {ρ : List Addr} {H : Hp} {x : MV} {v : V} {k : MK} (r : RV Z ρ H x v) (e : mkey x = some k) : v = kV (kOf k) := by
  cases r <;> cases e <;> rfl
def mkeys : List MV → Option (List MK)
  | [] => some []
  | x :: xs => match mkey x, mkeys xs with
    | some k, some ks => some (k :: ks)
    | _, _ => none
theorem mkeys_ok {Z : Zt} {ρ : List Addr} {H : Hp} : ∀ {xs : List MV} {vs : List V} {ks : List MK}, RVs Z ρ H xs vs → mkeys xs = some ks → vs = (ks.map kOf).map kV
  | _, _, ks, .nil, e => by cases e; rfl
  | _, _, ks, .cons (x := x) (xs := xs) a r, e => by
    dsimp only [mkeys] at e
    cases k1 : mkey x with
    | none => rw [k1] at e; cases e
    | some k =>
      cases k2 : mkeys xs with
      | none => rw [k1, k2] at e; cases e
      | some ks' =>
        rw [k1, k2] at e
        cases e
        rw [mkey_ok a k1, mkeys_ok r k2]; rfl
section
variable {κ κ' : Type} [DecidableEq κ'] (e : κ → κ → Bool)
def dval : List (κ × MV) → κ → Option MV
  | [], _ => none
  | (g, x) :: r, k => if e g k = true then some x else dval r k
def dhas : List (κ × MV) → κ → Bool
  | [], _ => false
  | (g, _) :: r, k => if e g k = true then true else dhas r k
def dset (k : κ) (v : MV) : List (κ × MV) → List (κ × MV)
  | [] => []
  | (g, x) :: r => if e g k = true then (g, v) :: dset k v r else (g, x) :: dset k v r
def dput (kvs : List (κ × MV)) (k : κ) (v : MV) : List (κ × MV) := if dhas e kvs k = true then dset e k v kvs else kvs ++ [(k, v)]
variable {e} {f : κ → κ'} {Z : Zt} {ρ : List Addr} {H : Hp}
theorem dval_ok (he : ∀ a b, e a b = true ↔ f a = f b) {xs : List (κ × MV)} {vs : List (κ' × V)} (r : RKs f Z ρ H xs vs) (k : κ) :
    (dval e xs k = none ∧ valV vs (f k) = none) ∨ ∃ x v, dval e xs k = some x ∧ valV vs (f k) = some v ∧ RV Z ρ H x v := by
  induction r with
  | nil => exact .inl ⟨rfl, rfl⟩
  | @cons g x v xs vs a r ih =>
    by_cases z : e g k = true
    · exact .inr ⟨x, v, if_pos z, valV_pos ((he _ _).mp z), a⟩
    · have z' : ¬ f g = f k := fun q => z ((he _ _).mpr q)
      rw [valV_neg z']
      show (((if e g k = true then some x else dval e xs k) = none) ∧ _) ∨ ∃ y v, ((if e g k = true then some x else dval e xs k) = some y) ∧ _
      rw [if_neg z]
      exact ih
theorem dhas_ok (he : ∀ a b, e a b = true ↔ f a = f b) {xs : List (κ × MV)} {vs : List (κ' × V)} (r : RKs f Z ρ H xs vs) (k : κ) : dhas e xs k = vs.any fun kv => decide (kv.1 = f k) := by
  induction r with
  | nil => rfl
  | @cons g x v xs vs a r ih =>
    rw [List.any_cons]
    show (if e g k = true then true else dhas e xs k) = _
    by_cases z : e g k = true
    · rw [if_pos z, decide_eq_true ((he _ _).mp z), Bool.true_or]
    · rw [if_neg z, decide_eq_false (fun q => z ((he _ _).mpr q)), Bool.false_or]; exact ih
theorem dset_ok (he : ∀ a b, e a b = true ↔ f a = f b) {xs : List (κ × MV)} {vs : List (κ' × V)} (r : RKs f Z ρ H xs vs) {k : κ} {y : MV} {w : V} (q : RV Z ρ H y w) :
    RKs f Z ρ H (dset e k y xs) (vs.map fun kv => if kv.1 = f k then (kv.1, w) else kv) := by
  induction r with
  | nil => exact .nil
  | @cons g x v xs vs a r ih =>
    rw [List.map_cons]
    show RKs f Z ρ H (if e g k = true then (g, y) :: dset e k y xs else (g, x) :: dset e k y xs) ((if f g = f k then (f g, w) else (f g, v)) :: _)
    by_cases z : e g k = true
    · rw [if_pos z, if_pos ((he _ _).mp z)]; exact .cons q ih
    · rw [if_neg z, if_neg (fun q => z ((he _ _).mpr q))]; exact .cons a ih
theorem RKs.snoc {xs : List (κ × MV)} {vs : List (κ' × V)} (r : RKs f Z ρ H xs vs) {k : κ} {y : MV} {w : V} (q : RV Z ρ H y w) : RKs f Z ρ H (xs ++ [(k, y)]) (vs ++ [(f k, w)]) := by
  induction r with
  | nil => exact .cons q .nil
  | cons a _ ih => exact .cons a ih
theorem dput_ok (he : ∀ a b, e a b = true ↔ f a = f b) {xs : List (κ × MV)} {vs : List (κ' × V)} (r : RKs f Z ρ H xs vs) {k : κ} {y : MV} {w : V} (q : RV Z ρ H y w) : RKs f Z ρ H (dput e xs k y) (putK vs (f k) w) := by
  unfold dput putK
  rw [dhas_ok he r k]
  split
  · exact dset_ok he r q
  · exact r.snoc q
end
theorem gBin_or {f f1 f2 : MV → MV → MH → Out MV} (k : ∀ x y h, f x y h = f1 x y h ∨ f x y h = f2 x y h) (a b : ME) (m : ML) (h : MH) : gBin f a b m h = gBin f1 a b m h ∨ gBin f a b m h = gBin f2 a b m h := by
  unfold gBin
  cases a m h with
  | bad => exact .inl rfl
  | er _ _ => exact .inl rfl
  | ok x h1 =>
    show (Out.bind (b m h1) _ = Out.bind (b m h1) _) ∨ _
    show ((b m h1).bind (fun y h2 => f x y h2) = (b m h1).bind fun y h2 => f1 x y h2) ∨ ((b m h1).bind (fun y h2 => f x y h2) = (b m h1).bind fun y h2 => f2 x y h2)
    cases b m h1 with
    | bad => exact .inl rfl
    | er _ _ => exact .inl rfl
    | ok y h2 => exact k x y h2
section
variable {X : Cx} {T : Nat → Addr} {E : XK} {e a b : Expr} {ga gb : ME} {f f1 f2 : MV → MV → MH → Out MV}
theorem PE.or {t t' : TE} (p : PE X e t) (q : PE X e t') : PE X e (fun σ H Q => t σ H Q ∨ t' σ H Q) := ⟨fun pins s σ H Q I h => h.elim (p.run pins s σ H Q I) (q.run pins s σ H Q I)⟩
theorem PT.or {t t' : TT} (p : PT X e t) (q : PT X e t') : PT X e (fun σ H Q => t σ H Q ∨ t' σ H Q) := ⟨fun pins s σ H Q I h => h.elim (p.run pins s σ H Q I) (q.run pins s σ H Q I)⟩
theorem je_bin_or (p : JE X T E e (gBin f1 ga gb)) (q : JE X T E e (gBin f2 ga gb)) (k : ∀ x y h, f x y h = f1 x y h ∨ f x y h = f2 x y h) : JE X T E e (gBin f ga gb) :=
  PE.le (PE.or p q) fun σ H Q ⟨ρ, m, h, s, z⟩ => by
    rcases gBin_or k ga gb m h with w | w
    · rw [w] at z; exact .inl ⟨ρ, m, h, s, z⟩
    · rw [w] at z; exact .inr ⟨ρ, m, h, s, z⟩
theorem jt_bin_or (p : JT X T E e (gB (gBin f1 ga gb))) (q : JT X T E e (gB (gBin f2 ga gb))) (k : ∀ x y h, f x y h = f1 x y h ∨ f x y h = f2 x y h) : JT X T E e (gB (gBin f ga gb)) :=
  PT.le (PT.or p q) fun σ H Q ⟨ρ, m, h, s, z⟩ => by
    unfold gB at z
    rcases gBin_or k ga gb m h with w | w
    · rw [w] at z; exact .inl ⟨ρ, m, h, s, z⟩
    · rw [w] at z; exact .inr ⟨ρ, m, h, s, z⟩
end
def isD (h : MH) : MV → Bool
  | .ref i => match h.get i with
    | some (.dic _) => true
    | some (.dit _) => true
    | some (.fdi _) => true
    | _ => false
  | _ => false
def oV (o : Option MV) (h : MH) : Out MV := match o with
  | some v => .ok v h
  | none => .bad
def mIxS (x y : MV) (h : MH) : Out MV := match y with
  | .int i => match x with
    | .str s => if s.length ≤ 1000000 then oV ((atI s i).map fun c => .str [c]) h else .bad
    | x => match seqOf h x with
      | some xs => oV (atI xs i) h
      | none => .bad
  | _ => .bad
def dGet (h : MH) (x y : MV) : Option (Option MV) := match x with
  | .ref i => match h.get i with
    | some (.dic kvs) => (mkey y).map fun k => dval keq kvs k
    | some (.fdi kvs) => (mkey y).map fun k => dval keq kvs k
    | some (.dit kvs) => match y with
      | .tup ys => (mkeys ys).map fun k => dval keqs kvs k
      | _ => none
    | _ => none
  | _ => none
def mIxD (x y : MV) (h : MH) : Out MV := match dGet h x y with
  | some o => oV o h
  | none => .bad
def mIx (x y : MV) (h : MH) : Out MV := if isD h x = true then mIxD x y h else mIxS x y h
theorem dGet_ok {Z : Zt} {ρ : List Addr} {h : MH} {H : Hp} {x y : MV} {v w : V} {o : Option MV} (R : HR Z ρ h H) (r : RV Z ρ H x v) (q : RV Z ρ H y w) (e : dGet h x y = some o) :
    ∃ a o', v = .ref a ∧ DGet H a w o' ∧ ((o = none ∧ o' = none) ∨ ∃ z u, o = some z ∧ o' = some u ∧ RV Z ρ H z u) := by
  cases r with
  | @ref i a hi =>
    dsimp only [dGet] at e
    cases g : h.get i with
    | none => rw [g] at e; cases e
    | some ob =>
      rw [g] at e
      cases ob with
      | dic kvs =>
        dsimp only at e
        obtain ⟨vs, h1, h2⟩ := R.obj g hi
        cases k : mkey y with
        | none => rw [k] at e; cases e
        | some k' =>
          rw [k] at e
          cases e
          rw [mkey_ok q k]
          exact ⟨a, _, rfl, DGet.k h1, dval_ok (e := keq) (f := kOf) (fun a b => keq_iff) h2 k'⟩
      | fdi kvs =>
        dsimp only at e
        obtain ⟨od, vs, h1, h2⟩ := R.obj g hi
        cases k : mkey y with
        | none => rw [k] at e; cases e
        | some k' =>
          rw [k] at e
          cases e
          rw [mkey_ok q k]
          exact ⟨a, _, rfl, .inl ⟨vs, kOf k', .inr ⟨od, h1⟩, rfl, rfl⟩, dval_ok (e := keq) (f := kOf) (fun a b => keq_iff) h2 k'⟩
      | dit kvs =>
        dsimp only at e
        obtain ⟨vs, h1, h2⟩ := R.obj g hi
        cases q with
        | tup h3 r3 =>
          dsimp only at e
          rename_i b ys ws
          cases k : mkeys ys with
          | none => rw [k] at e; cases e
          | some k' =>
            rw [k] at e
            cases e
            have hw := mkeys_ok r3 k
            subst hw
            exact ⟨a, _, rfl, DGet.t (k := k'.map kOf) h1 h3, dval_ok (e := keqs) (f := List.map kOf) (fun a b => keqs_iff) h2 k'⟩
        | _ => cases e
      | _ => cases e
  | _ => cases e
theorem RVs.len_get {Z : Zt} {ρ : List Addr} {H : Hp} {xs : List MV} {vs : List V} (r : RVs Z ρ H xs vs) {i : Int} {x : MV} (e : atI xs i = some x) : ∃ v, atI vs i = some v ∧ RV Z ρ H x v := by
  unfold atI at e ⊢
  rw [← r.length]
  cases k : ixN xs.length i with
  | none => rw [k] at e; cases e
  | some j =>
    rw [k] at e
    exact r.get e
theorem om_ixS {Z : Zt} {E : XK} : OpM Z E mIxS (rIx Z.K) := fun ρ h H x y v w Q R r q p => by
  cases q with
  | int i =>
    by_cases hs : ∃ s, x = .str s
    · obtain ⟨s, rfl⟩ := hs
      cases r
      have p' : Post Z (rV Z) ρ H Q E (if s.length ≤ 1000000 then oV ((atI s i).map fun c => .str [c]) h else .bad) := p
      by_cases z : s.length ≤ 1000000
      · rw [if_pos z] at p'
        cases k : atI s i with
        | none => rw [k] at p'; exact p'.elim
        | some c =>
          rw [k] at p'
          exact .inr (.inr ⟨_, i, c, rfl, rfl, by show s.toArray.size ≤ sizeLine; rw [sizeLine_eq]; simp; omega, k, Post.ok (R := rV Z) (a := .str [c]) p' R (.str [c])⟩)
      · rw [if_neg z] at p'; exact p'.elim
    · have p' : Post Z (rV Z) ρ H Q E (match seqOf h x with
        | some xs => oV (atI xs i) h
        | none => .bad) := by
        cases x <;> first
          | exact absurd ⟨_, rfl⟩ hs
          | exact p
      cases k : seqOf h x with
      | none => rw [k] at p'; exact p'.elim
      | some xs =>
        rw [k] at p'
        dsimp only at p'
        obtain ⟨a, vs, rfl, r2, hq⟩ := seqOf_or R r k
        cases k2 : atI xs i with
        | none => rw [k2] at p'; exact p'.elim
        | some z =>
          rw [k2] at p'
          obtain ⟨u, h1, h2⟩ := r2.len_get k2
          have fin := Post.ok (R := rV Z) (a := z) p' R h2
          rcases hq with hq | hq
          · exact .inl ⟨a, vs, i, u, rfl, rfl, hq, h1, fin⟩
          · exact .inr (.inl ⟨a, vs, i, u, rfl, rfl, hq, h1, fin⟩)
  | _ => exact p.elim
section
variable {X : Cx} {T : Nat → Addr} {E : XK} {e a b o i value : Expr} {ga gb gv go gi : ME} {pos pos' : Pos}
theorem je_ixS (ha : JE X T E a ga) (hb : JE X T E b gb) (hs : PlainIx b := by intro _ _; rfl) : JE X T E (.Subscript a b pos) (gBin mIxS ga gb) := PE.le (pe_ix ix_seq ha hb hs) (le_op om_ixS)
theorem je_ixD (hu : X.A.units + 1 < cLine) (ha : JE X T E a ga) (hb : JE X T E b gb) (hs : NoSl b := by intro _ _; rfl) : JE X T E (.Subscript a b pos) (gBin mIxD ga gb) :=
  PE.le (pe_dget hu ha hb hs) fun σ H Q ⟨ρ, m, h, s, q⟩ => stepE s q fun ρ1 h1 H1 x v s1 e1 r1 q1 => stepE s1 q1 fun ρ2 h2 H2 y w s2 e2 r2 q2 => by
    unfold mIxD at q2
    cases k : dGet h2 x y with
    | none => rw [k] at q2; exact q2.elim
    | some oo =>
      rw [k] at q2
      obtain ⟨aa, o', rfl, h3, h4⟩ := dGet_ok s2.hr (r1.ext e2) r2 k
      rcases h4 with ⟨rfl, rfl⟩ | ⟨z, u, rfl, rfl, h5⟩
      · exact q2.elim
      · exact ⟨aa, u, rfl, h3, Post.ok (R := rV ⟨X.K, T⟩) (a := z) q2 s2.hr h5⟩
theorem je_ix (hu : X.A.units + 1 < cLine) (ha : JE X T E a ga) (hb : JE X T E b gb) (hs : PlainIx b := by intro _ _; rfl) (hs2 : NoSl b := by intro _ _; rfl) : JE X T E (.Subscript a b pos) (gBin mIx ga gb) :=
  je_bin_or (je_ixD hu ha hb hs2) (je_ixS ha hb hs) fun x y h => by
    unfold mIx
    split
    · exact .inl rfl
    · exact .inr rfl
def dPutM (h : MH) (x y v : MV) : Option MH := match x with
  | .ref i => match h.get i with
    | some (.dic kvs) => match mkey y with
      | some k => if kvs.length < 1000000 then some (h.set i (.dic (dput keq kvs k v))) else none
      | none => none
    | some (.dit kvs) => match y with
      | .tup ys => match mkeys ys with
        | some k => if kvs.length < 1000000 then some (h.set i (.dit (dput keqs kvs k v))) else none
        | none => none
      | _ => none
    | _ => none
  | _ => none
theorem dPut_ok {Z : Zt} {ρ : List Addr} {h h' : MH} {H : Hp} {x y z : MV} {v w u : V} (R : HR Z ρ h H) (r : RV Z ρ H x v) (q : RV Z ρ H y w) (t : RV Z ρ H z u) (e : dPutM h x y z = some h') :
    ∃ a H', v = .ref a ∧ DPut H a w u H' ∧ Ext ρ H ρ H' ∧ HR Z ρ h' H' := by
  cases r with
  | @ref i a hi =>
    dsimp only [dPutM] at e
    cases g : h.get i with
    | none => rw [g] at e; cases e
    | some ob =>
      rw [g] at e
      cases ob with
      | dic kvs =>
        dsimp only at e
        obtain ⟨vs, h1, h2⟩ := R.obj g hi
        cases k : mkey y with
        | none => rw [k] at e; cases e
        | some k' =>
          rw [k] at e
          dsimp only at e
          split at e
          · rename_i hl
            cases e
            rw [mkey_ok q k]
            refine ⟨a, _, rfl, DPut.k h1 (by rw [← h2.length, sizeLine_eq]; omega), R.grow g hi _, R.set g hi ⟨_, upd_same, ?_⟩⟩
            have x1 := R.grow g hi (.dK (putK vs (kOf k') u))
            exact dput_ok (e := keq) (f := kOf) (fun a b => keq_iff) (h2.ext x1) (t.ext x1)
          · cases e
      | dit kvs =>
        dsimp only at e
        obtain ⟨vs, h1, h2⟩ := R.obj g hi
        cases q with
        | tup h3 r3 =>
          dsimp only at e
          rename_i b ys ws
          cases k : mkeys ys with
          | none => rw [k] at e; cases e
          | some k' =>
            rw [k] at e
            dsimp only at e
            split at e
            · rename_i hl
              cases e
              have hw := mkeys_ok r3 k
              subst hw
              refine ⟨a, _, rfl, DPut.t (k := k'.map kOf) h1 h3 (by rw [← h2.length, sizeLine_eq]; omega), R.grow g hi _, R.set g hi ⟨_, upd_same, ?_⟩⟩
              have x1 := R.grow g hi (.dT (putK vs (k'.map kOf) u))
              exact dput_ok (e := keqs) (f := List.map kOf) (fun a b => keqs_iff) (h2.ext x1) (t.ext x1)
            · cases e
        | _ => cases e
      | _ => cases e
  | _ => cases e
end
end MI
set_option Elab.async false
set_option linter.all false
set_option maxRecDepth 100000
set_option maxHeartbeats 4000000
namespace MI
open PySem PySem.Spec PyProof.Rows L2 JB
def it1 (xs : List MV) : It1 := ⟨fun _ => xs.length, fun i _ => some xs[i]?⟩
def it1L (j : Nat) : It1 := ⟨fun h => match h.get j with
  | some (.lst xs) => xs.length
  | _ => 0, fun i h => match h.get j with
  | some (.lst xs) => some xs[i]?
  | _ => none⟩
def it1R (lo : Int) (n : Nat) : It1 := ⟨fun _ => n, fun i _ => some (if i < n then some (.int (lo + i)) else none)⟩
def mIter (h : MH) : MV → Option It1
  | .tup xs => some (it1 xs)
  | .ktp xs => some (it1 xs)
  | .fls xs => some (it1 xs)
  | .str s => some (it1 (s.map fun c => .str [c]))
  | .ref j => match h.get j with
    | some (.lst _) => some (it1L j)
    | _ => none
  | _ => none
def gIter (a : ME) : MI1 := fun m h => (a m h).bind fun x h1 => match mIter h1 x with
  | some it => .ok it h1
  | none => .bad
theorem RVs.none {Z : Zt} {ρ : List Addr} {H : Hp} {xs : List MV} {vs : List V} (r : RVs Z ρ H xs vs) {i : Nat} (e : xs[i]? = none) : vs.length ≤ i := by
  rw [← r.length]; exact List.getElem?_eq_none_iff.mp e
section
variable {Z : Zt} {ρ : List Addr} {h : MH} {H : Hp}
theorem rI_tup {a : Addr} {xs : List MV} {vs : List V} (r : RVs Z ρ H xs vs) (k : ∀ ρ' H', Ext ρ H ρ' H' → SqT Z.K H' a vs) : rI Z ρ H (it1 xs) (Itt Z.K a) := by
  intro i ρ' h' H' e R
  show match some xs[i]? with
    | none => True
    | some none => (Itt Z.K a).stop i H'
    | some (some x) => (Itt Z.K a).go i H' ∧ ∀ v H'', (Itt Z.K a).yld i H' v H'' → ∃ ρ'', Ext ρ' H' ρ'' H'' ∧ HR Z ρ'' h' H'' ∧ RV Z ρ'' H'' x v
  cases g : xs[i]? with
  | none => exact ⟨vs, k _ _ e, r.none g⟩
  | some x =>
    obtain ⟨v, h1, h2⟩ := r.get g
    refine ⟨⟨vs, v, k _ _ e, h1⟩, fun w H'' y => ?_⟩
    obtain ⟨rfl, y⟩ := y
    have := y vs (k _ _ e)
    rw [h1] at this
    cases this
    exact ⟨ρ', .refl, R, h2.ext e⟩
theorem rI_lst {a : Addr} {xs : List MV} {vs : List V} (r : RVs Z ρ H xs vs) (k : ∀ ρ' H', Ext ρ H ρ' H' → SqL Z.K H' a vs) : rI Z ρ H (it1 xs) (Itl Z.K a) := by
  intro i ρ' h' H' e R
  show match some xs[i]? with
    | none => True
    | some none => (Itl Z.K a).stop i H'
    | some (some x) => (Itl Z.K a).go i H' ∧ ∀ v H'', (Itl Z.K a).yld i H' v H'' → ∃ ρ'', Ext ρ' H' ρ'' H'' ∧ HR Z ρ'' h' H'' ∧ RV Z ρ'' H'' x v
  cases g : xs[i]? with
  | none => exact ⟨vs, k _ _ e, r.none g⟩
  | some x =>
    obtain ⟨v, h1, h2⟩ := r.get g
    refine ⟨⟨vs, v, k _ _ e, h1⟩, fun w H'' y => ?_⟩
    obtain ⟨rfl, y⟩ := y
    have := y vs (k _ _ e)
    rw [h1] at this
    cases this
    exact ⟨ρ', .refl, R, h2.ext e⟩
theorem rI_ref {a : Addr} {j : Nat} (hj : ρ[j]? = some a) : rI Z ρ H (it1L j) (Itl Z.K a) := by
  intro i ρ' h' H' e R
  show match (match h'.get j with
      | some (.lst xs) => some xs[i]?
      | _ => none) with
    | none => True
    | some none => (Itl Z.K a).stop i H'
    | some (some x) => (Itl Z.K a).go i H' ∧ ∀ v H'', (Itl Z.K a).yld i H' v H'' → ∃ ρ'', Ext ρ' H' ρ'' H'' ∧ HR Z ρ'' h' H'' ∧ RV Z ρ'' H'' x v
  cases g : h'.get j with
  | none => trivial
  | some o =>
    cases o with
    | lst xs =>
      obtain ⟨vs, h1, h2⟩ := R.obj g (e.at hj)
      have sq : SqL Z.K H' a vs := .inl (.inl h1)
      dsimp only
      cases g2 : xs[i]? with
      | none => exact ⟨vs, sq, h2.none g2⟩
      | some x =>
        obtain ⟨v, h3, h4⟩ := h2.get g2
        refine ⟨⟨vs, v, sq, h3⟩, fun w H'' y => ?_⟩
        obtain ⟨rfl, y⟩ := y
        have := y vs sq
        rw [h3] at this
        cases this
        exact ⟨ρ', .refl, R, h4⟩
    | _ => trivial
theorem rI_str {s : List Nat} : rI Z ρ H (it1 (s.map fun c => .str [c])) (Its ⟨s.toArray⟩) := by
  intro i ρ' h' H' e R
  show match some (s.map fun c => MV.str [c])[i]? with
    | none => True
    | some none => (Its ⟨s.toArray⟩).stop i H'
    | some (some x) => (Its ⟨s.toArray⟩).go i H' ∧ ∀ v H'', (Its ⟨s.toArray⟩).yld i H' v H'' → ∃ ρ'', Ext ρ' H' ρ'' H'' ∧ HR Z ρ'' h' H'' ∧ RV Z ρ'' H'' x v
  rw [List.getElem?_map]
  cases g : s[i]? with
  | none =>
    have := List.getElem?_eq_none_iff.mp g
    show s.toArray.size ≤ i
    simpa using this
  | some c =>
    refine ⟨?_, fun w H'' y => ?_⟩
    · have := (List.getElem?_eq_some_iff.mp g).1
      show i < s.toArray.size
      simpa using this
    · obtain ⟨rfl, c', hc, rfl⟩ := y
      have hc' : s.toArray[i]? = some c' := hc
      rw [List.getElem?_toArray, g] at hc'
      cases hc'
      exact ⟨ρ', .refl, R, .str [c]⟩
theorem rI_rng {lo : Int} {n : Nat} : rI Z ρ H (it1R lo n) (Itr lo n) := by
  intro i ρ' h' H' e R
  show match some (if i < n then some (MV.int (lo + i)) else none) with
    | none => True
    | some none => (Itr lo n).stop i H'
    | some (some x) => (Itr lo n).go i H' ∧ ∀ v H'', (Itr lo n).yld i H' v H'' → ∃ ρ'', Ext ρ' H' ρ'' H'' ∧ HR Z ρ'' h' H'' ∧ RV Z ρ'' H'' x v
  by_cases hi : i < n
  · rw [if_pos hi]
    refine ⟨hi, fun w H'' y => ?_⟩
    obtain ⟨rfl, rfl⟩ := y
    exact ⟨ρ', .refl, R, .int _⟩
  · rw [if_neg hi]
    exact Nat.le_of_not_lt hi
end
section
variable {X : Cx} {T : Nat → Addr} {E : XK} {e a tg : Expr} {es : List Expr} {ga : ME} {gr : MA} {pos p : Pos}
theorem PI.or {t t' : TI} (p : PI X tg e t) (q : PI X tg e t') : PI X tg e (fun σ H R => t σ H R ∨ t' σ H R) := ⟨fun pins s σ H R I h => h.elim (p.run pins s σ H R I) (q.run pins s σ H R I)⟩
theorem stepI {Z : Zt} {ρ : List Addr} {m : ML} {h : MH} {σ : L2.St} {H : Hp} {R : It → Hp → Prop} {Q' : V → Hp → Prop} {g : ME} {k : MV → MH → Out It1} (s : SR Z ρ m h σ H) (q : Post Z (rI Z) ρ H R E ((g m h).bind k))
    (n : ∀ ρ1 h1 H1 a v, SR Z ρ1 m h1 σ H1 → Ext ρ H ρ1 H1 → RV Z ρ1 H1 a v → Post Z (rI Z) ρ1 H1 R E (k a h1) → Q' v H1) : tE Z E g σ H Q' := stepE s q n
theorem ji_seq (ha : JE X T E e ga) : JI X T E tg e (gIter ga) := by
  refine PI.le (PI.or (pi_tup ha) (PI.or (pi_list ha) (pi_str ha))) fun σ H R ⟨ρ, m, h, s, q⟩ => ?_
  have key : ∀ c : MV → Bool, (∀ x h1, ga m h = .ok x h1 → c x = true) → ∀ Q' : V → Hp → Prop,
      (∀ ρ1 h1 H1 x v, c x = true → SR ⟨X.K, T⟩ ρ1 m h1 σ H1 → RV ⟨X.K, T⟩ ρ1 H1 x v → Post ⟨X.K, T⟩ (rI ⟨X.K, T⟩) ρ1 H1 R E (match mIter h1 x with
        | some it => Out.ok it h1
        | none => .bad) → Q' v H1) → tE ⟨X.K, T⟩ E ga σ H Q' := by
    intro c hc Q' n
    refine ⟨ρ, m, h, s, ?_⟩
    have q' : Post ⟨X.K, T⟩ (rI ⟨X.K, T⟩) ρ H R E ((ga m h).bind fun x h1 => match mIter h1 x with
        | some it => Out.ok it h1
        | none => .bad) := q
    generalize ga m h = o at q' hc ⊢
    cases o with
    | bad => exact q'
    | er x h1 => exact q'
    | ok x h1 => exact fun ρ1 H1 v e1 r1 rv => n ρ1 h1 H1 x v (hc x h1 rfl) (s.to e1 r1) rv (Post.ext (o := match mIter h1 x with
        | some it => Out.ok it h1
        | none => .bad) q' e1)
  let cT : MV → Bool := fun x => match x with
    | .tup _ => true
    | .ktp _ => true
    | _ => false
  let cS : MV → Bool := fun x => match x with
    | .str _ => true
    | _ => false
  by_cases z : ∀ x h1, ga m h = .ok x h1 → cT x = true
  · refine .inl (key cT z _ fun ρ1 h1 H1 x v c s1 rv q1 => ?_)
    cases rv with
    | tup h2 r2 => exact ⟨_, rfl, ⟨_, .inl (.inl h2)⟩, q1.ok s1.hr (rI_tup r2 fun ρ' H' e => e.sqT (.inl (.inl h2)))⟩
    | ktp h2 r2 => exact ⟨_, rfl, ⟨_, ktp_sq h2⟩, q1.ok s1.hr (rI_tup r2 fun ρ' H' e => ktp_sq h2)⟩
    | _ => cases c
  · refine .inr ?_
    by_cases z2 : ∀ x h1, ga m h = .ok x h1 → cS x = true
    · refine .inr (key cS z2 _ fun ρ1 h1 H1 x v c s1 rv q1 => ?_)
      cases rv with
      | str t => exact ⟨_, rfl, q1.ok s1.hr rI_str⟩
      | _ => cases c
    · refine .inl (key (fun x => !cT x && !cS x) (fun x h1 e => ?_) _ fun ρ1 h1 H1 x v c s1 rv q1 => ?_)
      · have n1 : cT x = false := by
          cases k : cT x with
          | false => rfl
          | true => exact absurd (fun x' h' e' => by rw [e] at e'; cases e'; exact k) z
        have n2 : cS x = false := by
          cases k : cS x with
          | false => rfl
          | true => exact absurd (fun x' h' e' => by rw [e] at e'; cases e'; exact k) z2
        rw [n1, n2]; rfl
      · cases rv with
        | fls h2 r2 => exact ⟨_, rfl, ⟨_, h2.sq⟩, q1.ok s1.hr (rI_lst r2 fun ρ' H' e => (e.fzL h2).sq)⟩
        | @ref j ad hj =>
          dsimp only [mIter] at q1
          cases g : h1.get j with
          | none => rw [g] at q1; exact q1.elim
          | some o =>
            rw [g] at q1
            cases o with
            | lst xs =>
              obtain ⟨vs, h3, h4⟩ := s1.hr.obj g hj
              exact ⟨ad, rfl, ⟨vs, .inl (.inl h3)⟩, Post.ok (R := rI ⟨X.K, T⟩) (a := it1L j) q1 s1.hr (rI_ref hj)⟩
            | _ => exact q1.elim
        | tup _ _ => cases c
        | ktp _ _ => cases c
        | str _ => cases c
        | _ => exact q1.elim
def gRng1 (a : ME) : MI1 := fun m h => (a m h).bind fun x h1 => match x with
  | .int n => if -1000000000 ≤ n ∧ n ≤ 1000000000 then .ok (it1R 0 n.toNat) h1 else .bad
  | _ => .bad
theorem ji_range1 (hg : Gl X "range") (hm : X.mg "range" = none) (ha : JE X T E a ga) (hs : starEach [a] X.env = [(false, eval a X.env)] := by rfl) : JI X T E tg (.Call (.Name "range" p) [a] [] pos) (gRng1 ga) :=
  PI.le (pi_range1 hg hm (pa_cons ha pa_nil hs) hs) fun σ H R ⟨ρ, m, h, s, q⟩ => stepI s q fun ρ1 h1 H1 x v s1 e1 r1 q1 => by
    cases r1 with
    | int n =>
      have q' : Post ⟨X.K, T⟩ (rI ⟨X.K, T⟩) ρ1 H1 R E (if -1000000000 ≤ n ∧ n ≤ 1000000000 then .ok (it1R 0 n.toNat) h1 else .bad) := q1
      by_cases z : -1000000000 ≤ n ∧ n ≤ 1000000000
      · rw [if_pos z] at q'
        exact ⟨n, rfl, by omega, by omega, q'.ok s1.hr rI_rng⟩
      · rw [if_neg z] at q'; exact q'.elim
    | _ => exact q1.elim
end
end MI
set_option Elab.async false
set_option linter.all false
set_option maxRecDepth 100000
set_option maxHeartbeats 4000000
namespace MI
open PySem PySem.Spec PyProof.Rows L2 JB
def setMany : ML → List Nat → List MV → ML
  | m, i :: is, x :: xs => setMany (m.set i (some x)) is xs
  | m, _, _ => m
def setManyV : L2.St → List Nat → List V → L2.St
  | σ, i :: is, x :: xs => setManyV (σ.set i (some x)) is xs
  | σ, _, _ => σ
def lNames : List Nat → TGs
  | [] => L2.gNil
  | i :: is => L2.gCons (L2.gName i) (lNames is)
theorem names_run : ∀ (is : List Nat) {vs : List V} {σ : L2.St} {H : Hp} {Q : L2.St → Hp → Prop}, vs.length = is.length → Q (setManyV σ is vs) H → lNames is vs σ H Q
  | [], [], _, _, _, _, q => ⟨rfl, q⟩
  | i :: is, v :: vs, σ, H, Q, hl, q => ⟨v, vs, rfl, names_run is (by simpa using hl) q⟩
  | [], _ :: _, _, _, _, hl, _ => by simp at hl
  | _ :: _, [], _, _, _, hl, _ => by simp at hl
theorem SR.many {Z : Zt} {ρ : List Addr} {h : MH} {H : Hp} : ∀ {is : List Nat} {m : ML} {σ : L2.St} {xs : List MV} {vs : List V}, SR Z ρ m h σ H → RVs Z ρ H xs vs → SR Z ρ (setMany m is xs) h (setManyV σ is vs) H
  | [], _, _, _, _, s, .nil => s
  | [], _, _, _, _, s, .cons _ _ => s
  | _ :: _, _, _, _, _, s, .nil => s
  | i :: is, _, _, _, _, s, .cons a r => SR.many (is := is) (s.set i a) r
def tgTup (is : List Nat) : MG := fun x m h => match seqOf h x with
  | some xs => if xs.length = is.length then .nx (setMany m is xs) h else .bad
  | none => .bad
section
variable {X : Cx} {T : Nat → Addr} {E : XK} {es : List Expr} {pos : Pos}
theorem PG.or {e : Expr} {t t' : TG} (p : PG X e t) (q : PG X e t') : PG X e (fun v σ H Q => t v σ H Q ∨ t' v σ H Q) := ⟨fun pins s σ H v u Q I r h => h.elim (p.run pins s σ H v u Q I r) (q.run pins s σ H v u Q I r)⟩
theorem pgs_names : PGs X [] (lNames []) := pgs_nil
theorem pgs_more {e : Expr} {i : Nat} {is : List Nat} (h1 : PG X e (L2.gName i)) (h2 : PGs X es (lNames is)) (hs : (assignEach (e :: es) X.env).map (·.2) = assign e X.env :: (assignEach es X.env).map (·.2) := by rfl) : PGs X (e :: es) (lNames (i :: is)) := pgs_cons h1 h2 hs
theorem jg_tup {k : Nat} {is : List Nat} (hc : X.calm = true) (h : PGs X es (lNames is)) (hn : (assignEach es X.env).length = is.length := by rfl) (hst : (assignEach es X.env).findIdx? (·.1) = none := by rfl) : JG X T E (.Tuple es k pos) (tgTup is) :=
  PG.le (PG.or (pg_tup hc h hn hst) (pg_unl hc h hn hst)) fun v σ H Q ⟨ρ, m, h, x, s, r, q⟩ => by
    unfold tgTup at q
    cases g : seqOf h x with
    | none => rw [g] at q; exact q.elim
    | some xs =>
      rw [g] at q
      dsimp only at q
      by_cases z : xs.length = is.length
      · rw [if_pos z] at q
        obtain ⟨a, vs, rfl, r2, hq⟩ := seqOf_or s.hr r g
        have hl : vs.length = is.length := by rw [← r2.length]; exact z
        have fin := names_run is hl (q ρ H _ .refl (s.many r2))
        rcases hq with hq | hq
        · exact .inr ⟨a, vs, rfl, hq, hl, fin⟩
        · exact .inl ⟨a, vs, rfl, hq, hl, fin⟩
      · rw [if_neg z] at q; exact q.elim
end
def mwipe (m : ML) : List Nat → ML
  | [] => m
  | v :: vs => (mwipe m vs).set v none
theorem SR.wipe {Z : Zt} {ρ : List Addr} {m : ML} {h : MH} {σ : L2.St} {H : Hp} (s : SR Z ρ m h σ H) : ∀ vs : List Nat, SR Z ρ (mwipe m vs) h (L2.wipe σ vs) H
  | [] => s
  | v :: vs => by
    have t := SR.wipe s vs
    refine ⟨t.hr, by show ((mwipe m vs).set v none).length = ((L2.wipe σ vs).set v none).length; simp [t.len], fun i x e => ?_⟩
    have e' : ((mwipe m vs).set v none)[i]? = some (some x) := e
    show ∃ w, ((L2.wipe σ vs).set v none)[i]? = some (some w) ∧ _
    by_cases k : v = i
    · subst k
      rw [List.getElem?_set] at e'
      rw [if_pos rfl] at e'
      split at e' <;> cases e'
    · rw [List.getElem?_set_ne k] at e' ⊢
      exact t.slot i x e'
theorem wipe_at {σ : L2.St} {j : Nat} : ∀ {vs : List Nat}, (L2.wipe σ vs)[j]? = if j ∈ vs ∧ j < σ.length then some none else σ[j]?
  | [] => by simp [L2.wipe]
  | v :: vs => by
    show ((L2.wipe σ vs).set v none)[j]? = _
    rw [List.getElem?_set, wipe_at (vs := vs), wipe_length]
    by_cases k : v = j
    · subst k
      rw [if_pos rfl]
      by_cases l : v < σ.length
      · simp [l]
      · simp [l]
    · rw [if_neg k]
      have : (j ∈ v :: vs) ↔ j ∈ vs := by simp [Ne.symm k]
      simp [this]
theorem wipe_set {σ : L2.St} {i : Nat} {o : Option V} {vs : List Nat} (hi : i ∈ vs) : L2.wipe (σ.set i o) vs = L2.wipe σ vs := by
  apply List.ext_getElem?
  intro j
  rw [wipe_at, wipe_at, List.length_set]
  by_cases e : j = i
  · subst e
    by_cases l : j < σ.length
    · rw [if_pos ⟨hi, l⟩, if_pos ⟨hi, l⟩]
    · rw [if_neg (fun z => l z.2), if_neg (fun z => l z.2), List.getElem?_eq_none (by simp; omega), List.getElem?_eq_none (by omega)]
  · rw [List.getElem?_set_ne (Ne.symm e)]
theorem wipe_wipe {σ : L2.St} {vs : List Nat} : L2.wipe (L2.wipe σ vs) vs = L2.wipe σ vs := by
  apply List.ext_getElem?
  intro j
  rw [wipe_at, wipe_at, wipe_length]
  split <;> rfl
theorem wipe_many {vs : List Nat} : ∀ {is : List Nat} {σ : L2.St} {xs : List V}, (∀ i ∈ is, i ∈ vs) → L2.wipe (setManyV σ is xs) vs = L2.wipe σ vs
  | [], σ, [], _ => rfl
  | [], σ, _ :: _, _ => rfl
  | _ :: _, σ, [], _ => rfl
  | i :: is, σ, x :: xs, h => by
    show L2.wipe (setManyV (σ.set i (some x)) is xs) vs = _
    rw [wipe_many fun j hj => h j (List.mem_cons_of_mem _ hj), wipe_set (h i List.mem_cons_self)]
inductive CT where
  | one (i : Nat) | row (is : List Nat)
def CT.set : CT → MG
  | .one i => tgName i
  | .row is => tgTup is
def CT.slots : CT → List Nat
  | .one i => [i]
  | .row is => is
def tCT (K : PySem.W.Frag) : CT → TG
  | .one i => L2.gName i
  | .row is => fun v σ H Q => L2.gTup K is.length (lNames is) v σ H Q ∨ gUnl K is.length (lNames is) v σ H Q
theorem ct_ok {Z : Zt} {ρ : List Addr} {m : ML} {h : MH} {σ : L2.St} {H : Hp} {c : CT} {x : MV} {v : V} {m' : ML} {h' : MH} {vs : List Nat} {Q : L2.St → Hp → Prop} (s : SR Z ρ m h σ H) (r : RV Z ρ H x v) (e : c.set x m h = .nx m' h')
    (hv : ∀ i ∈ c.slots, i ∈ vs) (k : ∀ σ', SR Z ρ m' h' σ' H → L2.wipe σ' vs = L2.wipe σ vs → Q σ' H) : tCT Z.K c v σ H Q := by
  cases c with
  | one i =>
    cases e
    exact k _ (s.set i r) (wipe_set (hv i (by simp [CT.slots])))
  | row is =>
    have e' : tgTup is x m h = .nx m' h' := e
    unfold tgTup at e'
    cases g : seqOf h x with
    | none => rw [g] at e'; cases e'
    | some xs =>
      rw [g] at e'
      dsimp only at e'
      by_cases z : xs.length = is.length
      · rw [if_pos z] at e'
        cases e'
        obtain ⟨a, ws, rfl, r2, hq⟩ := seqOf_or s.hr r g
        have hl : ws.length = is.length := by rw [← r2.length]; exact z
        have fin := names_run is hl (k _ (s.many r2) (wipe_many hv))
        rcases hq with hq | hq
        · exact .inr ⟨a, ws, rfl, hq, hl, fin⟩
        · exact .inl ⟨a, ws, rfl, hq, hl, fin⟩
      · rw [if_neg z] at e'; cases e'
def gLcN (it : It1) (c : CT) (t : MT) (e : ME) (D : Nat) (mw : ML) : Nat → Nat → MH → Out MV
  | 0, _, _ => .bad
  | n + 1, i, h => match it.at_ i h with
    | none => .bad
    | some none => .ok (.ref D) h
    | some (some x) => match c.set x mw h with
      | .nx m1 h1 => match t m1 h1 with
        | .ok true h2 => match e m1 h2 with
          | .ok y h3 => match h3.get D with
            | some (.lst acc) => if acc.length < 1000000 then gLcN it c t e D mw n (i + 1) (h3.set D (.lst (acc ++ [y]))) else .bad
            | _ => .bad
          | _ => .bad
        | .ok false h2 => gLcN it c t e D mw n (i + 1) h2
        | _ => .bad
      | _ => .bad
def gLc (i : MI1) (c : CT) (t : MT) (e : ME) (own : List Nat) : ME := fun m h => (i m h).bind fun it h1 => gLcN it c t e h1.n (mwipe m own) (it.size h1 + 1) 0 (h1.push (.lst []))
def gYes : MT := fun _ h => .ok true h
abbrev E00 : XK := fun _ _ _ => False
section
variable {X : Cx} {T : Nat → Addr} {E : XK} {elt tg iter : Expr} {ifs : List Expr} {scope : Scope} {own : List (Str × Nat)} {pos : Pos} {gi : MI1} {c : CT} {gt : MT} {ge : ME}
theorem lc_le {E : XK} {gi : MI1} {c : CT} {gt : MT} {ge : ME} {ow : List Nat} (hv : ∀ i ∈ c.slots, i ∈ ow) : ∀ σ H Q, tE ⟨X.K, T⟩ E (gLc gi c gt ge ow) σ H Q → tLc (tI ⟨X.K, T⟩ E gi) (tCT X.K c) (tT ⟨X.K, T⟩ E00 gt) (tE ⟨X.K, T⟩ E00 ge) ow σ H Q := by
  intro σ H Q ⟨ρ, m, h, s, q⟩
  refine ⟨ρ, m, h, s, ?_⟩
  refine (Post.bind (R := rI ⟨X.K, T⟩) q).mono fun J H1 ⟨ρ1, h1, it, e1, r1, w1, q1⟩ D hD => ?_
  have s1 := s.to e1 r1
  have x0 : Ext ρ1 H1 (ρ1 ++ [D]) (upd H1 D (.lst [])) := Ext.push hD
  have s0 : SR ⟨X.K, T⟩ (ρ1 ++ [D]) m (h1.push (.lst [])) σ (upd H1 D (.lst [])) := s1.to x0 (r1.push hD ⟨[], upd_same, .nil⟩)
  have a0 : (ρ1 ++ [D])[h1.n]? = some D := by rw [← r1.len]; simp
  generalize hD' : h1.n = d at q1 a0
  refine ⟨fun i n H2 => ∃ ρ2 h2, Ext (ρ1 ++ [D]) (upd H1 D (.lst [])) ρ2 H2 ∧ SR ⟨X.K, T⟩ ρ2 m h2 σ H2 ∧ Post ⟨X.K, T⟩ (rV ⟨X.K, T⟩) ρ2 H2 Q E (gLcN it c gt ge d (mwipe m ow) n i h2),
    ⟨_, ρ1 ++ [D], _, .refl, s0, q1.ext x0⟩, fun i n H2 ⟨ρ2, h2, e2, s2, q2⟩ => ?_⟩
  cases n with
  | zero => exact q2.elim
  | succ n =>
    have w2 := w1 i ρ2 h2 H2 (x0.trans e2) s2.hr
    unfold gLcN at q2
    cases k : it.at_ i h2 with
    | none => rw [k] at q2; exact q2.elim
    | some o =>
      rw [k] at q2 w2
      cases o with
      | none => exact .inl ⟨w2, q2.ok s2.hr (.ref (e2.at a0))⟩
      | some x =>
        refine .inr ⟨w2.1, fun H3 => ∃ ρ3 h3, Ext (ρ1 ++ [D]) (upd H1 D (.lst [])) ρ3 H3 ∧ SR ⟨X.K, T⟩ ρ3 m h3 σ H3 ∧ Post ⟨X.K, T⟩ (rV ⟨X.K, T⟩) ρ3 H3 Q E (gLcN it c gt ge d (mwipe m ow) n (i + 1) h3),
          fun H3 z => ⟨n, Nat.lt_succ_self _, z⟩, fun v H3 y => ?_⟩
        obtain ⟨ρ3, e3, r3, rv3⟩ := w2.2 v H3 y
        dsimp only at q2
        have s3 := s2.to e3 r3
        have sw := s3.wipe ow
        cases g : c.set x (mwipe m ow) h2 with
        | nx m4 h4 =>
          rw [g] at q2
          dsimp only at q2
          refine ct_ok sw rv3 g hv fun σ4 s4 hw => ⟨by rw [hw, wipe_wipe], ?_⟩
          refine ⟨ρ3, m4, h4, s4, ?_⟩
          have q3 := q2.ext e3
          generalize gt m4 h4 = ot at q3 ⊢
          cases ot with
          | bad => exact q3.elim
          | er _ _ => exact q3.elim
          | ok b h5 =>
            intro ρ5 H5 b' e5 r5 hb
            have hb' : b = b' := hb
            subst hb'
            have s5 := s4.to e5 r5
            cases b with
            | false =>
              rw [if_neg Bool.false_ne_true]
              exact ⟨ρ5, h5, (e2.trans e3).trans e5, (s3.to e5 r5), q3.ext e5⟩
            | true =>
              rw [if_pos rfl]
              dsimp only at q3
              refine ⟨ρ5, m4, h5, s5, ?_⟩
              have q4 := q3.ext e5
              generalize ge m4 h5 = oe at q4 ⊢
              cases oe with
              | bad => exact q4.elim
              | er _ _ => exact q4.elim
              | ok y6 h6 =>
                intro ρ6 H6 v6 e6 r6 rv6
                dsimp only at q4
                have q5 := q4.ext e6
                have a6 := e6.at (e5.at (e3.at (e2.at a0)))
                cases gd : h6.get d with
                | none => rw [gd] at q5; exact q5.elim
                | some od =>
                  rw [gd] at q5
                  cases od with
                  | lst acc =>
                    dsimp only at q5
                    obtain ⟨ws, h7, h8⟩ := r6.obj gd a6
                    by_cases z : acc.length < 1000000
                    · rw [if_pos z] at q5
                      have r8 : RVs ⟨X.K, T⟩ ρ6 H6 (acc ++ [y6]) (ws ++ [v6]) := RVs.app (.cons rv6 .nil) h8
                      have x7 : Ext ρ6 H6 ρ6 (upd H6 D (.lst (ws ++ [v6]))) := r6.grow gd a6 _
                      have r7 : HR ⟨X.K, T⟩ ρ6 (h6.set d (.lst (acc ++ [y6]))) (upd H6 D (.lst (ws ++ [v6]))) := r6.set gd a6 ⟨_, upd_same, r8.ext x7⟩
                      have s7 := ((s3.to e5 r5).to e6 r6).to x7 r7
                      have e7 := (((e2.trans e3).trans e5).trans e6).trans x7
                      have q7 := q5.ext x7
                      refine ⟨ws, h7, by rw [← h8.length, sizeLine_eq]; omega, ?_⟩
                      exact ⟨ρ6, _, e7, s7, q7⟩
                    · rw [if_neg z] at q5; exact q5.elim
                  | _ => exact q5.elim
        | _ => rw [g] at q2; exact q2.elim
theorem je_lc (hc : X.calm = true) (hN : X.N.Nodup) (hi : JI X T E tg iter gi) (ok : BlkOk X.N X.env.scope scope own)
    (hg : ∀ (s : Shared) (H : Hp) (C : Addr) (cl : List (Str × Addr)) (fp : List Addr), PG (X.blk s H scope (compEnvC scope cl C X.env) fp) tg (tCT X.K c))
    (ht : ∀ (s : Shared) (H : Hp) (C : Addr) (cl : List (Str × Addr)) (fp : List Addr), PTs (X.blk s H scope (compEnvC scope cl C X.env) fp) ifs (tT ⟨X.K, T⟩ E00 gt))
    (he : ∀ (s : Shared) (H : Hp) (C : Addr) (cl : List (Str × Addr)) (fp : List Addr), JE (X.blk s H scope (compEnvC scope cl C X.env) fp) T E00 elt ge)
    (hv : ∀ i ∈ c.slots, i ∈ own.map (·.2)) (hs : ∀ x, foldedSetIterable iter X.env x = pure x := by intro _; rfl) :
    JE X T E (.ListComp elt [⟨tg, iter, ifs, 0⟩] scope pos) (gLc gi c gt ge (own.map (·.2))) := by
  exact PE.le (pe_lc (te := tE ⟨X.K, T⟩ E00 ge) hc hN hi ok hg ht he hs) (lc_le hv)
theorem js_setLc {i : Nat} {y : Str} {py spos : Pos} (hy : X.N[i]? = some y) (hyl : X.env.scope.names.lookup y = some .local) (hc : X.calm = true) (hN : X.N.Nodup)
    (hsw : swapsWith (.ListComp elt [⟨tg, iter, ifs, 0⟩] scope pos) (some (.Name y py)) spos.line X.env = pure true) (hi : JI X T E tg iter gi) (ok : BlkOk X.N X.env.scope scope own)
    (hg : ∀ (s : Shared) (H : Hp) (C : Addr) (cl : List (Str × Addr)) (fp : List Addr), PG (X.blk s H scope (compEnvC scope cl C X.env) fp) tg (tCT X.K c))
    (ht : ∀ (s : Shared) (H : Hp) (C : Addr) (cl : List (Str × Addr)) (fp : List Addr), PTs (X.blk s H scope (compEnvC scope cl C X.env) fp) ifs (tT ⟨X.K, T⟩ E00 gt))
    (he : ∀ (s : Shared) (H : Hp) (C : Addr) (cl : List (Str × Addr)) (fp : List Addr), JE (X.blk s H scope (compEnvC scope cl C X.env) fp) T E00 elt ge)
    (hv : ∀ i ∈ c.slots, i ∈ own.map (·.2)) (hs : ∀ x, foldedSetIterable iter X.env x = pure x := by intro _; rfl) :
    JS X T E (.Assign [.Name y py] (.ListComp elt [⟨tg, iter, ifs, 0⟩] scope pos) spos) (gAsg (gLc gi c gt ge (own.map (·.2))) (tgName i)) :=
  PS.le (ps_setLc (te := tE ⟨X.K, T⟩ E00 ge) hc hN hy hyl hsw hi ok hg ht he hs) fun D σ H ⟨ρ, m, h, s, q⟩ => lc_le hv _ _ _ (sE s q fun ρ1 h1 H1 x v s1 e1 r1 q1 => q1 ρ1 H1 _ .refl (s1.set i r1))
end
end MI
set_option Elab.async false
set_option linter.all false
set_option maxRecDepth 100000
set_option maxHeartbeats 4000000
namespace MI
open PySem PySem.Spec PyProof.Rows L2 JB
def CallM (Z : Zt) (E : XK) (f : MF) (r : List V → Hp → VK → Prop) : Prop := ∀ ρ h H xs vs Q, HR Z ρ h H → RVs Z ρ H xs vs → Post Z (rV Z) ρ H Q E (f xs h) → r vs H Q
def gCB (f : MF) (a : MA) : ME := fun m h => (a m h).bind fun xs h1 => f xs h1
def f1 (f : MV → MH → Out MV) : MF := fun xs h => match xs with
  | [x] => f x h
  | _ => .bad
theorem CallM.one {Z : Zt} {E : XK} {f : MV → MH → Out MV} {r : List V → Hp → VK → Prop} (k : ∀ ρ h H x v Q, HR Z ρ h H → RV Z ρ H x v → Post Z (rV Z) ρ H Q E (f x h) → r [v] H Q) : CallM Z E (f1 f) r := fun ρ h H xs vs Q R r q => by
  cases r with
  | nil => exact q.elim
  | cons a r =>
    cases r with
    | nil => exact k ρ h H _ _ Q R a q
    | cons _ _ => exact q.elim
section
variable {X : Cx} {T : Nat → Addr} {E : XK} {o e : Expr} {es : List Expr} {go : ME} {ga : MA} {f : MF} {r : List V → Hp → VK → Prop} {x : Str} {id Ty : String} {p pos apos : Pos} {name : Str}
theorem je_callB (hc : CallR X (.builtin id) r) (k : CallM ⟨X.K, T⟩ E f r) (hg : Gl X x) (hm : X.mg x = none) (hv : bootBuiltins x = some (.builtin id)) (ha : JA X T E (e :: es) ga) (hn : x ≠ "__name__" := by decide) (hdb : (x == ("__debug__" : Str)) = false := by decide)
    (he : starEach (e :: es) X.env = (false, eval e X.env) :: starEach es X.env := by rfl) (hpl : (backTo pos (starEach es X.env)).any (·.1) = false := by rfl) : JE X T E (.Call (.Name x p) (e :: es) [] pos) (gCB f ga) :=
  PE.le (pe_callB hc hg hm hv ha hn hdb he hpl) fun σ H Q ⟨ρ, m, h, s, q⟩ => stepA s q fun ρ1 h1 H1 xs vs s1 e1 r1 q1 => k ρ1 h1 H1 xs vs Q s1.hr r1 q1
theorem je_callT (hc : CallR X (.type Ty) r) (k : CallM ⟨X.K, T⟩ E f r) (hg : Gl X x) (hm : X.mg x = none) (hv : bootBuiltins x = some (.type Ty)) (ha : JA X T E (e :: es) ga) (hn : x ≠ "__name__" := by decide) (hdb : (x == ("__debug__" : Str)) = false := by decide)
    (he : starEach (e :: es) X.env = (false, eval e X.env) :: starEach es X.env := by rfl) (hpl : (backTo pos (starEach es X.env)).any (·.1) = false := by rfl) : JE X T E (.Call (.Name x p) (e :: es) [] pos) (gCB f ga) :=
  PE.le (pe_callTy hc hg hm hv ha hn hdb he hpl) fun σ H Q ⟨ρ, m, h, s, q⟩ => stepA s q fun ρ1 h1 H1 xs vs s1 e1 r1 q1 => k ρ1 h1 H1 xs vs Q s1.hr r1 q1
def MethM (Z : Zt) (E : XK) (f : MV → MF) (r : V → List V → Hp → VK → Prop) : Prop := ∀ ρ h H x v xs vs Q, HR Z ρ h H → RV Z ρ H x v → RVs Z ρ H xs vs → Post Z (rV Z) ρ H Q E (f x xs h) → r v vs H Q
def isTy (h : MH) (Ty : String) : MV → Bool
  | .str _ => Ty == "str"
  | .int _ => Ty == "int"
  | .fls _ => Ty == "list"
  | .ref i => match h.get i with
    | some (.lst _) => Ty == "list"
    | some (.dic _) => Ty == "dict"
    | some (.dit _) => Ty == "dict"
    | _ => false
  | _ => false
theorem isTy_ok {Z : Zt} {ρ : List Addr} {h : MH} {H : Hp} {y : MV} {v : V} (R : HR Z ρ h H) (r : RV Z ρ H y v) (e : isTy h Ty y = true) : tyV Z.K Ty v H := by
  cases r with
  | str s => exact beq_iff_eq.mp e
  | int i => exact beq_iff_eq.mp e
  | fls h1 r1 => exact .inl ⟨beq_iff_eq.mp e, _, h1.sq⟩
  | @ref i a hi =>
    dsimp only [isTy] at e
    cases g : h.get i with
    | none => rw [g] at e; cases e
    | some ob =>
      rw [g] at e
      cases ob with
      | lst xs =>
        obtain ⟨vs, h1, _⟩ := R.obj g hi
        exact .inl ⟨beq_iff_eq.mp e, vs, .inl (.inl h1)⟩
      | dic kvs =>
        obtain ⟨vs, h1, _⟩ := R.obj g hi
        exact .inr (.inr (.inl ⟨beq_iff_eq.mp e, .inl ⟨vs, h1⟩⟩))
      | dit kvs =>
        obtain ⟨vs, h1, _⟩ := R.obj g hi
        exact .inr (.inr (.inl ⟨beq_iff_eq.mp e, .inr ⟨vs, h1⟩⟩))
      | _ => cases e
  | _ => cases e
def gBM (Ty : String) (f : MV → MF) (o : ME) (a : MA) : ME := fun m h => (o m h).bind fun x h1 => if isTy h1 Ty x = true then (a m h1).bind fun xs h2 => f x xs h2 else .bad
theorem je_bm {fm : MV → MF} {rm : V → List V → Hp → VK → Prop} (pa : PlainAttrs Ty) (slot : Slot Ty name id) (hty : typeOf (.builtin id) = pure (.type "method_descriptor")) (hm : MtR X id rm) (k : MethM ⟨X.K, T⟩ E fm rm) (ho : JE X T E o go) (ha : JA X T E (e :: es) ga)
    (hbase : attributeBase o name X.env (eval o X.env) = eval o X.env := by rfl)
    (hfew : ((backTo pos (starEach (e :: es) X.env)).all (fun x => !x.1) && (backToKw pos (keywordEach [] X.env)).all (fun x => x.1.isSome)
      && decide ((e :: es).length + ([] : List Keyword).length + (if ([] : List Keyword).isEmpty then 0 else 1) < 30)) = true := by rfl)
    (hline : (apos.endLine == pos.line) = true := by rfl) (hs : starEach (e :: es) X.env = (false, eval e X.env) :: starEach es X.env := by rfl) (hplain : (backTo pos (starEach es X.env)).any (·.1) = false := by rfl) :
    JE X T E (.Call (.Attribute o name apos) (e :: es) [] pos) (gBM Ty fm go ga) :=
  PE.le (pe_bm pa slot hty hm ho ha hbase hfew hline hs hplain) fun σ H Q ⟨ρ, m, h, s, q⟩ => stepE s q fun ρ1 h1 H1 y v s1 e1 r1 q1 => by
    by_cases z : isTy h1 Ty y = true
    · rw [if_pos z] at q1
      exact ⟨isTy_ok s1.hr r1 z, stepA s1 q1 fun ρ2 h2 H2 xs vs s2 e2 r2 q2 => k ρ2 h2 H2 y v xs vs Q s2.hr (r1.ext e2) r2 q2⟩
    · rw [if_neg z] at q1; exact q1.elim
theorem je_bm0 {fm : MV → MF} {rm : V → List V → Hp → VK → Prop} (pa : PlainAttrs Ty) (slot : Slot Ty name id) (hty : typeOf (.builtin id) = pure (.type "method_descriptor")) (hm : MtR X id rm) (k : MethM ⟨X.K, T⟩ E fm rm) (ho : JE X T E o go)
    (hbase : attributeBase o name X.env (eval o X.env) = eval o X.env := by rfl) (hline : (apos.endLine == pos.line) = true := by rfl) :
    JE X T E (.Call (.Attribute o name apos) [] [] pos) (gBM Ty fm go gNil) :=
  PE.le (pe_bm0 pa slot hty hm ho hbase hline) fun σ H Q ⟨ρ, m, h, s, q⟩ => stepE s q fun ρ1 h1 H1 y v s1 e1 r1 q1 => by
    by_cases z : isTy h1 Ty y = true
    · rw [if_pos z] at q1
      exact ⟨isTy_ok s1.hr r1 z, k ρ1 h1 H1 y v [] [] Q s1.hr r1 .nil q1⟩
    · rw [if_neg z] at q1; exact q1.elim
end
def mLenV (x : MV) (h : MH) : Out MV := match mLen h x with
  | some n => .ok (.int n) h
  | none => .bad
def mList (x : MV) (h : MH) : Out MV := match seqOf h x with
  | some xs => .ok (.ref h.n) (h.push (.lst xs))
  | none => .bad
def mTuple (x : MV) (h : MH) : Out MV := match x with
  | .tup xs => .ok (.tup xs) h
  | .ktp xs => .ok (.ktp xs) h
  | x => match seqOf h x with
    | some xs => .ok (.tup xs) h
    | none => .bad
def mAbs (x : MV) (h : MH) : Out MV := match x with
  | .int i => .ok (.int (if i < 0 then -i else i)) h
  | _ => .bad
def lApp (x : MV) (xs : List MV) (h : MH) : Out MV := match x, xs with
  | .ref i, [y] => match h.get i with
    | some (.lst l) => if l.length < 1000000 then .ok .non (h.set i (.lst (l ++ [y]))) else .bad
    | _ => .bad
  | _, _ => .bad
def lExt (x : MV) (xs : List MV) (h : MH) : Out MV := match x, xs with
  | .ref i, [.ref j] => match h.get i, h.get j with
    | some (.lst l), some (.lst r) => if l.length + r.length < 1000000 then .ok .non (h.set i (.lst (l ++ r))) else .bad
    | _, _ => .bad
  | _, _ => .bad
def lPop (x : MV) (xs : List MV) (h : MH) : Out MV := match x, xs with
  | .ref i, [] => match h.get i with
    | some (.lst l) => match l[l.length - 1]? with
      | some y => .ok y (h.set i (.lst l.dropLast))
      | none => .bad
    | _ => .bad
  | _, _ => .bad
section
variable {X : Cx} {T : Nat → Addr} {E : XK}
theorem RVs.dropLast {Z : Zt} {ρ : List Addr} {H : Hp} : ∀ {xs : List MV} {vs : List V}, RVs Z ρ H xs vs → RVs Z ρ H xs.dropLast vs.dropLast
  | _, _, .nil => .nil
  | _, _, .cons a .nil => .nil
  | _, _, .cons a (.cons b r) => .cons a (RVs.dropLast (.cons b r))
theorem mm_app {Z : Zt} : MethM Z E lApp rAppend := fun ρ h H x v xs vs Q R r rs q => by
  cases r with
  | @ref i a hi =>
    cases rs with
    | nil => exact q.elim
    | @cons y w xs vs ry rs =>
      cases rs with
      | cons _ _ => exact q.elim
      | nil =>
        have q' : Post Z (rV Z) ρ H Q E (match h.get i with
          | some (.lst l) => if l.length < 1000000 then .ok .non (h.set i (.lst (l ++ [y]))) else .bad
          | _ => .bad) := q
        cases g : h.get i with
        | none => rw [g] at q'; exact q'.elim
        | some ob =>
          rw [g] at q'
          cases ob with
          | lst l =>
            dsimp only at q'
            obtain ⟨ws, h1, h2⟩ := R.obj g hi
            by_cases z : l.length < 1000000
            · rw [if_pos z] at q'
              have x1 : Ext ρ H ρ (upd H a (.lst (ws ++ [w]))) := R.grow g hi _
              have r8 : RVs Z ρ H (l ++ [y]) (ws ++ [w]) := RVs.app (.cons ry .nil) h2
              exact ⟨a, ws, w, rfl, rfl, h1, by rw [← h2.length, sizeLine_eq]; omega, q' ρ _ .non x1 (R.set g hi ⟨_, upd_same, r8.ext x1⟩) .non⟩
            · rw [if_neg z] at q'; exact q'.elim
          | _ => exact q'.elim
  | _ => exact q.elim
theorem mm_pop {Z : Zt} : MethM Z E lPop rPop := fun ρ h H x v xs vs Q R r rs q => by
  cases r with
  | @ref i a hi =>
    cases rs with
    | cons _ _ => exact q.elim
    | nil =>
      have q' : Post Z (rV Z) ρ H Q E (match h.get i with
        | some (.lst l) => match l[l.length - 1]? with
          | some y => .ok y (h.set i (.lst l.dropLast))
          | none => .bad
        | _ => .bad) := q
      cases g : h.get i with
      | none => rw [g] at q'; exact q'.elim
      | some ob =>
        rw [g] at q'
        cases ob with
        | lst l =>
          dsimp only at q'
          obtain ⟨ws, h1, h2⟩ := R.obj g hi
          cases k : l[l.length - 1]? with
          | none => rw [k] at q'; exact q'.elim
          | some y =>
            rw [k] at q'
            obtain ⟨w, h3, h4⟩ := h2.get k
            have x1 : Ext ρ H ρ (upd H a (.lst ws.dropLast)) := R.grow g hi _
            exact ⟨a, ws, w, rfl, rfl, h1, by rw [← h2.length]; exact h3, q' ρ _ w x1 (R.set g hi ⟨_, upd_same, (h2.dropLast).ext x1⟩) (h4.ext x1)⟩
        | _ => exact q'.elim
  | _ => exact q.elim
theorem mm_ext {Z : Zt} : MethM Z E lExt rExtend := fun ρ h H x v xs vs Q R r rs q => by
  cases r with
  | @ref i a hi =>
    cases rs with
    | nil => exact q.elim
    | @cons y w xs vs ry rs =>
      cases rs with
      | cons _ _ => cases ry <;> exact q.elim
      | nil =>
        cases ry with
        | @ref j b hj =>
          have q' : Post Z (rV Z) ρ H Q E (match h.get i, h.get j with
            | some (.lst l), some (.lst r) => if l.length + r.length < 1000000 then .ok .non (h.set i (.lst (l ++ r))) else .bad
            | _, _ => .bad) := q
          cases g : h.get i with
          | none => rw [g] at q'; exact q'.elim
          | some ob =>
            cases g2 : h.get j with
            | none => rw [g, g2] at q'; cases ob <;> exact q'.elim
            | some ob2 =>
              rw [g, g2] at q'
              cases ob with
              | lst l =>
                cases ob2 with
                | lst l2 =>
                  dsimp only at q'
                  obtain ⟨ws, h1, h2⟩ := R.obj g hi
                  obtain ⟨ws2, h3, h4⟩ := R.obj g2 hj
                  by_cases z : l.length + l2.length < 1000000
                  · rw [if_pos z] at q'
                    have x1 : Ext ρ H ρ (upd H a (.lst (ws ++ ws2))) := R.grow g hi _
                    exact ⟨a, b, ws, ws2, rfl, rfl, h1, h3, by rw [← h2.length, ← h4.length, sizeLine_eq]; omega, q' ρ _ .non x1 (R.set g hi ⟨_, upd_same, (RVs.app h4 h2).ext x1⟩) .non⟩
                  · rw [if_neg z] at q'; exact q'.elim
                | _ => exact q'.elim
              | _ => exact q'.elim
        | _ => exact q.elim
  | _ => exact q.elim
theorem mc_abs {Z : Zt} : CallM Z E (f1 mAbs) (fun xs H Q => ∃ i, xs = [.int i] ∧ Q (.int (if i < 0 then -i else i)) H) := .one fun ρ h H x v Q R r q => by
  cases r with
  | int i => exact ⟨i, rfl, q.ok R (.int _)⟩
  | _ => exact q.elim
abbrev rLenM (K : PySem.W.Frag) : List V → Hp → VK → Prop := fun xs H Q => (∃ x n, xs = [x] ∧ LenV K x H n ∧ Q (.int n) H) ∨ (∃ a kvs, xs = [V.ref a] ∧ H a = some (.dK kvs) ∧ Q (.int kvs.length) H)
theorem mc_len {Z : Zt} : CallM Z E (f1 mLenV) (rLenM Z.K) := .one fun ρ h H x v Q R r q => by
  unfold mLenV at q
  cases k : mLen h x with
  | none => rw [k] at q; exact q.elim
  | some n =>
    rw [k] at q
    have fin : Q (.int n) H := Post.ok (R := rV Z) (a := .int n) q R (.int _)
    cases r with
    | str s =>
      dsimp only [mLen] at k
      split at k
      · cases k
        refine .inl ⟨_, _, rfl, ⟨?_, rfl⟩, ?_⟩
        · show s.toArray.size ≤ sizeLine
          rw [sizeLine_eq]; simp; omega
        · have : (⟨s.toArray⟩ : Str).length = s.length := by show s.toArray.size = _; simp
          rw [this]; exact fin
      · cases k
    | tup h1 r1 => cases k; exact .inl ⟨_, _, rfl, .inr ⟨_, .inl (.inl h1), rfl⟩, by rw [← r1.length]; exact fin⟩
    | ktp h1 r1 => cases k; exact .inl ⟨_, _, rfl, .inr ⟨_, ktp_sq h1, rfl⟩, by rw [← r1.length]; exact fin⟩
    | fls h1 r1 => cases k; exact .inl ⟨_, _, rfl, .inl ⟨_, h1.sq, rfl⟩, by rw [← r1.length]; exact fin⟩
    | @ref i a hi =>
      dsimp only [mLen] at k
      cases g : h.get i with
      | none => rw [g] at k; cases k
      | some ob =>
        rw [g] at k
        cases ob with
        | lst l =>
          cases k
          obtain ⟨ws, h1, h2⟩ := R.obj g hi
          exact .inl ⟨_, _, rfl, .inl ⟨ws, .inl (.inl h1), rfl⟩, by rw [← h2.length]; exact fin⟩
        | dic l =>
          cases k
          obtain ⟨ws, h1, h2⟩ := R.obj g hi
          exact .inr ⟨a, ws, rfl, h1, by rw [← h2.length]; exact fin⟩
        | _ => cases k
    | _ => cases k
theorem call_lenM : CallR X (.builtin "len") (rLenM X.K) := CallR.or call_len call_lenD
theorem mc_list {Z : Zt} : CallM Z E (f1 mList) (fun xs H Q => ∃ p ys, xs = [.ref p] ∧ (SqL Z.K H p ys ∨ SqT Z.K H p ys) ∧ ∀ l, H l = none → Q (.ref l) (upd H l (.lst ys))) := .one fun ρ h H x v Q R r q => by
  unfold mList at q
  cases k : seqOf h x with
  | none => rw [k] at q; exact q.elim
  | some xs =>
    rw [k] at q
    obtain ⟨a, vs, rfl, r2, hq⟩ := seqOf_or R r k
    have q' : Post Z (rV Z) ρ H Q E (.ok (.ref h.n) (h.push (.lst xs))) := q
    exact ⟨a, vs, rfl, hq, fun l hl => q' (ρ ++ [l]) _ _ (Ext.push hl) (R.push hl ⟨vs, upd_same, r2.ext (Ext.push hl)⟩) (.ref (by rw [← R.len]; simp))⟩
theorem mc_tuple {Z : Zt} : CallM Z E (f1 mTuple) (fun xs H Q => ∃ p ys, xs = [.ref p] ∧ ((SqL Z.K H p ys ∧ ∀ l, H l = none → Q (.ref l) (upd H l (.tup ys))) ∨ (SqT Z.K H p ys ∧ Q (.ref p) H))) := .one fun ρ h H x v Q R r q => by
  cases r with
  | tup h1 r1 => exact ⟨_, _, rfl, .inr ⟨.inl (.inl h1), Post.ok (R := rV Z) (a := .tup _) q R (.tup h1 r1)⟩⟩
  | ktp h1 r1 => exact ⟨_, _, rfl, .inr ⟨ktp_sq h1, Post.ok (R := rV Z) (a := .ktp _) q R (.ktp h1 r1)⟩⟩
  | @fls a xs vs h1 r1 =>
    have q' : Post Z (rV Z) ρ H Q E (.ok (.tup xs) h) := q
    exact ⟨a, vs, rfl, .inl ⟨h1.sq, fun l hl => q' ρ _ _ (Ext.still1 hl) (R.still1 hl) (.tup upd_same (r1.ext (Ext.still1 hl)))⟩⟩
  | @ref i a hi =>
    have q' : Post Z (rV Z) ρ H Q E (match seqOf h (.ref i) with
      | some xs => .ok (.tup xs) h
      | none => .bad) := q
    dsimp only [seqOf] at q'
    cases g : h.get i with
    | none => rw [g] at q'; exact q'.elim
    | some ob =>
      rw [g] at q'
      cases ob with
      | lst xs =>
        obtain ⟨vs, h1, h2⟩ := R.obj g hi
        exact ⟨a, vs, rfl, .inl ⟨.inl (.inl h1), fun l hl => q' ρ _ _ (Ext.still1 hl) (R.still1 hl) (.tup upd_same (h2.ext (Ext.still1 hl)))⟩⟩
      | _ => exact q'.elim
  | _ => exact q.elim
end
end MI
set_option Elab.async false
set_option linter.all false
set_option maxRecDepth 100000
set_option maxHeartbeats 4000000
namespace MI
open PySem PySem.Spec PyProof.Rows L2 JB
def putM (h : MH) (x y z : MV) : Option MH := if isD h x = true then dPutM h x y z else match x, y with
  | .ref i, .int k => match h.get i with
    | some (.lst xs) => match ixN xs.length k with
      | some j => some (h.set i (.lst (xs.set j z)))
      | none => none
    | _ => none
  | _, _ => none
theorem RVs.set {Z : Zt} {ρ : List Addr} {H : Hp} : ∀ {xs : List MV} {vs : List V} (j : Nat) {z : MV} {w : V}, RVs Z ρ H xs vs → RV Z ρ H z w → RVs Z ρ H (xs.set j z) (vs.set j w)
  | _, _, _, _, _, .nil, _ => .nil
  | _, _, 0, _, _, .cons a r, q => .cons q r
  | _, _, j + 1, _, _, .cons a r, q => .cons a (RVs.set j r q)
theorem PSet.or {X : Cx} {t t' : TSet} (p : PSet X t) (q : PSet X t') : PSet X (fun o i v H Q => t o i v H Q ∨ t' o i v H Q) := fun pins s σ H o i v ov iv u Q I r1 r2 r3 h =>
  h.elim (p pins s σ H o i v ov iv u Q I r1 r2 r3) (q pins s σ H o i v ov iv u Q I r1 r2 r3)
def tgSub (o i : ME) : MG := fun z m h => (o m h).bindS fun x h1 => (i m h1).bindS fun y h2 => match putM h2 x y z with
  | some h3 => .nx m h3
  | none => .bad
section
variable {X : Cx} {T : Nat → Addr} {E : XK} {o i e a b : Expr} {rest : List Expr} {go gi ga gb : ME} {pos p : Pos}
theorem put_ok {Z : Zt} {ρ : List Addr} {h h' : MH} {H : Hp} {x y z : MV} {v w u : V} {Q : Hp → Prop} (R : HR Z ρ h H) (r : RV Z ρ H x v) (q : RV Z ρ H y w) (t : RV Z ρ H z u) (e : putM h x y z = some h')
    (k : ∀ H', Ext ρ H ρ H' → HR Z ρ h' H' → Q H') : rSetL v w u H Q ∨ rSetD v w u H Q := by
  unfold putM at e
  by_cases d : isD h x = true
  · rw [if_pos d] at e
    obtain ⟨a, H', rfl, p1, p2, p3⟩ := dPut_ok R r q t e
    exact .inr ⟨a, H', rfl, p1, k H' p2 p3⟩
  · rw [if_neg d] at e
    cases r with
    | @ref j a hj =>
      cases q with
      | int n =>
        dsimp only at e
        cases g : h.get j with
        | none => rw [g] at e; cases e
        | some ob =>
          rw [g] at e
          cases ob with
          | lst xs =>
            dsimp only at e
            obtain ⟨vs, h1, h2⟩ := R.obj g hj
            cases k1 : ixN xs.length n with
            | none => rw [k1] at e; cases e
            | some j' =>
              rw [k1] at e
              cases e
              have x1 : Ext ρ H ρ (upd H a (.lst (vs.set j' u))) := R.grow g hj _
              exact .inl ⟨a, vs, n, j', rfl, rfl, h1, by rw [← h2.length]; exact k1, k _ x1 (R.set g hj ⟨_, upd_same, (RVs.set j' h2 t).ext x1⟩)⟩
          | _ => cases e
      | _ => cases e
    | _ => cases e
theorem jg_sub (hu : X.A.units + 1 < cLine) (ho : JE X T E o go) (hi : JE X T E i gi) (ha : ∀ v, assign (.Subscript o i pos) X.env v = (do
      let ov ← holding [v] (eval o X.env)
      let iv ← holding [v, ov] (eval i X.env)
      standAt pos
      holding [v, ov, iv] (setItem ov iv v)
      release [v, ov, iv] []) := by intro _; rfl) : JG X T E (.Subscript o i pos) (tgSub go gi) :=
  PG.le (pg_sub ho hi (PSet.or set_list (set_dict hu)) ha) fun v σ H Q ⟨ρ, m, h, z, s, r, q⟩ => sE s q fun ρ1 h1 H1 x vx s1 e1 r1 q1 => sE s1 q1 fun ρ2 h2 H2 y vy s2 e2 r2 q2 => by
    cases k : putM h2 x y z with
    | none => rw [k] at q2; exact q2.elim
    | some h3 =>
      rw [k] at q2
      exact put_ok s2.hr (r1.ext e2) r2 ((r.ext e1).ext e2) k fun H' x1 R1 => q2 ρ2 H' σ x1 (s2.to x1 R1)
def gOrT (a b : ME) : ME := fun m h => (a m h).bind fun x h1 => match mTru h1 x with
  | some true => .ok x h1
  | some false => b m h1
  | none => .bad
def gAndT (a b : ME) : ME := fun m h => (a m h).bind fun x h1 => match mTru h1 x with
  | some true => b m h1
  | some false => .ok x h1
  | none => .bad
theorem je_andT (ha : JE X T E a ga) (hb : JE X T E (.BoolOp .And (b :: rest) pos) gb) : JE X T E (.BoolOp .And (a :: b :: rest) pos) (gAndT ga gb) :=
  PE.le (pe_andT ha hb) fun σ H Q ⟨ρ, m, h, s, q⟩ => stepE s q fun ρ1 h1 H1 x v s1 e1 r1 q1 => by
    cases k : mTru h1 x with
    | none => rw [k] at q1; exact q1.elim
    | some c =>
      rw [k] at q1
      refine ⟨c, mTru_ok s1.hr r1 k, ?_⟩
      cases c with
      | true => exact endE s1 q1
      | false => exact Post.ok (R := rV ⟨X.K, T⟩) (a := x) q1 s1.hr r1
def mcut {α : Type} (xs : List α) (lo hi : Option Int) : List α := (xs.drop (HT.sIx xs.length 0 lo)).take (HT.sIx xs.length xs.length hi - HT.sIx xs.length 0 lo)
theorem RVs.drop {Z : Zt} {ρ : List Addr} {H : Hp} : ∀ {xs : List MV} {vs : List V} (n : Nat), RVs Z ρ H xs vs → RVs Z ρ H (xs.drop n) (vs.drop n)
  | _, _, 0, r => r
  | _, _, _ + 1, .nil => .nil
  | _, _, n + 1, .cons _ r => RVs.drop n r
theorem RVs.take {Z : Zt} {ρ : List Addr} {H : Hp} : ∀ {xs : List MV} {vs : List V} (n : Nat), RVs Z ρ H xs vs → RVs Z ρ H (xs.take n) (vs.take n)
  | _, _, 0, _ => by rw [List.take_zero, List.take_zero]; exact .nil
  | _, _, _ + 1, .nil => .nil
  | _, _, n + 1, .cons a r => .cons a (RVs.take n r)
theorem RVs.cut {Z : Zt} {ρ : List Addr} {H : Hp} {xs : List MV} {vs : List V} (r : RVs Z ρ H xs vs) (lo hi : Option Int) : RVs Z ρ H (mcut xs lo hi) (cutV vs lo hi) := by
  unfold mcut cutV
  rw [r.length]
  exact (r.drop _).take _
def mSl (x : MV) (lo hi : Option Int) (h : MH) : Out MV := match x with
  | .str s => if s.length ≤ 1000000 then .ok (.str (mcut s lo hi)) h else .bad
  | .tup xs => .ok (.tup (mcut xs lo hi)) h
  | x => if isL x = true then match seqOf h x with
      | some xs => .ok (.ref h.n) (h.push (.lst (mcut xs lo hi)))
      | none => .bad
    else .bad
abbrev MP := ML → MH → Out (Option Int)
def gPn : MP := fun _ h => .ok none h
def gPs (a : ME) : MP := fun m h => (a m h).bind fun x h1 => match x with
  | .int i => .ok (some i) h1
  | _ => .bad
def gSl (o : ME) (l u : MP) : ME := fun m h => (o m h).bind fun x h1 => (l m h1).bind fun lo h2 => (u m h2).bind fun hi h3 => mSl x lo hi h3
abbrev rO : Rl (Option Int) (Option Int) := fun _ _ x v => x = v
def tP (Z : Zt) (E : XK) (g : MP) : TO := fun σ H Q => ∃ ρ m h, SR Z ρ m h σ H ∧ Post Z rO ρ H Q E (g m h)
abbrev JP (X : Cx) (T : Nat → Addr) (E : XK) (e : Option Expr) (g : MP) : Prop := PO X e (tP ⟨X.K, T⟩ E g)
theorem PO.le {e : Option Expr} {t t' : TO} (p : PO X e t) (k : ∀ σ H Q, t' σ H Q → t σ H Q) : PO X e t' := ⟨fun pins s σ H Q I h => p.run pins s σ H Q I (k σ H Q h)⟩
theorem jp_none : JP X T E none gPn := PO.le po_none fun σ H Q ⟨ρ, m, h, s, q⟩ => q.ok s.hr rfl
theorem jp_some (ha : JE X T E a ga) : JP X T E (some a) (gPs ga) := PO.le (po_some ha) fun σ H Q ⟨ρ, m, h, s, q⟩ => stepE s q fun ρ1 h1 H1 x v s1 e1 r1 q1 => by
  cases r1 with
  | int i => exact ⟨i, rfl, q1.ok s1.hr rfl⟩
  | _ => exact q1.elim
theorem stepP {γ δ : Type} {Z : Zt} {ρ : List Addr} {m : ML} {h : MH} {σ : L2.St} {H : Hp} {R' : Rl γ δ} {Q : δ → Hp → Prop} {Q' : Option Int → Hp → Prop} {g : MP} {k : Option Int → MH → Out γ} (s : SR Z ρ m h σ H) (p : Post Z R' ρ H Q E ((g m h).bind k))
    (n : ∀ ρ1 h1 H1 a, SR Z ρ1 m h1 σ H1 → Ext ρ H ρ1 H1 → Post Z R' ρ1 H1 Q E (k a h1) → Q' a H1) : tP Z E g σ H Q' :=
  ⟨ρ, m, h, s, (Post.bind (R := rO) p).mono fun b H' ⟨ρ1, h1, a, e, r, q, z⟩ => by have q' : a = b := q; rw [← q']; exact n ρ1 h1 H' a (s.to e r) e z⟩
abbrev rSlM (K : PySem.W.Frag) : V → Option Int → Option Int → Hp → VK → Prop := fun x lo hi H Q => rSlL K x lo hi H Q ∨ (rSlA K x lo hi H Q ∨ rSlS x lo hi H Q)
theorem whole_cut {vs : List V} {lo hi : Option Int} (h : HT.sIx vs.length 0 lo = 0 ∧ HT.sIx vs.length vs.length hi = vs.length) : cutV vs lo hi = vs := by
  unfold cutV
  rw [h.1, h.2]; simp
theorem sl_M {Z : Zt} {ρ : List Addr} {h : MH} {H : Hp} {x : MV} {v : V} {lo hi : Option Int} {Q : VK} (R : HR Z ρ h H) (r : RV Z ρ H x v) (q : Post Z (rV Z) ρ H Q E (mSl x lo hi h)) : rSlM Z.K v lo hi H Q := by
  cases r with
  | str s =>
    have q' : Post Z (rV Z) ρ H Q E (if s.length ≤ 1000000 then .ok (.str (mcut s lo hi)) h else .bad) := q
    by_cases z : s.length ≤ 1000000
    · rw [if_pos z] at q'
      refine .inr (.inr ⟨_, rfl, by show s.toArray.size ≤ sizeLine; rw [sizeLine_eq]; simp; omega, ?_⟩)
      exact q'.ok R (.str _)
    · rw [if_neg z] at q'; exact q'.elim
  | @tup a xs vs h1 r1 =>
    have q' : Post Z (rV Z) ρ H Q E (.ok (.tup (mcut xs lo hi)) h) := q
    refine .inr (.inl ⟨a, vs, rfl, .inl (.inl h1), fun w => ?_, fun w p hp => ?_⟩)
    · refine q'.ok R (.tup h1 ?_)
      have := r1.cut lo hi
      rw [whole_cut w] at this
      exact this
    · exact q' ρ _ _ (Ext.still1 hp) (R.still1 hp) (.tup upd_same ((r1.cut lo hi).ext (Ext.still1 hp)))
  | @fls a xs vs h1 r1 =>
    have q' : Post Z (rV Z) ρ H Q E (.ok (.ref h.n) (h.push (.lst (mcut xs lo hi)))) := q
    exact .inl ⟨a, vs, rfl, h1.sq, fun p hp => q' (ρ ++ [p]) _ _ (Ext.push hp) (R.push hp ⟨_, upd_same, (r1.cut lo hi).ext (Ext.push hp)⟩) (.ref (by rw [← R.len]; simp))⟩
  | @ref i a hi' =>
    have q' : Post Z (rV Z) ρ H Q E (match seqOf h (.ref i) with
      | some xs => .ok (.ref h.n) (h.push (.lst (mcut xs lo hi)))
      | none => .bad) := q
    dsimp only [seqOf] at q'
    cases g : h.get i with
    | none => rw [g] at q'; exact q'.elim
    | some ob =>
      rw [g] at q'
      cases ob with
      | lst xs =>
        obtain ⟨vs, h1, h2⟩ := R.obj g hi'
        exact .inl ⟨a, vs, rfl, .inl (.inl h1), fun p hp => q' (ρ ++ [p]) _ _ (Ext.push hp) (R.push hp ⟨_, upd_same, (h2.cut lo hi).ext (Ext.push hp)⟩) (.ref (by rw [← R.len]; simp))⟩
      | _ => exact q'.elim
  | _ => exact q.elim
theorem je_slice {lo hi : Option Expr} {gl gu : MP} {p2 : Pos} (ho : JE X T E o go) (hl : JP X T E lo gl) (hu : JP X T E hi gu) : JE X T E (.Subscript o (.Slice lo hi none p2) pos) (gSl go gl gu) :=
  PE.le (pe_slice (SlR.or sl_list (SlR.or sl_tupA sl_str)) ho hl hu) fun σ H Q ⟨ρ, m, h, s, q⟩ => stepE s q fun ρ1 h1 H1 x v s1 e1 r1 q1 => stepP s1 q1 fun ρ2 h2 H2 l s2 e2 q2 => stepP s2 q2 fun ρ3 h3 H3 u s3 e3 q3 =>
    sl_M s3.hr ((r1.ext e2).ext e3) q3
end
end MI
set_option Elab.async false
set_option linter.all false
set_option maxRecDepth 100000
set_option maxHeartbeats 4000000
namespace MI
open PySem PySem.Spec PyProof.Rows L2 JB
def gPar (i j : Nat) (a : MA) : MS := fun m h => (a m h).bindS fun xs h1 => match xs with
  | [x, y] => .nx ((m.set i (some x)).set j (some y)) h1
  | _ => .bad
def mInt (x : MV) (h : MH) : Out MV := match x with
  | .int i => .ok (.int i) h
  | .bl b => .ok (.int (if b = true then 1 else 0)) h
  | _ => .bad
section
variable {X : Cx} {T : Nat → Addr} {E : XK} {a b : Expr} {ga : MA} {pos : Pos}
theorem sA {Z : Zt} {ρ : List Addr} {m : ML} {h : MH} {σ : L2.St} {H : Hp} {D : Ends} {Q' : List V → Hp → Prop} {g : MA} {k : List MV → MH → SO} (s : SR Z ρ m h σ H) (p : PostS Z ρ H D E ((g m h).bindS k))
    (n : ∀ ρ1 h1 H1 a v, SR Z ρ1 m h1 σ H1 → Ext ρ H ρ1 H1 → RVs Z ρ1 H1 a v → PostS Z ρ1 H1 D E (k a h1) → Q' v H1) : tA Z E g σ H Q' :=
  ⟨ρ, m, h, s, p.bind.mono fun b H' ⟨ρ1, h1, a, e, r, q, z⟩ => n ρ1 h1 H' a b (s.to e r) e q z⟩
theorem js_par {i j : Nat} {x y : Str} {px py pt : Pos} {kt k2 pt2} (hc : X.calm = true) (hN : X.N.Nodup) (hi : X.N[i]? = some x) (hj : X.N[j]? = some y) (hij : i ≠ j)
    (hx : X.env.scope.names.lookup x = some .local) (hy : X.env.scope.names.lookup y = some .local) (ha : JA X T E [a, b] ga)
    (hw : swappedStores [.Tuple [.Name x px, .Name y py] kt pt] (.Tuple [a, b] k2 pt2) X.env = pure (some [x, y]) := by rfl)
    (hs : swapsWithSole [.Tuple [.Name x px, .Name y py] kt pt] (.Tuple [a, b] k2 pt2) pos.line X.env = pure false := by rfl) :
    JS X T E (.Assign [.Tuple [.Name x px, .Name y py] kt pt] (.Tuple [a, b] k2 pt2) pos) (gPar i j ga) :=
  PS.le (ps_par hc hN hi hj hij hx hy ha hw hs) fun D σ H ⟨ρ, m, h, s, q⟩ => sA s q fun ρ1 h1 H1 xs vs s1 e1 r1 q1 => by
    cases r1 with
    | nil => exact q1.elim
    | cons ra r1 =>
      cases r1 with
      | nil => exact q1.elim
      | cons rb r1 =>
        cases r1 with
        | cons _ _ => exact q1.elim
        | nil => exact ⟨_, _, rfl, q1 ρ1 H1 _ .refl ((s1.set i ra).set j rb)⟩
theorem mc_int {Z : Zt} : CallM Z E (f1 mInt) (fun xs H Q => (∃ i, xs = [.int i] ∧ Q (.int i) H) ∨ ∃ k, xs = [.bl k] ∧ Q (.int (if k then 1 else 0)) H) := .one fun ρ h H x v Q R r q => by
  cases r with
  | int i => exact .inl ⟨i, rfl, q.ok R (.int _)⟩
  | bl b => exact .inr ⟨b, rfl, Post.ok (R := rV Z) (a := .int (if b = true then 1 else 0)) q R (.int _)⟩
  | _ => exact q.elim
end
end MI
set_option Elab.async false
set_option linter.all false
set_option maxRecDepth 100000
set_option maxHeartbeats 4000000
namespace JB
open PySem PySem.Spec PyProof.Rows L2
section
variable {X : Cx} {pins : List (Addr × Obj)}
end
end JB
set_option Elab.async false
set_option linter.all false
set_option maxRecDepth 100000
set_option maxHeartbeats 4000000
namespace MI
open PySem PySem.Spec PyProof.Rows L2 JB
section
variable {Z : Zt} {ρ : List Addr} {h : MH} {H : Hp} {E : XK}
end
section
variable {X : Cx} {T : Nat → Addr} {E : XK} {e o a b : Expr} {ge go ga gb : ME} {pos apos : Pos}
end
end MI
set_option Elab.async false
set_option linter.all false
set_option maxRecDepth 100000
set_option maxHeartbeats 4000000
namespace MI
open PySem PySem.Spec PyProof.Rows L2 JB
def allD (f : MV → Option PyData) : List MV → Option (List PyData)
  | [] => some []
  | x :: xs => match f x, allD f xs with
    | some d, some ds => some (d :: ds)
    | _, _ => none
def toD (h : MH) : Nat → MV → Option PyData
  | 0, _ => none
  | n + 1, x => match x with
    | .non => some .none
    | .bl b => some (.bool b)
    | .int i => some (.int i)
    | .str s => some (.str ⟨s.toArray⟩)
    | .tup xs => (allD (toD h n) xs).map .tuple
    | .ktp xs => (allD (toD h n) xs).map .tuple
    | .fls xs => (allD (toD h n) xs).map .list
    | .ref i => match h.get i with
      | some (.lst xs) => (allD (toD h n) xs).map .list
      | _ => none
    | _ => none
section
variable {Z : Zt} {ρ : List Addr} {h : MH} {H : Hp}
theorem allD_ok {f : MV → Option PyData} (k : ∀ {x : MV} {v : V} {d : PyData}, RV Z ρ H x v → f x = some d → Dp Z.K H v d) : ∀ {xs : List MV} {vs : List V} {ds : List PyData}, RVs Z ρ H xs vs → allD f xs = some ds → DpAll Z.K H vs ds
  | _, _, ds, .nil, e => by cases e; exact .nil
  | _, _, ds, .cons (x := x) (xs := xs) a r, e => by
    dsimp only [allD] at e
    cases k1 : f x with
    | none => rw [k1] at e; cases e
    | some d =>
      cases k2 : allD f xs with
      | none => rw [k1, k2] at e; cases e
      | some ds' =>
        rw [k1, k2] at e
        cases e
        exact .cons (k a k1) (allD_ok k r k2)
theorem toD_ok (R : HR Z ρ h H) : ∀ (n : Nat) {x : MV} {v : V} {d : PyData}, RV Z ρ H x v → toD h n x = some d → Dp Z.K H v d
  | 0, _, _, _, _, e => by cases e
  | n + 1, _, _, d, r, e => by
    have ih := fun {x : MV} {v : V} {d : PyData} (r : RV Z ρ H x v) (e : toD h n x = some d) => toD_ok R n r e
    cases r with
    | non => cases e; exact .non
    | bl b => cases e; exact .bl b
    | int i => cases e; exact .int i
    | str s => cases e; exact .str _
    | tup h1 r1 =>
      obtain ⟨ds, e1, rfl⟩ := Option.map_eq_some_iff.mp (show (allD (toD h n) _).map PyData.tuple = some d from e)
      exact .tup (.inl (.inl h1)) (allD_ok ih r1 e1)
    | ktp h1 r1 =>
      obtain ⟨ds, e1, rfl⟩ := Option.map_eq_some_iff.mp (show (allD (toD h n) _).map PyData.tuple = some d from e)
      exact .tup (ktp_sq h1) (allD_ok ih r1 e1)
    | fls h1 r1 =>
      obtain ⟨ds, e1, rfl⟩ := Option.map_eq_some_iff.mp (show (allD (toD h n) _).map PyData.list = some d from e)
      exact .lst h1.sq (allD_ok ih r1 e1)
    | @ref i a hi =>
      dsimp only [toD] at e
      cases g : h.get i with
      | none => rw [g] at e; cases e
      | some ob =>
        rw [g] at e
        cases ob with
        | lst xs =>
          obtain ⟨vs, h1, h2⟩ := R.obj g hi
          obtain ⟨ds, e1, rfl⟩ := Option.map_eq_some_iff.mp (show (allD (toD h n) xs).map PyData.list = some d from e)
          exact .lst (.inl (.inl h1)) (allD_ok ih h2 e1)
        | _ => cases e
    | _ => cases e
end
def isRow : MV → Bool
  | .tup _ => true
  | .ktp _ => true
  | .fls _ => true
  | .ref _ => true
  | _ => false
end MI
set_option Elab.async false
set_option linter.all false
set_option maxRecDepth 100000
set_option maxHeartbeats 4000000
namespace MI
open PySem PySem.Spec PyProof PyProof.Rows L2 JB PySem.AutoSeq1
theorem ext_tup (l : Addr) (items : Array Value) (n : Nat) (b : Addr) (o : Obj) (items2 : Array Value) (n2 : Nat) (hc : o.cls = .type "tuple") (hd : o.data = .seq items2 n2)
    (h0 : ¬(!items.isEmpty && Builtin.List.listTooLong (items.size + items2.size)) = true) (h1 : items.size ≤ sizeLine) (h2 : items.size + items2.size ≤ sizeLine + 1) :
    Meets (Builtin.«list.extend» ⟨[.ref l, .ref b], []⟩) (fun _ R s => s.heap.get? l = some { cls := .type "list", data := .seq items n } ∧ s.heap.get? b = some o ∧
      R (.ok (.ret Value.none)) { s with heap := s.heap.update l (Obj.mapSeq fun x => x ++ items2) }) :=
  .of_wp fun prog w A R s h => by
    obtain ⟨c, dc, dt, sl⟩ := o
    obtain rfl : c = .type "tuple" := hc
    obtain rfl : dt = .seq items2 n2 := hd
    obtain ⟨hp, g, d, tk, os⟩ := s
    obtain ⟨hl, hb, h⟩ := h
    have f1 := AutoSeq1.idx_int
    have f4 := AutoSeq1.sub_tuple_list
    have f2 := AutoSeq1.sub_tuple_tuple
    have f3 := AutoSeq1.sub_list_list
    have f5 := AutoSeq1.sub_list_tuple
    have hz' : (items ++ items2).size ≤ sizeLine + 1 := by rw [Array.size_append]; exact h2
    wp_walk using (wpAny_updateSeq hl rfl (hz := h1) (_hz' := hz')), wpAny_loadPart' hl, wpAny_loadPart' hb
    exact ⟨_, rfl, h⟩
def rExtT (K : PySem.W.Frag) : V → List V → Hp → VK → Prop := fun x vs H Q => ∃ l b xs zs, x = .ref l ∧ vs = [.ref b] ∧
  H l = some (.lst xs) ∧ SqT K H b zs ∧ xs.length + zs.length ≤ sizeLine ∧ Q .non (upd H l (.lst (xs ++ zs)))
section
variable {X : Cx}
theorem mt_extT : MtR X "list.extend" (rExtT X.K) := by
  intro pins s σ H x vs v us Q I rx rv h
  obtain ⟨l, b, xs, zs, rfl, rfl, hH, hB, hz, q⟩ := h
  cases rx
  obtain ⟨u, rfl, ru⟩ := rv.one
  cases ru
  obtain ⟨z, its, n, r, hl, e⟩ := I.lstM hH
  obtain ⟨its2, r2, ⟨ob, eb, cb, nb, db⟩, hz2⟩ := I.tuple hB
  have hl2 := r2.length
  have hsz : its.toArray.size + its2.toArray.size ≤ sizeLine := by
    rw [List.size_toArray, List.size_toArray, ← hl2, ← hl]; exact hz
  have hlong : ¬ (!its.toArray.isEmpty && Builtin.List.listTooLong (its.toArray.size + its2.toArray.size)) = true := by
    rw [notLongL hsz, Bool.and_false]
    exact Bool.false_ne_true
  refine call_meets F.slot_list_extend ⟨_, e, rfl⟩ F.entry_list_extend (F.args_list_extend_2 _ _)
    (ext_tup l its.toArray n b ob its2.toArray nb cb db hlong (by rw [List.size_toArray]; omega) (by omega)) ⟨e, eb, ?_⟩
  refine ⟨.non, _, I.lset (its' := its ++ its2) hH e (by simp) (r.append r2) ?_, rfl, q⟩
  rw [List.length_append]
  omega
end
def lExtR (x : MV) (o : Option (List MV)) (t : Bool) (h : MH) : Out MV := match x, o with
  | .ref i, some r => if t = true then .bad else match h.get i with
    | some (.lst l) => if l.length + r.length < 1000000 then .ok .non (h.set i (.lst (l ++ r))) else .bad
    | _ => .bad
  | _, _ => .bad
def lExtA (x : MV) (xs : List MV) (h : MH) : Out MV := match xs with
  | [.ref j] => lExt x [.ref j] h
  | [y] => lExtR x (seqOf h y) (isL y) h
  | _ => .bad
theorem mm_extA {Z : Zt} {E : XK} : MethM Z E lExtA (fun x vs H Q => rExtend x vs H Q ∨ rExtT Z.K x vs H Q) := fun ρ h H x v xs vs Q R r rs q => by
  by_cases c : ∃ j, xs = [.ref j]
  · obtain ⟨j, rfl⟩ := c
    exact .inl (mm_ext ρ h H x v [.ref j] vs Q R r rs q)
  · cases rs with
    | nil => exact q.elim
    | @cons y w xs vs ry rs =>
      cases rs with
      | cons _ _ => cases ry <;> exact q.elim
      | nil =>
        have q' : Post Z (rV Z) ρ H Q E (lExtR x (seqOf h y) (isL y) h) := by
          cases y <;> first
            | exact absurd ⟨_, rfl⟩ c
            | exact q
        cases r with
        | @ref i a hi =>
          cases k : seqOf h y with
          | none => rw [k] at q'; exact q'.elim
          | some zs =>
            rw [k] at q'
            dsimp only [lExtR] at q'
            by_cases z : isL y = true
            · rw [if_pos z] at q'; exact q'.elim
            · rw [if_neg z] at q'
              obtain ⟨b, ws, rfl, r2, hq⟩ := seqOf_ok R ry k
              rw [if_neg z] at hq
              cases g : h.get i with
              | none => rw [g] at q'; exact q'.elim
              | some ob =>
                rw [g] at q'
                cases ob with
                | lst l =>
                  dsimp only at q'
                  obtain ⟨ls, h1, h2⟩ := R.obj g hi
                  by_cases y2 : l.length + zs.length < 1000000
                  · rw [if_pos y2] at q'
                    have x1 : Ext ρ H ρ (upd H a (.lst (ls ++ ws))) := R.grow g hi _
                    exact .inr ⟨a, b, ls, ws, rfl, rfl, h1, hq, by rw [← h2.length, ← r2.length, sizeLine_eq]; omega, q' ρ _ .non x1 (R.set g hi ⟨_, upd_same, (RVs.app r2 h2).ext x1⟩) .non⟩
                  · rw [if_neg y2] at q'; exact q'.elim
                | _ => exact q'.elim
        | _ => exact q'.elim
end MI
set_option Elab.async false
set_option linter.all false
set_option maxRecDepth 100000
set_option maxHeartbeats 4000000
namespace MI
open PySem PySem.Spec PyProof.Rows L2 JB
def allEq (f : PyData → PyData → Bool) : List PyData → List PyData → Bool
  | [], [] => true
  | a :: l, b :: r => f a b && allEq f l r
  | _, _ => false
def dEq : Nat → PyData → PyData → Bool
  | 0, _, _ => false
  | n + 1, a, b => match a, b with
    | .none, .none => true
    | .bool x, .bool y => x == y
    | .int x, .int y => decide (x = y)
    | .str x, .str y => leq x.cps.toList y.cps.toList
    | .list xs, .list ys => allEq (dEq n) xs ys
    | .tuple xs, .tuple ys => allEq (dEq n) xs ys
    | _, _ => false
theorem allEq_eq {f : PyData → PyData → Bool} (k : ∀ {a b}, f a b = true → a = b) : ∀ {l r : List PyData}, allEq f l r = true → l = r
  | [], [], _ => rfl
  | a :: l, b :: r, e => by
    simp only [allEq, Bool.and_eq_true] at e
    rw [k e.1, allEq_eq k e.2]
  | [], _ :: _, e => by cases e
  | _ :: _, [], e => by cases e
theorem dEq_eq : ∀ (n : Nat) {a b : PyData}, dEq n a b = true → a = b
  | 0, _, _, e => by cases e
  | n + 1, a, b, e => by
    have ih := fun {a b : PyData} (e : dEq n a b = true) => dEq_eq n e
    cases a <;> cases b <;> first
      | rfl
      | (cases e; done)
      | (rename_i x y; exact congrArg _ (by simpa [dEq] using e))
      | (rename_i x y
         have e' := leq_iff.mp (show leq x.cps.toList y.cps.toList = true from e)
         obtain ⟨x⟩ := x
         obtain ⟨y⟩ := y
         have : x = y := by simpa using e'
         rw [this])
      | (rename_i x y; exact congrArg _ (allEq_eq ih e))
section
variable {P : Program} {w : World} {K : PySem.W.Frag} {mg : Str → Option Value} {base : Heap} {T : Nat → Addr}
theorem row_ref {Z : Zt} {ρ : List Addr} {H : Hp} {x : MV} {v : V} (r : RV Z ρ H x v) (c : isRow x = true) : ∃ a, v = .ref a := by cases r <;> first | exact ⟨_, rfl⟩ | cases c
end
end MI
set_option Elab.async false
set_option linter.all false
set_option maxRecDepth 100000
set_option maxHeartbeats 4000000
namespace MI
open PySem PySem.Spec PyProof.Rows L2 JB
def S1 (l : List Nat) : Str := ⟨l.toArray⟩
end MI
set_option Elab.async false
set_option linter.all false
set_option maxRecDepth 100000
set_option maxHeartbeats 4000000
namespace MI
open PySem PySem.Spec PyProof.Rows L2 JB
section
variable {X : Cx} {T : Nat → Addr} {E : XK} {e : Expr} {es : List Expr} {st : Stmt}
end
section
variable {Z : Zt} {ρ ρ' : List Addr} {h : MH} {H H' : Hp}
theorem HR.nil : HR Z [] .empty H := ⟨List.nodup_nil, rfl, fun i o e => (by rw [MH.get_none (h := MH.empty) (Nat.zero_le _)] at e; cases e), fun i hi => absurd hi (Nat.not_lt_zero i)⟩
end
section
variable {P : Program} {w : World} {K : PySem.W.Frag} {mg : Str → Option Value} {base : Heap} {T : Nat → Addr} {k : Nat} {f : Addr}
end
end MI
set_option Elab.async false
set_option linter.all false
set_option maxRecDepth 100000
set_option maxHeartbeats 4000000
namespace MI
open PySem PySem.Spec PyProof.Rows L2 JB
def itoaN (n : Nat) : List Nat := (Nat.toDigits 10 n).map Char.toNat
def itoa : Int → List Nat
  | .ofNat n => itoaN n
  | .negSucc n => 45 :: itoaN (n + 1)
theorem ofS (s : String) : Str.ofString s = ⟨(s.toList.map Char.toNat).toArray⟩ := by
  rw [Str.ofString_eq_byList]; rfl
def iSmall (i : Int) : Bool := decide (i.natAbs < 1606938044258990275541962092341162602522202993782792835301376)
theorem iSmall_ok {i : Int} (h : iSmall i = true) : i.natAbs.log2 < 1920 := by
  have h' : i.natAbs < 2 ^ 200 := by
    have := of_decide_eq_true h
    have e : (2 : Nat) ^ 200 = 1606938044258990275541962092341162602522202993782792835301376 := by decide
    omega
  by_cases z : i.natAbs = 0
  · rw [z]; decide
  · exact Nat.lt_trans ((Nat.log2_lt z).mpr h') (by decide)
def mStr (x : MV) (h : MH) : Out MV := match x with
  | .int i => if iSmall i = true then .ok (.str (itoa i)) h else .bad
  | _ => .bad
section
variable {X : Cx} {T : Nat → Addr} {E : XK} {e a b : Expr} {es : List Expr} {ga gb : ME} {gr : MA} {pos : Pos}
def gStar (a : ME) (r : MA) : MA := fun m h => (a m h).bind fun x h1 => match seqOf h1 x with
  | some xs => (r m h1).bind fun ys h2 => .ok (xs ++ ys) h2
  | none => .bad
theorem ja_star {p : Pos} (ha : JE X T E e ga) (hr : JA X T E es gr) (hs : starEach (.Starred e p :: es) X.env = (true, eval e X.env) :: starEach es X.env := by rfl) : JA X T E (.Starred e p :: es) (gStar ga gr) :=
  PA.le (StX.pa_star ha hr hs) fun σ H Q ⟨ρ, m, h, s, q⟩ => stepE s q fun ρ1 h1 H1 x v s1 e1 r1 q1 => by
    cases k : seqOf h1 x with
    | none => rw [k] at q1; exact q1.elim
    | some xs =>
      rw [k] at q1
      obtain ⟨a, vs, rfl, r2, hq⟩ := seqOf_or s1.hr r1 k
      exact ⟨a, vs, rfl, hq.symm, stepA s1 q1 fun ρ2 h2 H2 ys ws s2 e2 r3 q2 => Post.ok (R := rVs ⟨X.K, T⟩) (a := xs ++ ys) q2 s2.hr (RVs.app r3 (r2.ext e2))⟩
def reps {α : Type} (xs : List α) : Nat → List α
  | 0 => []
  | n + 1 => xs ++ reps xs n
theorem reps_eq {α : Type} (xs : List α) : ∀ n, (List.replicate n xs).flatten = reps xs n
  | 0 => rfl
  | n + 1 => by rw [List.replicate_succ, List.flatten_cons, reps_eq xs n]; rfl
theorem RVs.reps {Z : Zt} {ρ : List Addr} {H : Hp} {xs : List MV} {vs : List V} (r : RVs Z ρ H xs vs) : ∀ n, RVs Z ρ H (reps xs n) (reps vs n)
  | 0 => .nil
  | n + 1 => RVs.app (r.reps n) r
def mRepL (x y : MV) (h : MH) : Out MV := match x, y with
  | .ref i, .int k => match h.get i with
    | some (.lst xs) => if k ≤ 10000 ∧ -10000 ≤ k ∧ xs.length ≤ 100 then .ok (.ref h.n) (h.push (.lst (reps xs k.toNat))) else .bad
    | _ => .bad
  | _, _ => .bad
theorem om_repL {Z : Zt} : OpM Z E mRepL rRep := fun ρ h H x y v w Q R r q p => by
  cases r with
  | @ref i a hi =>
    cases q with
    | int k =>
      have p' : Post Z (rV Z) ρ H Q E (match h.get i with
        | some (.lst xs) => if k ≤ 10000 ∧ -10000 ≤ k ∧ xs.length ≤ 100 then .ok (.ref h.n) (h.push (.lst (reps xs k.toNat))) else .bad
        | _ => .bad) := p
      cases g : h.get i with
      | none => rw [g] at p'; exact p'.elim
      | some ob =>
        rw [g] at p'
        cases ob with
        | lst xs =>
          dsimp only at p'
          obtain ⟨vs, h1, h2⟩ := R.obj g hi
          by_cases c : k ≤ 10000 ∧ -10000 ≤ k ∧ xs.length ≤ 100
          · rw [if_pos c] at p'
            refine ⟨a, k, vs, rfl, rfl, h1, by omega, by omega, ?_, fun pp hp => ?_⟩
            · rw [← h2.length, sizeLine_eq]
              have : xs.length * k.toNat ≤ 100 * 10000 := Nat.mul_le_mul c.2.2 (by omega)
              omega
            · rw [reps_eq]
              exact p' (ρ ++ [pp]) _ _ (Ext.push hp) (R.push hp ⟨_, upd_same, (h2.ext (Ext.push hp)).reps _⟩) (.ref (by rw [← R.len]; simp))
          · rw [if_neg c] at p'; exact p'.elim
        | _ => exact p'.elim
    | _ => exact p.elim
  | _ => exact p.elim
def isRep : MV → Bool
  | .ref _ => true
  | _ => false
def mMulV (x y : MV) (h : MH) : Out MV := if isRep x = true then mRepL x y h else mMul x y h
theorem je_mulV (ha : JE X T E a ga) (hb : JE X T E b gb) : JE X T E (.BinOp a .Mult b pos) (gBin mMulV ga gb) :=
  je_bin_or (je_op op_rep om_repL ha hb) (je_mul ha hb) fun x y h => by
    unfold mMulV
    split
    · exact .inl rfl
    · exact .inr rfl
def ins1 (x : Int) : List Int → List Int
  | [] => [x]
  | y :: l => if x ≤ y then x :: y :: l else y :: ins1 x l
theorem ins1_perm (x : Int) : ∀ l, (ins1 x l).Perm (x :: l)
  | [] => .refl _
  | y :: l => by
    unfold ins1
    split
    · exact .refl _
    · exact ((ins1_perm x l).cons y).trans (.swap x y l)
def intsOf : List MV → Option (List Int)
  | [] => some []
  | .int i :: r => (intsOf r).map fun l => i :: l
  | _ => none
theorem intsOf_ok {Z : Zt} {ρ : List Addr} {H : Hp} : ∀ {xs : List MV} {vs : List V} {l : List Int}, RVs Z ρ H xs vs → intsOf xs = some l → vs = l.map V.int
  | _, _, l, .nil, e => by cases e; rfl
  | _, _, l, .cons (x := x) (xs := xs) a r, e => by
    cases a with
    | int i =>
      obtain ⟨l', e1, rfl⟩ := Option.map_eq_some_iff.mp (show (intsOf xs).map (fun l => i :: l) = some l from e)
      rw [intsOf_ok r e1]; rfl
    | _ => cases e
theorem RVs.ints {Z : Zt} {ρ : List Addr} {H : Hp} : ∀ l : List Int, RVs Z ρ H (l.map MV.int) (l.map V.int)
  | [] => .nil
  | i :: l => .cons (.int i) (RVs.ints l)
def keysOf : List (MK × MV) → Option (List Int)
  | [] => some []
  | (.inl i, _) :: r => (keysOf r).map fun l => i :: l
  | _ => none
def boolsOf : List MV → Option (List Bool)
  | [] => some []
  | .bl i :: r => (boolsOf r).map fun l => i :: l
  | _ => none
theorem boolsOf_ok {Z : Zt} {ρ : List Addr} {H : Hp} : ∀ {xs : List MV} {vs : List V} {l : List Bool}, RVs Z ρ H xs vs → boolsOf xs = some l → vs = l.map V.bl
  | _, _, l, .nil, e => by cases e; rfl
  | _, _, l, .cons (x := x) (xs := xs) a r, e => by
    cases a with
    | bl i =>
      obtain ⟨l', e1, rfl⟩ := Option.map_eq_some_iff.mp (show (boolsOf xs).map (fun l => i :: l) = some l from e)
      rw [boolsOf_ok r e1]; rfl
    | _ => cases e
def mAll (x : MV) (h : MH) : Out MV := match x with
  | .ref i => match h.get i with
    | some (.lst xs) => match boolsOf xs with
      | some l => .ok (.bl (l.all id)) h
      | none => .bad
    | _ => .bad
  | _ => .bad
theorem mc_all {Z : Zt} : CallM Z E (f1 mAll) (rAll Z.K) := .one fun ρ h H x v Q R r q => by
  cases r with
  | @ref i a hi =>
    have q' : Post Z (rV Z) ρ H Q E (match h.get i with
      | some (.lst xs) => match boolsOf xs with
        | some l => .ok (.bl (l.all id)) h
        | none => .bad
      | _ => .bad) := q
    cases g : h.get i with
    | none => rw [g] at q'; exact q'.elim
    | some ob =>
      rw [g] at q'
      cases ob with
      | lst xs =>
        dsimp only at q'
        obtain ⟨vs, h1, h2⟩ := R.obj g hi
        cases k : boolsOf xs with
        | none => rw [k] at q'; exact q'.elim
        | some l =>
          rw [k] at q'
          exact ⟨a, l, rfl, by rw [← boolsOf_ok h2 k]; exact .inl (.inl h1), Post.ok (R := rV Z) (a := .bl (l.all id)) q' R (.bl _)⟩
      | _ => exact q'.elim
  | _ => exact q.elim
end
end MI
set_option Elab.async false
set_option linter.all false
set_option maxRecDepth 100000
set_option maxHeartbeats 4000000
namespace MI
open PySem PySem.Spec PyProof.Rows L2 JB
section
variable {X : Cx} {T : Nat → Addr} {E : XK} {o i e f a b : Expr} {go gi ge gf ga gb : ME} {pos tpos apos cpos : Pos}
def okD (d : PyData) : Bool := SeqAt.shaped d
theorem je_glI {x : Str} {i : Int} (hg : Gl X x) (hm : ∃ t, X.mg x = some (.int i t)) (hd : (x == ("__debug__" : Str)) = false := by decide) (hcd : (x == ("__classdict__" : Str)) = false := by decide) : JE X T E (.Name x pos) (gC (.int i)) := by
  obtain ⟨t, hm⟩ := hm
  exact je_c (w := .int i) (pe_glob hg hm ⟨t, rfl⟩ hd) fun _ _ => .int _
theorem je_glS {x : Str} {l : List Nat} (hg : Gl X x) (hm : ∃ t, X.mg x = some (.str ⟨l.toArray⟩ t)) (hd : (x == ("__debug__" : Str)) = false := by decide) (hcd : (x == ("__classdict__" : Str)) = false := by decide) : JE X T E (.Name x pos) (gC (.str l)) := by
  obtain ⟨t, hm⟩ := hm
  exact je_c (w := .str ⟨l.toArray⟩) (pe_glob hg hm ⟨t, rfl⟩ hd) fun _ _ => .str _
end
end MI
set_option Elab.async false
set_option linter.all false
set_option maxRecDepth 100000
set_option maxHeartbeats 4000000
namespace ET
open PySem PySem.Spec PyProof.Rows L2
section
variable {prog : Program} {w : World} {A : Around} {E : Value → Shared → Prop} {s : Shared}
end
section
variable {prog : Program} {w : World} {A : Around} {E : Value → Shared → Prop} {s : Shared}
end
end ET
namespace MI
open PySem PySem.Spec PyProof.Rows L2 JB
section
variable {X : Cx} {T : Nat → Addr} {E : XK} {e a : Expr} {ga : ME} {pos p : Pos}
end
end MI
set_option Elab.async false
set_option linter.all false
set_option maxRecDepth 100000
set_option maxHeartbeats 400000
namespace MX
open PySem PySem.Spec PyProof.Rows L2
section
variable {prog : Program} {w : World} {A : Around} {R : Result → Shared → Prop} {I : Addr} {fp wr : List Addr} {n : Nat} {P : Nat → Value → Prop} {St : Nat → Heap → Prop} {z : Value}
end
section
variable {prog : Program} {w : World} {A : Around} {E : Value → Shared → Prop} {s : Shared} {z : Value}
end
end MX
set_option Elab.async false
set_option linter.all false
set_option maxRecDepth 100000
set_option maxHeartbeats 4000000
namespace MX
open PySem PySem.Spec PyProof.Rows L2
end MX
namespace MI
open PySem PySem.Spec PyProof.Rows L2 JB
def lmax : Int → List Int → Int
  | m, [] => m
  | m, x :: l => lmax (if m < x then x else m) l
theorem lmax_ge : ∀ (l : List Int) (m : Int), m ≤ lmax m l ∧ ∀ y ∈ l, y ≤ lmax m l
  | [], m => ⟨Int.le_refl _, fun _ h => nomatch h⟩
  | x :: l, m => by
    obtain ⟨h1, h2⟩ := lmax_ge l (if m < x then x else m)
    refine ⟨?_, fun y hy => ?_⟩
    · show m ≤ lmax (if m < x then x else m) l
      split at h1 <;> rename_i c
      · rw [if_pos c]; omega
      · rw [if_neg c]; exact h1
    · show y ≤ lmax (if m < x then x else m) l
      rcases List.mem_cons.mp hy with rfl | hy
      · split at h1 <;> rename_i c
        · rw [if_pos c]; exact h1
        · rw [if_neg c]; omega
      · exact h2 y hy
theorem lmax_mem : ∀ (l : List Int) (m : Int), lmax m l = m ∨ lmax m l ∈ l
  | [], m => .inl rfl
  | x :: l, m => by
    show lmax (if m < x then x else m) l = m ∨ lmax (if m < x then x else m) l ∈ x :: l
    rcases lmax_mem l (if m < x then x else m) with h | h
    · rw [h]; split
      · exact .inr List.mem_cons_self
      · exact .inl rfl
    · exact .inr (List.mem_cons_of_mem _ h)
theorem lmax_uniq {x : Int} {l : List Int} {m : Int} (h1 : m ∈ x :: l) (h2 : ∀ y, y ∈ x :: l → y ≤ m) : m = lmax x l := by
  obtain ⟨g1, g2⟩ := lmax_ge l x
  have a : m ≤ lmax x l := by
    rcases List.mem_cons.mp h1 with rfl | h
    · exact g1
    · exact g2 m h
  have b : lmax x l ≤ m := by
    rcases lmax_mem l x with h | h
    · rw [h]; exact h2 x List.mem_cons_self
    · exact h2 _ (List.mem_cons_of_mem _ h)
  omega
def mMaxD (x z : MV) (h : MH) : Out MV := match x with
  | .ref i => match h.get i with
    | some (.dic kvs) => match keysOf kvs with
      | some [] => .ok z h
      | some (y :: l) => .ok (.int (lmax y l)) h
      | none => .bad
    | _ => .bad
  | _ => .bad
section
variable {X : Cx} {T : Nat → Addr} {E : XK} {e z a b : Expr} {ge gz ga gb : ME} {pos p kp : Pos} {k : Str}
def mMaxL (x : MV) (h : MH) : Out MV := match (seqOf h x).bind intsOf with
  | some (y :: l) => if isL x = true then .ok (.int (lmax y l)) h else .bad
  | _ => .bad
theorem mc_maxL {Z : Zt} : CallM Z E (f1 mMaxL) (rMax Z.K) := .one fun ρ h H x v Q R r q => by
  unfold mMaxL at q
  cases g : seqOf h x with
  | none => rw [g] at q; exact q.elim
  | some xs =>
    rw [g] at q
    obtain ⟨a, vs, rfl, r2, hq⟩ := seqOf_ok R r g
    cases k : intsOf xs with
    | none =>
      have q' : Post Z (rV Z) ρ H Q E (match intsOf xs with
        | some (y :: l) => if isL x = true then .ok (.int (lmax y l)) h else .bad
        | _ => .bad) := q
      rw [k] at q'; exact q'.elim
    | some l =>
      have q' : Post Z (rV Z) ρ H Q E (match intsOf xs with
        | some (y :: l) => if isL x = true then .ok (.int (lmax y l)) h else .bad
        | _ => .bad) := q
      rw [k] at q'
      cases l with
      | nil => exact q'.elim
      | cons y l =>
        dsimp only at q'
        by_cases c : isL x = true
        · rw [if_pos c] at q' hq
          refine ⟨a, y :: l, rfl, by rw [← intsOf_ok r2 k]; exact hq, Nat.succ_pos _, fun m h1 h2 => ?_⟩
          rw [lmax_uniq h1 h2]
          exact q'.ok R (.int _)
        · rw [if_neg c] at q'; exact q'.elim
end
end MI
set_option Elab.async false
set_option linter.all false
set_option maxRecDepth 100000
set_option maxHeartbeats 4000000
namespace MI
open PySem PySem.Spec PyProof.Rows L2 JB
def gAug (i : Nat) (f : Int → Int → Int) (a : ME) : MS := fun m h => match m[i]? with
  | some (some (.int p)) => (a m h).bindS fun y h1 => match y with
    | .int q => .nx (m.set i (some (.int (f p q)))) h1
    | _ => .bad
  | _ => .bad
section
variable {X : Cx} {T : Nat → Addr} {E : XK} {e o a f : Expr} {ge go ga gf : ME} {pos pos' apos cpos : Pos} {x : Str} {i : Nat}
theorem js_aug {op : Operator} {g : Int → Int → Int} (ho : PIp X op (ipI g)) (hN : X.N.Nodup) (hi : X.N[i]? = some x) (hx : Loc X.env.scope x) (he : JE X T E e ge)
    (hf : X.fn x = true ∨ X.env.scope.names.lookup x = some .local := by first | exact .inl rfl | exact .inr rfl | assumption) : JS X T E (.AugAssign (.Name x pos') op e pos) (gAug i g ge) :=
  PS.le (ps_aug hN hi hx he ho hf) fun D σ H ⟨ρ, m, h, s, q⟩ => by
    unfold gAug at q
    cases k : m[i]? with
    | none => rw [k] at q; exact q.elim
    | some ov =>
      cases ov with
      | none => rw [k] at q; exact q.elim
      | some xv =>
        rw [k] at q
        obtain ⟨v, k1, k2⟩ := s.slot i xv k
        cases k2 with
        | int p =>
          refine ⟨_, k1, sE s q fun ρ1 h1 H1 y w s1 e1 r1 q1 => ?_⟩
          cases r1 with
          | int j => exact ⟨p, j, rfl, rfl, q1 ρ1 H1 _ .refl (s1.set i (.int _))⟩
          | _ => exact q1.elim
        | _ => exact q.elim
end
theorem pass_E00 {P : Program} {w : World} {X : Cx} : Passes (L2.CX P w) X E00 := fun _ _ _ _ _ _ _ ⟨_, _, _, _, _, _, _, _, _, _, _, _, f⟩ => f.elim
section
variable {X : Cx} {T : Nat → Addr} {E : XK} {c : Expr} {gc : MT}
theorem PTs.le {es : List Expr} {t t' : TT} (p : PTs X es t) (k : ∀ σ H Q, t' σ H Q → t σ H Q) : PTs X es t' := ⟨fun pins s σ H Q I h => p.run pins s σ H Q I (k σ H Q h)⟩
theorem jts_nil : PTs X [] (tT ⟨X.K, T⟩ E gYes) := PTs.le pts_nil fun σ H Q ⟨ρ, m, h, s, q⟩ => Post.ok (R := rB) (a := true) q s.hr rfl
theorem jts_one (h : JT X T E c gc) : PTs X [c] (tT ⟨X.K, T⟩ E gc) := pts_one h
end
section
variable {X : Cx} {T : Nat → Addr} {E : XK} {elt tg iter : Expr} {ifs : List Expr} {scope : Scope} {pos : Pos} {gi : MI1} {c : CT} {gt : MT} {ge : ME} {ow : List Nat}
theorem je_lcA (own : List (Str × Nat)) (how : own.map (·.2) = ow) (hc : X.calm = true) (hN : X.N.Nodup) (hi : JI X T E tg iter gi) (ok : BlkOk X.N X.env.scope scope own)
    (hg : ∀ (s : Shared) (H : Hp) (C : Addr) (cl : List (Str × Addr)) (fp : List Addr), PG (X.blk s H scope (compEnvC scope cl C X.env) fp) tg (tCT X.K c))
    (ht : ∀ (s : Shared) (H : Hp) (C : Addr) (cl : List (Str × Addr)) (fp : List Addr), PTs (X.blk s H scope (compEnvC scope cl C X.env) fp) ifs (tT ⟨X.K, T⟩ E00 gt))
    (he : ∀ (s : Shared) (H : Hp) (C : Addr) (cl : List (Str × Addr)) (fp : List Addr), JE (X.blk s H scope (compEnvC scope cl C X.env) fp) T E00 elt ge)
    (hv : ∀ i ∈ c.slots, i ∈ ow) (hs : ∀ x, foldedSetIterable iter X.env x = pure x := by intro _; rfl) :
    JE X T E (.ListComp elt [⟨tg, iter, ifs, 0⟩] scope pos) (gLc gi c gt ge ow) := by
  subst how
  exact je_lc hc hN hi ok hg ht he hv hs
theorem js_setLcA {i : Nat} {y : Str} {py spos : Pos} (own : List (Str × Nat)) (how : own.map (·.2) = ow) (hy : X.N[i]? = some y) (hyl : X.env.scope.names.lookup y = some .local) (hc : X.calm = true) (hN : X.N.Nodup)
    (hsw : swapsWith (.ListComp elt [⟨tg, iter, ifs, 0⟩] scope pos) (some (.Name y py)) spos.line X.env = pure true) (hi : JI X T E tg iter gi) (ok : BlkOk X.N X.env.scope scope own)
    (hg : ∀ (s : Shared) (H : Hp) (C : Addr) (cl : List (Str × Addr)) (fp : List Addr), PG (X.blk s H scope (compEnvC scope cl C X.env) fp) tg (tCT X.K c))
    (ht : ∀ (s : Shared) (H : Hp) (C : Addr) (cl : List (Str × Addr)) (fp : List Addr), PTs (X.blk s H scope (compEnvC scope cl C X.env) fp) ifs (tT ⟨X.K, T⟩ E00 gt))
    (he : ∀ (s : Shared) (H : Hp) (C : Addr) (cl : List (Str × Addr)) (fp : List Addr), JE (X.blk s H scope (compEnvC scope cl C X.env) fp) T E00 elt ge)
    (hv : ∀ i ∈ c.slots, i ∈ ow) (hs : ∀ x, foldedSetIterable iter X.env x = pure x := by intro _; rfl) :
    JS X T E (.Assign [.Name y py] (.ListComp elt [⟨tg, iter, ifs, 0⟩] scope pos) spos) (gAsg (gLc gi c gt ge ow) (tgName i)) := by
  subst how
  exact js_setLc hy hyl hc hN hsw hi ok hg ht he hv hs
end
section
variable {P : Program} {w : World} {K : PySem.W.Frag} {mg : Str → Option Value} {base : Heap} {T : Nat → Addr} {k : Nat} {f : Addr}
variable {x qual : Str} {params : Arguments} {body : List Stmt} {scope : Scope} {dvs : List V} {kws : List (Str × V)} {fd : FuncData} {N ps : List Str}
theorem def_MD (F : FunD K x qual params body scope dvs kws f fd) (S : FnScope N ps scope) (gs : MS)
    (hb : ∀ (cdv : Value) (A : Around) (outer : List Env) (s : Shared) (H : Hp) (E : XK),
      JB.Still (A.deeper (envOfC qual scope s.heap.objs.size f cdv)) → Room k (A.deeper (envOfC qual scope s.heap.objs.size f cdv)) →
      JSs (cxOf (L2.CX P w) P w K mg base N qual scope f cdv A outer s H E) T E body gs) :
    FnG P w K mg base (L2.CX P w) (k + 1) f fd ps (spM ⟨K, T⟩ ps.length (gBody N.length gs)) := by
  obtain ⟨oc, od, dV, kV, doc, pm, an, cdv, ct, osl, rfl, lk, hcd, _, _⟩ := F.ex
  refine fn_g lk hcd S (fun _ _ _ _ ⟨_, _, _, _, _, h, _⟩ => h) fun A outer s H vs Q E hst hr ⟨ρ, h, as, r, a, hl, p⟩ => ?_
  exact ⟨_, hb cdv A outer s H E hst hr, ρ, _, h, start_M r a, body_M p⟩
theorem FM.of0 {n : Nat} {g : MF} (F : FunD K x qual params body scope [] kws f fd) (G : FnG P w K mg base (L2.CX P w) k f fd ps (spM ⟨K, T⟩ ps.length g)) (hn : ps.length = n)
    (hb : ∀ (kV doc pm : Value) (an : Option Addr) (cdv ct : Value) (us : List Value), us.length = ps.length → bindArgs (PySem.W.fnOf x qual params body scope .none kV doc pm an cdv ct) ⟨us, []⟩ = pure (ps.zip us)) : FM P w K mg base T k f n [] g :=
  ⟨fd, ps, [], [], hn, G, F.kp, F.bindsN hb, .nil, fun _ _ => .nil⟩
theorem FM.ofD {n j m : Nat} {g : MF} {dm : List MV} (F : FunD K x qual params body scope dvs kws f fd) (G : FnG P w K mg base (L2.CX P w) k f fd ps (spM ⟨K, T⟩ ps.length g)) (hn : ps.length = n) (hd : dvs ≠ []) (hm : m + (dvs.length - j) = ps.length)
    (hb : ∀ (T : Addr) (kV doc pm : Value) (an : Option Addr) (cdv ct : Value) (us its : List Value), us.length = m → its.length = dvs.length →
      ∃ k, bindArgs (PySem.W.fnOf x qual params body scope (.ref T) kV doc pm an cdv ct) ⟨us, []⟩ = seqItems? (.ref T) >>= k ∧ k (some its.toArray) = pure (ps.zip (us ++ its.drop j)))
    (hr : ∀ ρ H, RVs ⟨K, T⟩ ρ H dm (dvs.drop j)) : FM P w K mg base T k f n dm g := by
  obtain ⟨ds, h1, h2⟩ := F.binds1 m j hd hm hb
  exact ⟨fd, ps, ds, dvs.drop j, hn, G, F.kp, h2, h1, hr⟩
end
theorem mt_extA {X : Cx} : MtR X "list.extend" (fun x vs H Q => rExtend x vs H Q ∨ rExtT X.K x vs H Q) := by
  intro pins s σ H x xs v us Q I r1 r2 h
  rcases h with h | h
  · exact mt_extend pins s σ H x xs v us Q I r1 r2 h
  · exact mt_extT pins s σ H x xs v us Q I r1 r2 h
inductive Fc where
  | etup (p : Str × Option Str) (i : Nat)
  | raw (f : PySem.W.Frag → Bool)
def etupB (K : PySem.W.Frag) (a : Addr) : Bool := match K.lookup a with
  | some ⟨.type c, _, .seq its _, _⟩ => decide (c = "tuple") && its.isEmpty
  | _ => false
def Fc.ok (K : PySem.W.Frag) : Fc → Bool
  | .etup p i => etupB K (He.dflAt p i K)
  | .raw f => f K
def hookM (n : Nat) (fa : List He.Fa) (fn : List He.DefD) (fc : List Fc) : PySem.W.Hook where
  α := He.AlD × Bool
  obs := fun s => (He.obsD fa fn (He.frG s.heap.get? (He.asD s.heap.get? n)), fc.all fun f => f.ok (He.frG s.heap.get? (He.asD s.heap.get? n)))
  val := fun _ => (He.valD fn, true)
  says := fun _ h => ∃ K : PySem.W.Frag, K.In h ∧ He.SaysD fa fn K ∧ fc.all (fun f => f.ok K) = true
  of := fun _ _ e => ⟨_, He.frG_in, congrArg Prod.fst e, congrArg Prod.snd e⟩
  keeps := fun _ _ _ ⟨K, hK, c⟩ k => ⟨K, PySem.W.Frag.In.keeps hK k, c⟩
def obM (n : Nat) (fa : List He.Fa) (fn : List He.DefD) (fc : List Fc) (g : Addr → Option Obj) : He.AlD × Bool := (He.obsD fa fn (He.frG g (He.asD g n)), fc.all fun f => f.ok (He.frG g (He.asD g n)))
theorem obM_eq {n : Nat} {fa : List He.Fa} {fn : List He.DefD} {fc : List Fc} {g : Addr → Option Obj} {s : Shared} (h : ∀ a, g a = s.heap.get? a) : obM n fa fn fc g = (hookM n fa fn fc).obs s := by
  have e : g = s.heap.get? := funext h
  rw [e] <;> rfl
structure Fx (fa : List He.Fa) (fn : List He.DefD) (fc : List Fc) (K : PySem.W.Frag) (mg : Str → Option Value) : Prop where
  ex : ∃ h : Heap, K.In h ∧ h.Ns mainGlobals mg
  c : He.SaysD fa fn K
  x : fc.all (fun f => f.ok K) = true
section
variable {fa : List He.Fa} {fn : List He.DefD} {fc : List Fc} {K : PySem.W.Frag} {mg : Str → Option Value}
theorem Fx.glo (F : Fx fa fn fc K mg) (i : Nat) {x : Str} (h : fa[i]? = some (.glo x) := by rfl) : mg x = some (.ref (He.ga K x)) := by
  obtain ⟨_, X, G⟩ := F.ex; exact He.glo_ok X G (F.c.fact i h)
theorem Fx.free (F : Fx fa fn fc K mg) (i : Nat) {x : Str} (h : fa[i]? = some (.free x) := by rfl) : mg x = none := by
  obtain ⟨_, X, G⟩ := F.ex; exact He.free_ok X G (F.c.fact i h)
theorem Fx.int (F : Fx fa fn fc K mg) (i : Nat) {x : Str} {n : Int} (h : fa[i]? = some (.int x n) := by rfl) : ∃ t, mg x = some (.int n t) := by
  obtain ⟨_, X, G⟩ := F.ex; exact He.int_ok X G (F.c.fact i h)
theorem Fx.str (F : Fx fa fn fc K mg) (i : Nat) {x z : Str} (h : fa[i]? = some (.str x z) := by rfl) : ∃ t, mg x = some (.str z t) := by
  obtain ⟨_, X, G⟩ := F.ex; exact He.str_ok X G (F.c.fact i h)
theorem Fx.cls (F : Fx fa fn fc K mg) (i : Nat) {x : Str} (h : fa[i]? = some (.cls x) := by rfl) : Cls K (He.ga K x) := He.cls_ok (F.c.fact i h)
theorem Fx.noat (F : Fx fa fn fc K mg) (i : Nat) {x f : Str} (h : fa[i]? = some (.noat x f) := by rfl) : NoAttr K (He.ga K x) f := He.noat_ok (F.c.fact i h)
theorem Fx.meth (F : Fx fa fn fc K mg) (i : Nat) {x m : Str} (h : fa[i]? = some (.meth x m) := by rfl) : Meth K (He.ga K x) m (He.ma K (He.ga K x) m) := He.meth_ok (F.c.fact i h)
theorem Fx.mkr (F : Fx fa fn fc K mg) (i : Nat) {x : Str} (h : fa[i]? = some (.mkr x) := by rfl) : Mk K (He.ga K x) (He.ma K (He.ga K x) "__init__") := He.mkr_ok (F.c.fact i h)
theorem Fx.extra (F : Fx fa fn fc K mg) (i : Nat) {f : Fc} (h : fc[i]? = some f := by rfl) : f.ok K = true := List.all_eq_true.mp F.x f (List.mem_of_getElem? h)
end
theorem walk_GE {l : PySem.W.OpenLaw} {n k : Nat} {q : Program} {loose : List Str} {XP : (Str → Option Value) → Heap → Prop} {YP : World → Heap → Prop} {d : DefRec} {x : Str}
    (hn : l.most = some n) (hn2 : n ≤ sizeLine) (hdf : d.params.defaults = []) (hr : Room k callerA)
    (F : ∀ (w : World) (mg : Str → Option Value) (fa : Addr) (h : Heap), YP w h → h.Ns mainGlobals mg → mg d.name = some (.ref fa) →
      ∃ (K : PySem.W.Frag) (fd : FuncData) (sp : Sp), K.In h ∧ (∀ (s : Shared) (u : Value), BindsTo s fd ⟨[u], []⟩ [(x, u)]) ∧
        (∀ (H : Hp) (a : Addr) (ns : List Int), ns.length ≤ n → Only H → SqL K H a (ns.map V.int) → sp [.ref a] H (fun v _ => v = .bl true) fun _ _ _ => False) ∧
        ∀ base : Heap, K.In base → base.Ns mainGlobals mg → FnG l.prog w K mg base (L2.CX l.prog w) k fa fd [x] sp) :
    PySem.W.WalkO q loose XP YP l.row.toRowW d [] (fun f vs => PySem.call f vs) := by
  refine Att.attach_call hn hdf fun w s₀ s₁ mg mb fa o pm cd doc a vs ns G Y ho hd hcd hmg hobj hints hlen hg => ?_
  obtain ⟨K, fd, sp, KX, hb, hsp, hF⟩ := F w mg fa _ Y G.T.g hmg
  exact law_callG KX G.T.g G.T.b G.T.builtins G.T.nolimit hg hobj hints (Nat.le_trans hlen hn2) hr hF hb (fun H hO hS => hsp H a ns hlen hO hS)
    fun _ _ _ ⟨_, _, _, _, _, _, _, _, _, _, _, _, f⟩ => f
theorem fz_of {K : PySem.W.Frag} {H : Hp} {a : Addr} {vs : List V} (o : Only H) (h : SqL K H a vs) : FzL K H a vs := by
  rcases h with (h | ⟨ob, h⟩) | h
  · rcases o a with z | ⟨ob, xs, z⟩
    · rw [h] at z; cases z
    · rw [h] at z; cases z
  · exact .inl ⟨ob, h⟩
  · exact .inr (.inr h)
theorem law_sp {Z : Zt} {g : MF} {H : Hp} {a : Addr} {ns : List Int} {h' : MH} {E : XK} (o : Only H) (s : SqL Z.K H a (ns.map V.int)) (e : g [.fls (ns.map .int)] .empty = .ok (.bl true) h') : spM Z 1 g [.ref a] H (fun v _ => v = .bl true) E :=
  ⟨[], .empty, [.fls (ns.map .int)], HR.nil, .cons (.fls (fz_of o s) (RVs.ints ns)) .nil, rfl, by
    rw [e]
    intro ρ' H' b e r q
    cases q
    rfl⟩
end MI
set_option Elab.async false
set_option linter.all false
set_option maxRecDepth 100000
set_option maxHeartbeats 4000000
namespace TM
open PySem PySem.Spec PyProof.Rows L2
theorem mul1 (l : Addr) (its : Array Value) (n : Nat) (dd : Option Addr) (sl : Array (Option Value)) (x : Int) (u : Tok) (q0 : (decide (x < -(2 ^ 63)) || decide (x ≥ 2 ^ 63)) = false) (q1 : (its.isEmpty || x == 1) = true) :
    Meets (Builtin.«tuple.__mul__» ⟨[.ref l, .int x u], []⟩) (fun _ R s => s.heap.get? l = some { cls := .type "tuple", dict := dd, data := .seq its n, slots := sl } ∧ R (.ok (.ret (Value.ref l))) s) :=
  .of_wp fun prog w A R s h => by
    obtain ⟨hp, g, d, tk, os⟩ := s
    obtain ⟨hl, h⟩ := h
    have f1 := AutoSeq1.idx_int
    wp_walk using wpAny_loadPart' hl
    repeat (first
      | (refine wpAny_ite_false (decide_eq_false (by rw [q0]; exact Bool.false_ne_true)) ?_; wp_walk using wpAny_loadPart' hl)
      | (refine wpAny_ite_true (decide_eq_true q1) ?_; wp_walk using wpAny_loadPart' hl))
    exact ⟨_, rfl, h⟩
theorem mul0 (l : Addr) (its : Array Value) (n : Nat) (dd : Option Addr) (sl : Array (Option Value)) (x : Int) (u : Tok) (q0 : (decide (x < -(2 ^ 63)) || decide (x ≥ 2 ^ 63)) = false) (q1 : (its.isEmpty || x == 1) = false) (q2 : (decide (x ≤ 0) || its.isEmpty) = true) :
    Meets (Builtin.«tuple.__mul__» ⟨[.ref l, .int x u], []⟩) (fun _ R s => s.heap.get? l = some { cls := .type "tuple", dict := dd, data := .seq its n, slots := sl } ∧
      R (.ok (.ret (Value.ref s.heap.objs.size))) { s with heap := s.heap.push { cls := Value.type "tuple", data := Data.seq #[] }, toks := s.toks }) :=
  .of_wp fun prog w A R s h => by
    obtain ⟨hp, g, d, tk, os⟩ := s
    obtain ⟨hl, h⟩ := h
    have f1 := AutoSeq1.idx_int
    wp_walk using wpAny_loadPart' hl
    repeat (first
      | (refine wpAny_ite_false (decide_eq_false (by rw [q0]; exact Bool.false_ne_true)) ?_; wp_walk using wpAny_loadPart' hl)
      | (refine wpAny_ite_false (decide_eq_false (by rw [q1]; exact Bool.false_ne_true)) ?_; wp_walk using wpAny_loadPart' hl)
      | (refine wpAny_ite_true (decide_eq_true q2) ?_; wp_walk using wpAny_loadPart' hl)
      | (refine wpAny_ite_false (decide_eq_false (by decide)) ?_; wp_walk using wpAny_loadPart' hl))
    exact ⟨_, rfl, h⟩
def rRep01 (K : PySem.W.Frag) : R2 := fun x y H Q => ∃ l k xs, x = .ref l ∧ y = .int k ∧ SqT K H l xs ∧ xs ≠ [] ∧ -1000 ≤ k ∧ k ≤ 1 ∧ (k = 1 → Q (.ref l) H) ∧ (k ≤ 0 → ∀ p, H p = none → Q (.ref p) (upd H p (.tup [])))
section
variable {X : Cx}
theorem op_rep01 : OpR X (binaryOp .Mult) (rRep01 X.K) := by
  intro pins s σ H x y v u Q I rx ry h
  obtain ⟨l, k, xs, rfl, rfl, hT, hne, h1, h2, qa, qb⟩ := h
  cases rx
  obtain ⟨t, rfl⟩ := ry
  obtain ⟨its, r, ⟨⟨cls, dd, data, sl⟩, ho, hc, n, hd⟩, hs⟩ := I.tuple hT
  simp only at hc hd
  subst hc hd
  have hle : its.length = xs.length := r.length.symm
  have hi : its.toArray.isEmpty = false := by
    cases its with
    | nil => exact absurd (List.eq_nil_of_length_eq_zero hle.symm) hne
    | cons a b => rfl
  have q0 : (decide (k < -(2 ^ 63)) || decide (k ≥ 2 ^ 63)) = false := by
    rw [decide_eq_false (by omega), decide_eq_false (by omega)] <;> rfl
  refine wpAny_binaryOp_repeat_ref (T := "tuple") (U := "int") (by decide) ⟨_, ho, rfl⟩ (fun s' => typeIs_int s' k t) noFill_tuple_mul F.fills_int_mul F.slot_int_rmul repeat_tuple F.slot_int_index.lookup
    (call_meets F.slot_int_rmul (typeIs_int s k t) F.entry_int_rmul (F.args_int_rmul_2 _ _) (int_rmul_tuple k t l its.toArray n dd sl) ⟨ho, rfl, ⟨_, ho, rfl⟩, ?_⟩)
  by_cases e : k = 1
  · subst e
    exact call_meets F.slot_tuple_mul ⟨_, ho, rfl⟩ F.entry_tuple_mul (F.args_tuple_mul_2 _ _) (mul1 l its.toArray n dd sl 1 t q0 (by rw [hi]; rfl)) ⟨ho, .ref l, H, I.tok _, rfl, qa rfl⟩
  · have e0 : k ≤ 0 := by omega
    refine call_meets F.slot_tuple_mul ⟨_, ho, rfl⟩ F.entry_tuple_mul (F.args_tuple_mul_2 _ _) (mul0 l its.toArray n dd sl k t q0 (by rw [hi, Bool.false_or]; exact beq_eq_false_iff_ne.mpr e) (by rw [decide_eq_true e0]; rfl)) ⟨ho, ?_⟩
    refine ⟨.ref s.heap.objs.size, _, I.laid (t' := s.toks) (o := .tup []) (fun b ob q => Heap.get?_push_of_some _ q) (Nat.le_refl _) ?_, rfl, qb e0 _ (I.hok.fresh (Nat.le_refl _))⟩
    exact ⟨Nat.zero_le _, [], .nil, IsTup.new _ _⟩
end
end TM
namespace MI
open PySem PySem.Spec PyProof.Rows L2 JB
def mRepT (x y : MV) (h : MH) : Out MV := match x, y with
  | .tup xs, .int k => if xs.isEmpty = false ∧ -1000 ≤ k ∧ k ≤ 1000 ∧ xs.length ≤ 1000 then (if k = 1 then .ok (.tup xs) h else .ok (.tup (reps xs k.toNat)) h) else .bad
  | .ktp xs, .int k => if xs.isEmpty = false ∧ -1000 ≤ k ∧ k ≤ 1000 ∧ xs.length ≤ 1000 then (if k = 1 then .ok (.ktp xs) h else .ok (.tup (reps xs k.toNat)) h) else .bad
  | _, _ => .bad
abbrev rRepTA (K : PySem.W.Frag) : R2 := fun x y H Q => rRepT K x y H Q ∨ TM.rRep01 K x y H Q
theorem repT_ok {Z : Zt} {E : XK} {ρ : List Addr} {h : MH} {H : Hp} {Q : VK} {a : Addr} {xs : List MV} {vs : List V} {k : Int} {t : MV} (R : HR Z ρ h H) (hs : SqT Z.K H a vs) (r : RVs Z ρ H xs vs) (rt : RV Z ρ H t (.ref a))
    (p : Post Z (rV Z) ρ H Q E (if xs.isEmpty = false ∧ -1000 ≤ k ∧ k ≤ 1000 ∧ xs.length ≤ 1000 then (if k = 1 then .ok t h else .ok (.tup (reps xs k.toNat)) h) else .bad)) : rRepTA Z.K (.ref a) (.int k) H Q := by
  by_cases c : xs.isEmpty = false ∧ -1000 ≤ k ∧ k ≤ 1000 ∧ xs.length ≤ 1000
  · rw [if_pos c] at p
    obtain ⟨c1, c2, c3, c4⟩ := c
    have ne : vs ≠ [] := by
      intro z
      have := r.nil_iff.mp z
      rw [this] at c1; cases c1
    by_cases e : k = 1
    · rw [if_pos e] at p
      exact .inr ⟨a, k, vs, rfl, rfl, hs, ne, c2, by omega, fun _ => p.ok R rt, fun z => by omega⟩
    · rw [if_neg e] at p
      by_cases e0 : k ≤ 0
      · refine .inr ⟨a, k, vs, rfl, rfl, hs, ne, c2, by omega, fun z => absurd z e, fun _ pp hp => ?_⟩
        have hz : k.toNat = 0 := by omega
        rw [hz] at p
        exact p ρ _ _ (Ext.still1 hp) (R.still1 hp) (.tup upd_same .nil)
      · refine .inl ⟨a, k, vs, rfl, rfl, hs, ne, by omega, c3, by rw [← r.length]; exact c4, fun pp hp => ?_⟩
        rw [reps_eq]
        exact p ρ _ _ (Ext.still1 hp) (R.still1 hp) (.tup upd_same ((r.ext (Ext.still1 hp)).reps _))
  · rw [if_neg c] at p; exact p.elim
theorem om_repT {Z : Zt} {E : XK} : OpM Z E mRepT (rRepTA Z.K) := fun ρ h H x y v w Q R r q p => by
  cases r with
  | tup h1 r1 =>
    cases q with
    | int k => exact repT_ok R (.inl (.inl h1)) r1 (.tup h1 r1) p
    | _ => exact p.elim
  | ktp h1 r1 =>
    cases q with
    | int k => exact repT_ok R (ktp_sq h1) r1 (.ktp h1 r1) p
    | _ => exact p.elim
  | _ => exact p.elim
theorem fold_reps (s : List Nat) : ∀ (n : Nat) (acc : Array Nat), (List.replicate n s.toArray).foldl (· ++ ·) acc = (acc.toList ++ reps s n).toArray
  | 0, acc => by simp [reps]
  | n + 1, acc => by
    rw [List.replicate_succ, List.foldl_cons, fold_reps s n]
    simp [reps]
def mRepS (x y : MV) (h : MH) : Out MV := match x, y with
  | .str s, .int k => if -1000 ≤ k ∧ k ≤ 1000 ∧ s.length ≤ 1000 then .ok (.str (reps s k.toNat)) h else .bad
  | _, _ => .bad
abbrev rRepS : R2 := fun x y H Q => ∃ (s : List Nat) (k : Int), x = .str (S1 s) ∧ y = .int k ∧ -1000 ≤ k ∧ k ≤ 1000 ∧ s.length ≤ 1000 ∧ Q (.str (S1 (reps s k.toNat))) H
theorem reps_nil {α : Type} : ∀ n, reps ([] : List α) n = []
  | 0 => rfl
  | n + 1 => by show [] ++ reps [] n = []; rw [reps_nil n]; rfl
theorem mul_txt (s : List Nat) (k : Int) : Txt.mul (S1 s) k = S1 (reps s k.toNat) := by
  unfold Txt.mul
  by_cases c : k < 1
  · rw [if_pos c]
    have : k.toNat = 0 := by omega
    rw [this]; rfl
  · rw [if_neg c]
    by_cases d : (k == 1 || (S1 s).length == 0) = true
    · rw [if_pos d]
      rcases Bool.or_eq_true_iff.mp d with e | e
      · have : k = 1 := by simpa using e
        subst this
        show S1 s = S1 (s ++ reps s 0)
        simp [reps]
      · have e' : s.toArray.size = 0 := by simpa [S1, Str.length] using e
        have : s = [] := by simpa using e'
        subst this
        rw [reps_nil]
    · rw [if_neg d]
      show Str.mk (List.foldl _ #[] (List.replicate k.toNat s.toArray)) = _
      rw [fold_reps]
      rfl
theorem op_repS {X : Cx} : OpR X (binaryOp .Mult) rRepS := by
  intro pins st σ H x y v u Q I rx ry h
  obtain ⟨s, k, rfl, rfl, h1, h2, h3, q⟩ := h
  obtain ⟨t, rfl⟩ := rx
  obtain ⟨t', rfl⟩ := ry
  have hl : (S1 s).length ≤ 1000 := by show s.toArray.size ≤ 1000; simpa using h3
  refine SB.mul ⟨by rw [decide_eq_false (by omega), decide_eq_false (by omega)] <;> rfl, fun c1 c2 => ?_, fun c1 c2 => ?_⟩ fun t'' tk => ⟨.str (S1 (reps s k.toNat)), H, I.tok _, ⟨_, by rw [mul_txt]⟩, q⟩
  · have : (2 ^ 63 - 1) / k ≥ (2 ^ 63 - 1) / 1000 := by
      refine Int.le_ediv_of_mul_le (by omega) ?_
      have : (2 ^ 63 - 1) / 1000 * k ≤ (2 ^ 63 - 1) / 1000 * 1000 := Int.mul_le_mul_of_nonneg_left h2 (by decide)
      omega
    omega
  · have : (S1 s).length * k.toNat ≤ 1000 * 1000 := Nat.mul_le_mul hl (by omega)
    show decide ((S1 s).length * k.toNat > sizeLine) = false
    exact decide_eq_false (by rw [sizeLine_eq]; omega)
theorem om_repS {Z : Zt} {E : XK} : OpM Z E mRepS rRepS := fun ρ h H x y v w Q R r q p => by
  cases r with
  | str s =>
    cases q with
    | int k =>
      have p' : Post Z (rV Z) ρ H Q E (if -1000 ≤ k ∧ k ≤ 1000 ∧ s.length ≤ 1000 then .ok (.str (reps s k.toNat)) h else .bad) := p
      by_cases c : -1000 ≤ k ∧ k ≤ 1000 ∧ s.length ≤ 1000
      · rw [if_pos c] at p'
        exact ⟨s, k, rfl, rfl, c.1, c.2.1, c.2.2, p'.ok R (.str _)⟩
      · rw [if_neg c] at p'; exact p'.elim
    | _ => exact p.elim
  | _ => exact p.elim
def isTup : MV → Bool
  | .tup _ => true
  | .ktp _ => true
  | _ => false
def isStr : MV → Bool
  | .str _ => true
  | _ => false
def mMulA (x y : MV) (h : MH) : Out MV := if isTup x = true then mRepT x y h else if isStr x = true then mRepS x y h else mMulV x y h
section
variable {X : Cx} {T : Nat → Addr} {E : XK} {a b : Expr} {ga gb : ME} {pos : Pos}
theorem je_mulA (ha : JE X T E a ga) (hb : JE X T E b gb) : JE X T E (.BinOp a .Mult b pos) (gBin mMulA ga gb) :=
  je_bin_or (f2 := fun x y h => if isStr x = true then mRepS x y h else mMulV x y h) (je_op (OpR.or op_repT TM.op_rep01) om_repT ha hb)
    (je_bin_or (je_op op_repS om_repS ha hb) (je_mulV ha hb) fun x y h => by
      by_cases c : isStr x = true
      · exact .inl (if_pos c)
      · exact .inr (if_neg c)) fun x y h => by
    unfold mMulA
    by_cases c : isTup x = true
    · exact .inl (if_pos c)
    · exact .inr (if_neg c)
end
end MI
set_option Elab.async false
set_option linter.all false
set_option maxRecDepth 100000
set_option maxHeartbeats 4000000
namespace MI
open PySem PySem.Spec PyProof.Rows L2 JB
def pick {α : Type} (idx : List (Nat × Nat)) (us its ws : List α) : List α := idx.filterMap fun q => match q.1 with
  | 0 => us[q.2]?
  | 1 => its[q.2]?
  | _ => ws[q.2]?
theorem vals_at {vs : List V} {us : List Value} (r : Vals vs us) : ∀ i : Nat, (vs[i]? = none ∧ us[i]? = none) ∨ ∃ v u, vs[i]? = some v ∧ us[i]? = some u ∧ RelV v u := by
  induction r with
  | nil => intro i; exact .inl ⟨by simp, by simp⟩
  | cons a r ih =>
    intro i
    cases i with
    | zero => exact .inr ⟨_, _, rfl, rfl, a⟩
    | succ i => simpa using ih i
theorem rvs_at {Z : Zt} {ρ : List Addr} {H : Hp} : ∀ {xs : List MV} {vs : List V}, RVs Z ρ H xs vs → ∀ i : Nat, (xs[i]? = none ∧ vs[i]? = none) ∨ ∃ v u, xs[i]? = some v ∧ vs[i]? = some u ∧ RV Z ρ H v u
  | _, _, .nil, i => .inl ⟨by simp, by simp⟩
  | _, _, .cons a r, 0 => .inr ⟨_, _, rfl, rfl, a⟩
  | _, _, .cons a r, i + 1 => by simpa using rvs_at r i
theorem pick_vals {vs ds zs : List V} {us its ws : List Value} (r : Vals vs us) (d : Vals ds its) (z : Vals zs ws) : ∀ idx, Vals (pick idx vs ds zs) (pick idx us its ws)
  | [] => .nil
  | q :: l => by
    have ih := pick_vals r d z l
    unfold pick at ih ⊢
    obtain ⟨a, i⟩ := q
    rw [List.filterMap_cons, List.filterMap_cons]
    match a with
    | 0 =>
      dsimp only
      rcases vals_at r i with ⟨e1, e2⟩ | ⟨v, u, e1, e2, e3⟩
      · rw [e1, e2]; exact ih
      · rw [e1, e2]; exact .cons e3 ih
    | 1 =>
      dsimp only
      rcases vals_at d i with ⟨e1, e2⟩ | ⟨v, u, e1, e2, e3⟩
      · rw [e1, e2]; exact ih
      · rw [e1, e2]; exact .cons e3 ih
    | n + 2 =>
      dsimp only
      rcases vals_at z i with ⟨e1, e2⟩ | ⟨v, u, e1, e2, e3⟩
      · rw [e1, e2]; exact ih
      · rw [e1, e2]; exact .cons e3 ih
theorem pick_rvs {Z : Zt} {ρ : List Addr} {H : Hp} {vs ds zs : List MV} {us its ws : List V} (r : RVs Z ρ H vs us) (d : RVs Z ρ H ds its) (z : RVs Z ρ H zs ws) : ∀ idx, RVs Z ρ H (pick idx vs ds zs) (pick idx us its ws)
  | [] => .nil
  | q :: l => by
    have ih := pick_rvs r d z l
    unfold pick at ih ⊢
    obtain ⟨a, i⟩ := q
    rw [List.filterMap_cons, List.filterMap_cons]
    match a with
    | 0 =>
      dsimp only
      rcases rvs_at r i with ⟨e1, e2⟩ | ⟨v, u, e1, e2, e3⟩
      · rw [e1, e2]; exact ih
      · rw [e1, e2]; exact .cons e3 ih
    | 1 =>
      dsimp only
      rcases rvs_at d i with ⟨e1, e2⟩ | ⟨v, u, e1, e2, e3⟩
      · rw [e1, e2]; exact ih
      · rw [e1, e2]; exact .cons e3 ih
    | n + 2 =>
      dsimp only
      rcases rvs_at z i with ⟨e1, e2⟩ | ⟨v, u, e1, e2, e3⟩
      · rw [e1, e2]; exact ih
      · rw [e1, e2]; exact .cons e3 ih
structure FK (P : Program) (w : World) (K : PySem.W.Frag) (mg : Str → Option Value) (base : Heap) (T : Nat → Addr) (k : Nat) (f : Addr) (n np : Nat) (ks : List Str) (idx : List (Nat × Nat)) (dm : List MV) (g : MF) : Prop where
  ex : ∃ fd ps its dvs, ps.length = n ∧ FnG P w K mg base (L2.CX P w) k f fd ps (spM ⟨K, T⟩ ps.length g) ∧ PySem.W.keepIn K (.ref f) = true ∧ KBn K fd ps np ks (fun us ws => pick idx us its ws) (fun vs zs => pick idx vs dvs zs) ∧ (∀ ρ H, RVs ⟨K, T⟩ ρ H dm dvs)
section
variable {P : Program} {w : World} {K : PySem.W.Frag} {mg : Str → Option Value} {base : Heap} {T : Nat → Addr} {k : Nat} {f : Addr}
variable {x qual : Str} {params : Arguments} {body : List Stmt} {scope : Scope} {dvs : List V} {kws : List (Str × V)} {fd : FuncData} {ps : List Str}
theorem FK.of0 {n np : Nat} {ks : List Str} {idx : List (Nat × Nat)} {g : MF} (F : FunD K x qual params body scope [] kws f fd) (G : FnG P w K mg base (L2.CX P w) k f fd ps (spM ⟨K, T⟩ ps.length g)) (hn : ps.length = n)
    (hb : ∀ (kV doc pm : Value) (an : Option Addr) (cdv ct : Value) (us ws : List Value), us.length = np → ws.length = ks.length → bindArgs (PySem.W.fnOf x qual params body scope .none kV doc pm an cdv ct) ⟨us, ks.zip ws⟩ = pure (ps.zip (pick idx us [] ws))) :
    FK P w K mg base T k f n np ks idx [] g := by
  obtain ⟨oc, od, dV, kV, doc, pm, an, cdv, ct, osl, rfl, lk, hcd, hD, hK⟩ := F.ex
  rcases hD with ⟨_, rfl⟩ | ⟨e, _⟩
  · exact ⟨_, ps, [], [], hn, G, F.kp, ⟨fun s us ws X l1 l2 => .of_eq (hb kV doc pm an cdv ct us ws l1 l2), fun r1 r2 => pick_vals r1 .nil r2 idx⟩, fun _ _ => .nil⟩
  · exact absurd rfl e
theorem FK.ofD {n np : Nat} {ks : List Str} {idx : List (Nat × Nat)} {dm : List MV} {g : MF} (F : FunD K x qual params body scope dvs kws f fd) (G : FnG P w K mg base (L2.CX P w) k f fd ps (spM ⟨K, T⟩ ps.length g)) (hn : ps.length = n) (hd : dvs ≠ [])
    (hb : ∀ (T : Addr) (kV doc pm : Value) (an : Option Addr) (cdv ct : Value) (us its ws : List Value), us.length = np → its.length = dvs.length → ws.length = ks.length →
      ∃ k, bindArgs (PySem.W.fnOf x qual params body scope (.ref T) kV doc pm an cdv ct) ⟨us, ks.zip ws⟩ = seqItems? (.ref T) >>= k ∧ k (some its.toArray) = pure (ps.zip (pick idx us its ws)))
    (hr : ∀ ρ H, RVs ⟨K, T⟩ ρ H dm dvs) : FK P w K mg base T k f n np ks idx dm g := by
  obtain ⟨its, h⟩ := F.kbindsD np ks (fun us its ws => pick idx us its ws) hd (fun r d z => pick_vals r d z idx) hb
  exact ⟨fd, ps, its, dvs, hn, G, F.kp, h, hr⟩
end
abbrev JK (X : Cx) (T : Nat → Addr) (E : XK) (kws : List Keyword) (g : MA) : Prop := PK X kws (tA ⟨X.K, T⟩ E g)
theorem PK.le {X : Cx} {kws : List Keyword} {t t' : TA} (p : PK X kws t) (k : ∀ σ H Q, t' σ H Q → t σ H Q) : PK X kws t' := ⟨fun po pins s σ H Q I h => p.run po pins s σ H Q I (k σ H Q h)⟩
def gMethK (c : Nat) (f : Nat) (g : MF) (dm : List MV) (n np nk : Nat) (idx : List (Nat × Nat)) (o : ME) (a ak : MA) : ME := fun m h => (o m h).bind fun x h1 => match x with
  | .ref i => match h1.get i with
    | some (.ins c' fs) => if c' = c ∧ (fs.lookup f).isNone = true then (a m h1).bind fun as h2 => (ak m h2).bind fun zs h3 =>
        if as.length + 1 = np ∧ zs.length = nk ∧ (pick idx (x :: as) dm zs).length = n then g (pick idx (x :: as) dm zs) h3 else .bad else .bad
    | _ => .bad
  | _ => .bad
def gMakeK (c : Nat) (g : MF) (dm : List MV) (n np nk : Nat) (idx : List (Nat × Nat)) (a ak : MA) : ME := fun m h => (a m h).bind fun as h1 => (ak m h1).bind fun zs h2 =>
  if as.length + 1 = np ∧ zs.length = nk ∧ (pick idx (.ref h2.n :: as) dm zs).length = n then
  (g (pick idx (.ref h2.n :: as) dm zs) (h2.push (.ins c []))).bind fun r h3 => match r with
    | .non => .ok (.ref h2.n) h3
    | _ => .bad
  else .bad
section
variable {X : Cx} {T : Nat → Addr} {E : XK} {k : Nat} {f C : Addr} {dm : List MV} {g : MF} {n np : Nat} {x me : Str} {mi : Nat} {p pos apos kpos : Pos} {e o : Expr} {es : List Expr} {ga gk : MA} {go ge : ME} {kws : List Keyword} {ks : List Str} {idx : List (Nat × Nat)} {nm' : Option Str}
theorem jk_nil : JK X T E [] gNil := PK.le pk_nil fun σ H Q ⟨ρ, m, h, s, q⟩ => q.ok s.hr .nil
theorem jk_cons (ha : JE X T E e ge) (hr : JK X T E kws gk) : JK X T E (⟨nm', e, kpos⟩ :: kws) (gCons ge gk) :=
  PK.le (pk_cons ha hr) fun σ H Q ⟨ρ, m, h, s, q⟩ => stepE s q fun ρ1 h1 H1 x v s1 e1 r1 q1 => stepA s1 q1 fun ρ2 h2 H2 xs vs s2 e2 r2 q2 => q2.ok s2.hr (.cons (r1.ext e2) r2)
theorem run_gK {CX : CXT} {fd : FuncData} {ps : List Str} {sp : Sp} {G : List Value → List Value → List Value} {gV : List V → List V → List V} {pins : List (Addr × Obj)} {σ : L2.St} {H : Hp} {s : Shared} {Q : VK} {us ws : List Value} {vs zs : List V} (hs : JB.Still X.A)
    (F : FnG X.prog X.w X.K X.mg X.base CX k f fd ps sp) (hr : Room k X.A) (hb : KBn X.K fd ps np ks G gV) (hx : Passes CX X E)
    (I : Inv X pins σ H s) (r : Vals vs us) (rz : Vals zs ws) (l1 : vs.length = np) (l2 : zs.length = ks.length) (h : sp (gV vs zs) H Q E) : wpAny (model X.prog X.w) X.A (call (.ref f) us (ks.zip ws)) (EP X pins σ Q) X.xe s := by
  have r2 := hb.rel r rz
  refine wpAny_call (codeAny_mono (F.goes X.A X.stack s H ⟨us, ks.zip ws⟩ (G us ws) (gV vs zs) Q E hs hr I.env0 (hb.to s us ws I.kIn (r.length.symm.trans l1) (rz.length.symm.trans l2)) r2 h) fun r s' hq => ?_)
  cases r with
  | error e => exact hx pins σ H s e s' I hq
  | ok fl => cases fl <;> first | exact I.after hq | exact False.elim hq
theorem run_makeGK {CX : CXT} {fd : FuncData} {ps : List Str} {sp : Sp} {G : List Value → List Value → List Value} {gV : List V → List V → List V} {pins : List (Addr × Obj)} {σ : L2.St} {H : Hp} {s : Shared} {Q : VK} {us ws : List Value} {vs zs : List V} (hs : JB.Still X.A)
    (M : Mk X.K C f) (F : FnG X.prog X.w X.K X.mg X.base CX k f fd ps sp) (hr : Room (k + 1) X.A) (hb : KBn X.K fd ps np ks G gV) (hx : Passes CX X E)
    (I : Inv X pins σ H s) (r : Vals vs us) (rz : Vals zs ws) (l1 : vs.length + 1 = np) (l2 : zs.length = ks.length)
    (h : ∀ y dx, H y = none → H dx = none → dx ≠ y → sp (gV (.ref y :: vs) zs) (upd (upd H dx (.own y)) y (.ins C dx [])) (fun v H2 => v = .non ∧ Q (.ref y) H2) E) :
    wpAny (model X.prog X.w) X.A (call (.ref C) us (ks.zip ws)) (EP X pins σ Q) X.xe s := by
  have hq := h (s.heap.objs.size + 1) s.heap.objs.size (I.hok.fresh (Nat.le_succ _)) (I.hok.fresh (Nat.le_refl _)) (Nat.ne_of_lt (Nat.lt_succ_self _))
  have I2 := Inv.made (C := C) I
  have r1 : Vals (V.ref (s.heap.objs.size + 1) :: vs) (Value.ref (s.heap.objs.size + 1) :: us) := .cons rfl r
  have r2 := hb.rel r1 rz
  have n1 : (Value.ref (s.heap.objs.size + 1) :: us).length = np := by rw [List.length_cons, ← r.length, l1]
  refine wpAny_call (make_map (f := f) I.kIn M.makes M.init (beq_iff_eq.mp M.fn) (codeAny_mono (F.goes _ X.stack _ _ ⟨Value.ref (s.heap.objs.size + 1) :: us, ks.zip ws⟩ (G (Value.ref (s.heap.objs.size + 1) :: us) ws) _ _ E (still_make hs) (hr.make C us (ks.zip ws))
    (I2.env0.make C us (ks.zip ws)) (hb.to _ (Value.ref (s.heap.objs.size + 1) :: us) ws I2.kIn n1 (rz.length.symm.trans l2)) r2 hq) fun z s' hq' => ?_))
  cases z with
  | error er => exact hx pins σ _ _ er s' I2 hq'
  | ok fl =>
    cases fl with
    | ret u =>
      obtain ⟨v, H', I3, rv, ev, q3⟩ := I2.after hq'
      subst ev
      exact ⟨rv, ⟨V.ref (s.heap.objs.size + 1), H', I3, rfl, q3⟩⟩
    | _ => exact False.elim hq'
theorem go_spK {ρ : List Addr} {h : MH} {H : Hp} {Q : VK} {as : List MV} {vs : List V} {ps : List Str} (r : HR ⟨X.K, T⟩ ρ h H) (a : RVs ⟨X.K, T⟩ ρ H as vs) (hn : as.length = ps.length)
    (q : Post ⟨X.K, T⟩ (rV ⟨X.K, T⟩) ρ H Q E (g as h)) : spM ⟨X.K, T⟩ ps.length g vs H Q E :=
  ⟨ρ, h, as, r, a, (RVs.length a).symm.trans hn, q⟩
theorem methK {ρ : List Addr} {m : ML} {h : MH} {σ : L2.St} {H : Hp} {Q : VK} {dvs : List V} {ps : List Str} {c : Nat} (hmi : me = nm mi) (hdm : ∀ ρ H, RVs ⟨X.K, T⟩ ρ H dm dvs)
    (s : SR ⟨X.K, T⟩ ρ m h σ H) (q : Post ⟨X.K, T⟩ (rV ⟨X.K, T⟩) ρ H Q E (gMethK c mi g dm ps.length np ks.length idx go ga gk m h)) :
    tE ⟨X.K, T⟩ E go σ H fun y H1 => ∃ a dx fs, y = .ref a ∧ H1 a = some (.ins (T c) dx fs) ∧ fs.lookup me = none ∧ tA ⟨X.K, T⟩ E ga σ H1 fun vs H2 => tA ⟨X.K, T⟩ E gk σ H2 fun zs H3 =>
      vs.length + 1 = np ∧ zs.length = ks.length ∧ spM ⟨X.K, T⟩ ps.length g (pick idx (.ref a :: vs) dvs zs) H3 Q E := by
  refine stepE s q fun ρ1 h1 H1 y v s1 e1 r1 q1 => ?_
  cases r1 with
  | @ref i a hi =>
    have q2 : Post _ (rV ⟨X.K, T⟩) ρ1 H1 Q E (match h1.get i with
      | some (.ins c' fs) => if c' = c ∧ (fs.lookup mi).isNone = true then (ga m h1).bind fun as h2 => (gk m h2).bind fun zs h3 =>
        if as.length + 1 = np ∧ zs.length = ks.length ∧ (pick idx (.ref i :: as) dm zs).length = ps.length then g (pick idx (.ref i :: as) dm zs) h3 else .bad else .bad
      | _ => .bad) := q1
    cases k : h1.get i with
    | none => rw [k] at q2; exact q2.elim
    | some ob =>
      rw [k] at q2
      obtain ⟨a', ha', ho⟩ := s1.hr.all i ob k
      rw [hi] at ha'
      cases ha'
      cases ob with
      | ins c' fs =>
        obtain ⟨dx, vs, h3, h4⟩ := ho
        dsimp only at q2
        by_cases z : c' = c ∧ (fs.lookup mi).isNone = true
        · obtain ⟨rfl, z⟩ := z
          rw [if_pos ⟨rfl, z⟩] at q2
          refine ⟨a, dx, vs, rfl, h3, ?_, stepA s1 q2 fun ρ2 h2 H2 xs ws s2 e2 r2 q3 => stepA s2 q3 fun ρ3 h3 H3 ys zs s3 e3 r3 q4 => ?_⟩
          · rw [hmi]; rcases h4.lookup mi with ⟨_, w⟩ | ⟨_, _, w, _⟩
            · exact w
            · rw [w] at z; cases z
          · by_cases hn : xs.length + 1 = np ∧ ys.length = ks.length ∧ (pick idx (.ref i :: xs) dm ys).length = ps.length
            · rw [if_pos hn] at q4
              exact ⟨by rw [← hn.1]; exact congrArg (· + 1) (RVs.length r2).symm, by rw [← hn.2.1]; exact (RVs.length r3).symm,
                go_spK s3.hr (pick_rvs (.cons (.ref ((e2.trans e3).at hi)) (r2.ext e3)) (hdm _ _) r3 idx) hn.2.2 q4⟩
            · rw [if_neg hn] at q4
              exact q4.elim
        · rw [if_neg z] at q2
          exact q2.elim
      | _ => exact q2.elim
  | _ => exact q1.elim
theorem je_methK {c : Nat} {pl : Sem Bool} (F : FK X.prog X.w X.K X.mg X.base T k f n np ks idx dm g) (cl : Cls X.K (T c)) (mt : Meth X.K (T c) me f) (hmi : me = nm mi) (hs : JB.Still X.A) (hr : Room k X.A) (hx : Passes (L2.CX X.prog X.w) X E)
    (ho : JE X T E o go) (ha : JA X T E (e :: es) ga) (hkw : JK X T E kws gk)
    (hall : (backToKw pos (keywordEach kws X.env)).all (·.1.isSome) = true := by rfl) (hks : (backToKw pos (keywordEach kws X.env)).filterMap (·.1) = ks := by rfl)
    (hst : starEach (e :: es) X.env = (false, eval e X.env) :: starEach es X.env := by rfl)
    (hpl : ((backTo pos (starEach (e :: es) X.env)).any (·.1) || (backToKw pos (keywordEach kws X.env)).any (·.1.isNone)) = false := by rfl)
    (ht : eval (.Call (.Attribute o me apos) (e :: es) kws pos) X.env = (do
      let ov ← eval o X.env
      standAt apos.atName
      let (f, first) ← holding [ov] (getMethod ov me pl)
      callWith pos f first (backTo pos (starEach (e :: es) X.env)) (backToKw pos (keywordEach kws X.env))) := by rfl) :
    JE X T E (.Call (.Attribute o me apos) (e :: es) kws pos) (gMethK c mi g dm n np ks.length idx go ga gk) := by
  obtain ⟨fd, ps, its, dvs, rfl, F, hk, hb, hdm⟩ := F.ex
  refine ⟨fun pins s σ H Q I ⟨ρ, m, h, s0, q⟩ => ?_⟩
  refine PySem.W.methodCall_KW (pl := pl) (thn (ho.run pins s σ H _ I (methK hmi hdm s0 q)) fun u s1 ⟨y, H1, I1, ry, a, dx, fs, ey, ea, l, q1⟩ => ?_) ht
  subst ey
  obtain rfl : u = Value.ref a := ry
  refine getmeth_ok I1 ea cl mt l (PySem.W.callWith_KW (first := [.ref a]) (h₀ := X.base) I.ok.mod.kin mt.kp hall
    (thn (ha.run pos pins s1 σ H1 _ I1 q1) fun us s2 ⟨vs, H2, I2, r, q2⟩ => ?_) hpl hst)
  refine thn (hkw.run pos pins s2 σ H2 _ I2 q2) fun ws s3 ⟨zs, H3, I3, rz, l1, l2, q3⟩ => ⟨I3.kIn, ?_⟩
  rw [hks]
  exact run_gK (us := .ref a :: us) (vs := .ref a :: vs) hs F hr hb hx I3 (.cons rfl r) rz l1 l2 q3
theorem je_methK0 {c : Nat} {pl : Sem Bool} (F : FK X.prog X.w X.K X.mg X.base T k f n np ks idx dm g) (cl : Cls X.K (T c)) (mt : Meth X.K (T c) me f) (hmi : me = nm mi) (hs : JB.Still X.A) (hr : Room k X.A) (hx : Passes (L2.CX X.prog X.w) X E)
    (ho : JE X T E o go) (hkw : JK X T E kws gk)
    (hall : (backToKw pos (keywordEach kws X.env)).all (·.1.isSome) = true := by rfl) (hks : (backToKw pos (keywordEach kws X.env)).filterMap (·.1) = ks := by rfl)
    (hpl : ((backTo pos (starEach [] X.env)).any (·.1) || (backToKw pos (keywordEach kws X.env)).any (·.1.isNone)) = false := by rfl)
    (ht : eval (.Call (.Attribute o me apos) [] kws pos) X.env = (do
      let ov ← eval o X.env
      standAt apos.atName
      let (f, first) ← holding [ov] (getMethod ov me pl)
      callWith pos f first (backTo pos (starEach [] X.env)) (backToKw pos (keywordEach kws X.env))) := by rfl) :
    JE X T E (.Call (.Attribute o me apos) [] kws pos) (gMethK c mi g dm n np ks.length idx go gNil gk) := by
  obtain ⟨fd, ps, its, dvs, rfl, F, hk, hb, hdm⟩ := F.ex
  refine ⟨fun pins s σ H Q I ⟨ρ, m, h, s0, q⟩ => ?_⟩
  refine PySem.W.methodCall_KW (pl := pl) (thn (ho.run pins s σ H _ I (methK hmi hdm s0 q)) fun u s1 ⟨y, H1, I1, ry, a, dx, fs, ey, ea, l, q1⟩ => ?_) ht
  subst ey
  obtain rfl : u = Value.ref a := ry
  obtain ⟨ρ1, m1, h1, sr1, q1⟩ := q1
  refine getmeth_ok I1 ea cl mt l (PySem.W.callWith_KW0 (first := [.ref a]) (h₀ := X.base) I.ok.mod.kin mt.kp hall
    (thn (hkw.run pos pins s1 σ H1 _ I1 (q1.ok sr1.hr .nil)) fun ws s3 ⟨zs, H3, I3, rz, l1, l2, q3⟩ => ⟨I3.kIn, ?_⟩) hpl)
  rw [hks]
  exact run_gK (us := [.ref a]) (vs := [.ref a]) hs F hr hb hx I3 (.cons rfl .nil) rz l1 l2 q3
theorem makeK {ρ : List Addr} {m : ML} {h : MH} {σ : L2.St} {H : Hp} {Q : VK} {dvs : List V} {ps : List Str} {c : Nat} (hdm : ∀ ρ H, RVs ⟨X.K, T⟩ ρ H dm dvs)
    (s : SR ⟨X.K, T⟩ ρ m h σ H) (q : Post ⟨X.K, T⟩ (rV ⟨X.K, T⟩) ρ H Q E (gMakeK c g dm ps.length np ks.length idx ga gk m h)) :
    tA ⟨X.K, T⟩ E ga σ H fun vs H1 => tA ⟨X.K, T⟩ E gk σ H1 fun zs H2 => vs.length + 1 = np ∧ zs.length = ks.length ∧ ∀ y dx, H2 y = none → H2 dx = none → dx ≠ y →
      spM ⟨X.K, T⟩ ps.length g (pick idx (.ref y :: vs) dvs zs) (upd (upd H2 dx (.own y)) y (.ins (T c) dx [])) (fun v H3 => v = .non ∧ Q (.ref y) H3) E := by
  refine stepA s q fun ρ1 h1 H1 xs vs s1 e1 r1 q1 => stepA s1 q1 fun ρ2 h2 H2 ys zs s2 e2 r2 q2 => ?_
  by_cases hn : xs.length + 1 = np ∧ ys.length = ks.length ∧ (pick idx (.ref h2.n :: xs) dm ys).length = ps.length
  · rw [if_pos hn] at q2
    refine ⟨by rw [← hn.1]; exact congrArg (· + 1) (RVs.length r1).symm, by rw [← hn.2.1]; exact (RVs.length r2).symm, fun y dx hy hdx hne => ?_⟩
    have hy' : upd H2 dx (.own y) y = none := by rw [upd_ne (Ne.symm hne)]; exact hy
    have f1 : Ext ρ2 H2 ρ2 (upd H2 dx (.own y)) := Ext.still1 hdx
    have f2 : Ext ρ2 (upd H2 dx (.own y)) (ρ2 ++ [y]) (upd (upd H2 dx (.own y)) y (.ins (T c) dx [])) := Ext.push hy'
    have s3 : HR ⟨X.K, T⟩ (ρ2 ++ [y]) (h2.push (.ins c [])) (upd (upd H2 dx (.own y)) y (.ins (T c) dx [])) := (s2.hr.still1 hdx).push hy' ⟨dx, [], upd_same, .nil⟩
    have at_ : (ρ2 ++ [y])[h2.n]? = some y := by rw [← s2.hr.len]; simp
    refine go_spK s3 (pick_rvs (.cons (.ref at_) ((r1.ext e2).ext (f1.trans f2))) (hdm _ _) (r2.ext (f1.trans f2)) idx) hn.2.2 ?_
    refine (Post.bind (R := rV ⟨X.K, T⟩) (q2.ext (f1.trans f2))).mono fun v H3 ⟨ρ3, h3, a, e3, r3, ra, q3⟩ => ?_
    cases ra with
    | non => exact ⟨rfl, q3.ok r3 (.ref (e3.at at_))⟩
    | _ => exact q3.elim
  · rw [if_neg hn] at q2
    exact q2.elim
theorem je_makeK {c : Nat} (F : FK X.prog X.w X.K X.mg X.base T k f n np ks idx dm g) (M : Mk X.K (T c) f) (hs : JB.Still X.A) (hr : Room (k + 1) X.A) (hx : Passes (L2.CX X.prog X.w) X E) (hg : Gl X x) (hm : X.mg x = some (.ref (T c)))
    (ha : JA X T E (e :: es) ga) (hkw : JK X T E kws gk)
    (hall : (backToKw pos (keywordEach kws X.env)).all (·.1.isSome) = true := by rfl) (hks : (backToKw pos (keywordEach kws X.env)).filterMap (·.1) = ks := by rfl)
    (hdb : (x == ("__debug__" : Str)) = false := by decide) (he : starEach (e :: es) X.env = (false, eval e X.env) :: starEach es X.env := by rfl)
    (hpl : ((backTo pos (starEach (e :: es) X.env)).any (·.1) || (backToKw pos (keywordEach kws X.env)).any (·.1.isNone)) = false := by rfl) :
    JE X T E (.Call (.Name x p) (e :: es) kws pos) (gMakeK c g dm n np ks.length idx ga gk) := by
  obtain ⟨fd, ps, its, dvs, rfl, F, hk, hb, hdm⟩ := F.ex
  refine ⟨fun pins s σ H Q I ⟨ρ, m, h, s0, q⟩ => ?_⟩
  refine wpAny_Call_Name_kw (ld_glob I hg hm ?_ hdb)
  refine PySem.W.callWith_KW (h₀ := X.base) I.ok.mod.kin M.kp hall (thn (ha.run pos pins s σ H _ I (makeK hdm s0 q)) fun us s1 ⟨vs, H1, I1, r, q1⟩ => ?_) hpl he
  refine thn (hkw.run pos pins s1 σ H1 _ I1 q1) fun ws s2 ⟨zs, H2, I2, rz, l1, l2, q2⟩ => ⟨I2.kIn, ?_⟩
  rw [hks]
  exact run_makeGK hs M F hr hb hx I2 r rz l1 l2 q2
theorem je_makeK0 {c : Nat} (F : FK X.prog X.w X.K X.mg X.base T k f n np ks idx dm g) (M : Mk X.K (T c) f) (hs : JB.Still X.A) (hr : Room (k + 1) X.A) (hx : Passes (L2.CX X.prog X.w) X E) (hg : Gl X x) (hm : X.mg x = some (.ref (T c)))
    (hkw : JK X T E kws gk)
    (hall : (backToKw pos (keywordEach kws X.env)).all (·.1.isSome) = true := by rfl) (hks : (backToKw pos (keywordEach kws X.env)).filterMap (·.1) = ks := by rfl)
    (hdb : (x == ("__debug__" : Str)) = false := by decide)
    (hpl : ((backTo pos (starEach [] X.env)).any (·.1) || (backToKw pos (keywordEach kws X.env)).any (·.1.isNone)) = false := by rfl) :
    JE X T E (.Call (.Name x p) [] kws pos) (gMakeK c g dm n np ks.length idx gNil gk) := by
  obtain ⟨fd, ps, its, dvs, rfl, F, hk, hb, hdm⟩ := F.ex
  refine ⟨fun pins s σ H Q I ⟨ρ, m, h, s0, q⟩ => ?_⟩
  refine wpAny_Call_Name_kw (ld_glob I hg hm ?_ hdb)
  refine PySem.W.callWith_KW0 (h₀ := X.base) I.ok.mod.kin M.kp hall ?_ hpl
  obtain ⟨ρ1, m1, h1, s1, q1⟩ := makeK (ga := gNil) hdm s0 q
  refine thn (hkw.run pos pins s σ H _ I (q1.ok s1.hr .nil)) fun ws s2 ⟨zs, H2, I2, rz, l1, l2, q2⟩ => ⟨I2.kIn, ?_⟩
  rw [hks]
  exact run_makeGK (us := []) (vs := []) hs M F hr hb hx I2 .nil rz l1 l2 q2
end
end MI
set_option Elab.async false
set_option linter.all false
set_option maxRecDepth 100000
set_option maxHeartbeats 4000000
namespace MI
open PySem PySem.Spec PyProof.Rows L2 JB
section
variable {Z : Zt} {ρ : List Addr} {H : Hp} {a : Addr} {od : Obj} {ws : List (Key × V)}
end
section
variable {X : Cx} {T : Nat → Addr} {E : XK} {e a tg : Expr} {es : List Expr} {ga : ME} {pos p apos cpos : Pos} {st : Stmt} {pk : ML → MH → Option Nat}
end
section
variable {Z : Zt} {ρ : List Addr} {H : Hp} {a : Addr} {od : Obj} {kvs : List (MK × MV)} {vs : List (Key × V)}
end
section
variable {X : Cx} {T : Nat → Addr} {E : XK} {e a tg : Expr} {es : List Expr} {ga : ME} {pos p apos cpos : Pos}
end
end MI
set_option Elab.async false
set_option linter.all false
set_option maxRecDepth 100000
set_option maxHeartbeats 4000000
namespace MI
open PySem PySem.Spec PyProof.Rows L2 JB
def dOkA (d : PyData) : Bool := d.showable && !d.hasDict && decide (d.depth ≤ 60) && d.leavesShort 60 && decide (d.bulk ≤ 262144)
theorem fineA_of {d : PyData} (h : dOkA d = true) : d.showable = true ∧ d.hasDict = false ∧ d.depth ≤ 60 ∧ d.shown.length ≤ sizeLine := by
  simp only [dOkA, Bool.and_eq_true, Bool.not_eq_true', decide_eq_true_eq] at h
  obtain ⟨⟨⟨⟨h1, h2⟩, h3⟩, h4⟩, h5⟩ := h
  refine ⟨h1, h2, h3, ?_⟩
  have a := PyData.shown_le_bulk 60 (by decide) d h4
  have b : (60 + 2) * d.bulk ≤ 62 * 262144 := Nat.mul_le_mul (by omega) h5
  rw [sizeLine_eq]
  omega
def sFine (s : List Nat) : Bool := decide (s.length ≤ 1000000) && s.all fun c => decide (c < 4294967296)
theorem sFine_ok {s : List Nat} (h : sFine s = true) : (reprText ⟨s.toArray⟩).length ≤ sizeLine := by
  simp only [sFine, Bool.and_eq_true, decide_eq_true_eq, List.all_eq_true] at h
  have a := StrLaws.reprText_len ⟨s.toArray⟩ (fun c hc => by
    have := h.2 c (by simpa using hc)
    have e : (16 : Nat) ^ 8 = 4294967296 := by decide
    omega)
  have b : (⟨s.toArray⟩ : Str).length = s.length := by show s.toArray.size = _; simp
  rw [sizeLine_eq]
  omega
def eqS (x y : MV) : Bool := match x, y with
  | .non, .non => true
  | .bl b, .bl c => b == c
  | .int i, .int j => decide (i = j) && iSmall i
  | .str s, .str t => leq s t && sFine s
  | _, _ => false
def gSameA (g1 g2 : ME) : ME := fun m h => (g1 m h).bind fun x h1 => if isRow x = true then match toD h1 61 x with
    | some d => if dOkA d = true then (g2 m h1).bind fun y h2 => if isRow y = true then match toD h2 61 y with
        | some e => if dOkA e = true ∧ dEq 61 d e = true then .ok (.bl true) h2 else .bad
        | none => .bad
      else .bad
      else .bad
    | none => .bad
  else if eqS x x = true then (g2 m h1).bind fun y h2 => if eqS x y = true then .ok (.bl true) h2 else .bad else .bad
section
variable {X : Cx}
abbrev rShowS : List V → Hp → VK → Prop := fun xs H Q => (∃ i, xs = [.int i] ∧ i.natAbs.log2 < 1920 ∧ Q (.str (toString i)) H) ∨ (∃ y : Str, xs = [.str y] ∧ (reprText y).length ≤ sizeLine ∧ Q (.str (reprText y)) H) ∨
  (∃ b : Bool, xs = [.bl b] ∧ Q (.str (if b then "True" else "False")) H) ∨ (xs = [.non] ∧ Q (.str "None") H)
theorem call_showS : CallR X (.builtin "repr") rShowS := by
  intro pins s σ H xs us Q I r h
  rcases h with ⟨i, rfl, hz, q⟩ | ⟨y, rfl, hz, q⟩ | ⟨b, rfl, q⟩ | ⟨rfl, q⟩
  · obtain ⟨u, rfl, t, rfl⟩ := vals1 r
    exact PySem.P.repr_of_int hz ⟨.str _, H, I.tok _, ⟨_, rfl⟩, q⟩
  · obtain ⟨u, rfl, t, rfl⟩ := vals1 r
    exact PySem.P.repr_of_str ⟨.str _, H, I.tok _, ⟨_, rfl⟩, q⟩ hz
  · obtain ⟨u, rfl, rx⟩ := vals1 r
    cases (show u = Value.bool b from rx)
    exact PySem.P.repr_of_bool ⟨.str _, H, I.tok _, ⟨_, rfl⟩, q⟩
  · obtain ⟨u, rfl, rx⟩ := vals1 r
    cases (show u = Value.none from rx)
    exact PySem.P.repr_of_none ⟨.str _, H, I.tok _, ⟨_, rfl⟩, q⟩
end
section
variable {P : Program} {w : World} {K : PySem.W.Frag} {mg : Str → Option Value} {base : Heap} {T : Nat → Addr}
theorem showS_ok {Z : Zt} {ρ : List Addr} {H : Hp} {x : MV} {v : V} (r : RV Z ρ H x v) (e : eqS x x = true) : ∃ t : Str, ∀ (H1 : Hp) (Q : VK), Q (.str t) H1 → rShowS [v] H1 Q := by
  cases r with
  | non => exact ⟨_, fun H1 Q q => .inr (.inr (.inr ⟨rfl, q⟩))⟩
  | bl b => exact ⟨_, fun H1 Q q => .inr (.inr (.inl ⟨b, rfl, q⟩))⟩
  | int i =>
    have e' : (decide (i = i) && iSmall i) = true := e
    simp only [Bool.and_eq_true] at e'
    exact ⟨_, fun H1 Q q => .inl ⟨i, rfl, iSmall_ok e'.2, q⟩⟩
  | str s =>
    have e' : (leq s s && sFine s) = true := e
    simp only [Bool.and_eq_true] at e'
    exact ⟨_, fun H1 Q q => .inr (.inl ⟨_, rfl, sFine_ok e'.2, q⟩)⟩
  | _ => cases e
theorem eqS_eq {x y : MV} (h : eqS x y = true) : x = y := by
  cases x <;> cases y <;> first
    | rfl
    | (cases h; done)
    | (rename_i a b
       simp only [eqS, Bool.and_eq_true, decide_eq_true_eq, beq_iff_eq] at h
       first
         | rw [h.1]
         | rw [h]
         | rw [leq_iff.mp h.1])
theorem scal_rv {Z : Zt} {ρ ρ' : List Addr} {H H' : Hp} {x : MV} {v w : V} (r : RV Z ρ H x v) (q : RV Z ρ' H' x w) (e : eqS x x = true) : v = w := by
  cases r <;> cases q <;> first | rfl | (cases e; done)
theorem je_sameA {X : Cx} {E : XK} {e1 e2 : Expr} {p1 p2 q1 q2 c1 : Pos} {g1 g2 : ME} (hs : JB.Still X.A) (hu : X.A.units + 64 < cLine) (hg : Gl X "repr") (hm : X.mg "repr" = none)
    (ha : JE X T E e1 g1) (hb : JE X T E e2 g2) (h1 : starEach [e1] X.env = (false, eval e1 X.env) :: starEach [] X.env := by rfl) (h2 : starEach [e2] X.env = (false, eval e2 X.env) :: starEach [] X.env := by rfl)
    (k1 : (backTo p2 (starEach ([] : List Expr) X.env)).any (·.1) = false := by rfl) (k2 : (backTo q2 (starEach ([] : List Expr) X.env)).any (·.1) = false := by rfl)
    (hbm : behindInMarks .Eq (.Call (.Name "repr" q1) [e2] [] q2) = false := by rfl) :
    JE X T E (.Compare (.Call (.Name "repr" p1) [e1] [] p2) [.Eq] [.Call (.Name "repr" q1) [e2] [] q2] c1) (gSameA g1 g2) :=
  PE.le (pe_cmpR op_eq (pe_callB (CallR.or (call_show hs hu) call_showS) hg hm (by decide +kernel) (pa_cons ha pa_nil h1) (by decide) (by decide) h1 k1) (pe_callB (CallR.or (call_show hs hu) call_showS) hg hm (by decide +kernel) (pa_cons hb pa_nil h2) (by decide) (by decide) h2 k2) hbm)
    fun σ H Q ⟨ρ, m, h, s, q⟩ => stepE s q fun ρ1 h1 H1 x v s1 e1 r1 q1 => by
      by_cases c : isRow x = true
      · rw [if_pos c] at q1
        cases t : toD h1 61 x with
        | none => rw [t] at q1; exact q1.elim
        | some d =>
          rw [t] at q1
          dsimp only at q1
          by_cases o : dOkA d = true
          · rw [if_pos o] at q1
            obtain ⟨a, rfl⟩ := row_ref r1 c
            obtain ⟨f1, f2, f3, f4⟩ := fineA_of o
            refine .inl ⟨a, d, rfl, toD_ok s1.hr 61 r1 t, f1, f2, f3, f4, stepE s1 q1 fun ρ2 h2 H2 y w s2 e2 r2 q2 => ?_⟩
            by_cases c2 : isRow y = true
            · rw [if_pos c2] at q2
              cases t2 : toD h2 61 y with
              | none => rw [t2] at q2; exact q2.elim
              | some e =>
                rw [t2] at q2
                dsimp only at q2
                by_cases o2 : dOkA e = true ∧ dEq 61 d e = true
                · rw [if_pos o2] at q2
                  obtain ⟨b, rfl⟩ := row_ref r2 c2
                  obtain ⟨i1, i2, i3, i4⟩ := fineA_of o2.1
                  have de := dEq_eq 61 o2.2
                  refine .inl ⟨b, e, rfl, toD_ok s2.hr 61 r2 t2, i1, i2, i3, i4, rfl, ?_⟩
                  rw [decide_eq_true (by rw [de])]
                  exact q2.ok s2.hr (.bl true)
                · rw [if_neg o2] at q2; exact q2.elim
            · rw [if_neg c2] at q2; exact q2.elim
          · rw [if_neg o] at q1; exact q1.elim
      · rw [if_neg c] at q1
        by_cases c1 : eqS x x = true
        · rw [if_pos c1] at q1
          obtain ⟨t, ht⟩ := showS_ok r1 c1
          refine .inr (ht _ _ (stepE s1 q1 fun ρ2 h2 H2 y w s2 e2 r2 q2 => ?_))
          by_cases c2 : eqS x y = true
          · rw [if_pos c2] at q2
            have exy := eqS_eq c2
            subst exy
            have evw := scal_rv r1 r2 c1
            subst evw
            refine .inr (ht _ _ ⟨rfl, ?_⟩)
            rw [decide_eq_true rfl]
            exact q2.ok s2.hr (.bl true)
          · rw [if_neg c2] at q2; exact q2.elim
        · rw [if_neg c1] at q1; exact q1.elim
end
end MI
set_option Elab.async false
set_option linter.all false
set_option maxRecDepth 100000
set_option maxHeartbeats 4000000
namespace MI
open PySem PySem.Spec PyProof.Rows L2 JB
def mEqB (k : Bool → Bool) (x y : MV) (h : MH) : Out MV := match toD h 61 x, toD h 61 y with
  | some d, some e => if okD d = true ∧ okD e = true then .ok (.bl (k (PyData.eqv d e))) h else .bad
  | _, _ => .bad
theorem eqB_ok {Z : Zt} {E : XK} {k : Bool → Bool} {ρ : List Addr} {h : MH} {H : Hp} {x y : MV} {v w : V} {Q : VK} (R : HR Z ρ h H) (r : RV Z ρ H x v) (q : RV Z ρ H y w) (p : Post Z (rV Z) ρ H Q E (mEqB k x y h)) :
    ∃ d e, Dp Z.K H v d ∧ Dp Z.K H w e ∧ SeqAt.shaped d = true ∧ SeqAt.shaped e = true ∧ Q (.bl (k (PyData.eqv d e))) H := by
  unfold mEqB at p
  cases t1 : toD h 61 x with
  | none => rw [t1] at p; exact p.elim
  | some d =>
    cases t2 : toD h 61 y with
    | none => rw [t1, t2] at p; exact p.elim
    | some e =>
      rw [t1, t2] at p
      dsimp only at p
      by_cases c : okD d = true ∧ okD e = true
      · rw [if_pos c] at p
        exact ⟨d, e, toD_ok R 61 r t1, toD_ok R 61 q t2, c.1, c.2, p.ok R (.bl _)⟩
      · rw [if_neg c] at p; exact p.elim
theorem om_eqB {Z : Zt} {E : XK} : OpM Z E (mEqB fun b => b) (rEqD Z.K) := fun ρ h H x y v w Q R r q p => eqB_ok R r q p
theorem om_neB {Z : Zt} {E : XK} : OpM Z E (mEqB fun b => !b) (rNeD Z.K) := fun ρ h H x y v w Q R r q p => eqB_ok R r q p
def mEqX (x y : MV) (h : MH) : Out MV := if isRow x = true then mEqB (fun b => b) x y h else mEqV x y h
def mNeX (x y : MV) (h : MH) : Out MV := if isRow x = true then mEqB (fun b => !b) x y h else mNeV x y h
theorem mEqX_or (x y : MV) (h : MH) : mEqX x y h = mEqB (fun b => b) x y h ∨ mEqX x y h = mEqV x y h := by unfold mEqX; split; exact .inl rfl; exact .inr rfl
theorem mNeX_or (x y : MV) (h : MH) : mNeX x y h = mEqB (fun b => !b) x y h ∨ mNeX x y h = mNeV x y h := by unfold mNeX; split; exact .inl rfl; exact .inr rfl
section
variable {X : Cx} {T : Nat → Addr} {E : XK} {a b e : Expr} {ga gb : ME} {pos : Pos}
theorem jt_eqF (hu : X.A.units + 64 < cLine) (ha : JE X T E a ga) (hb : JE X T E b gb) : JT X T E (.Compare a [.Eq] [b] pos) (gB (gBin mEqX ga gb)) :=
  jt_bin_or (jt_cmp (op_eqD hu) om_eqB ha hb (nobehind _ (by decide) (by decide))) (jt_eq ha hb) mEqX_or
theorem jt_neF (hu : X.A.units + 64 < cLine) (ha : JE X T E a ga) (hb : JE X T E b gb) : JT X T E (.Compare a [.NotEq] [b] pos) (gB (gBin mNeX ga gb)) :=
  jt_bin_or (jt_cmp (op_neD hu) om_neB ha hb (nobehind _ (by decide) (by decide))) (jt_ne ha hb) mNeX_or
end
end MI
set_option Elab.async false
set_option linter.all false
set_option maxRecDepth 100000
set_option maxHeartbeats 4000000
namespace JB
open PySem PySem.Spec PyProof.Rows L2
structure Base (B newId initId : String) (bm : List Value) : Prop where
  facts : ExcBaseFacts B newId initId bm
  pass : ∀ self : Value, refuseLoop self "__setattr__" bm = pure ()
  obj : bm.contains (.type "object") = true
  exc : bm.contains (.type "BaseException") = true
theorem base_V : Base "ValueError" "ValueError.__new__" "ValueError.__init__"
    [.type "ValueError", .type "Exception", .type "BaseException", .type "object"] :=
  ⟨F.excBase_ValueError, fun _ => by kernel_rfl, by decide +kernel, by decide +kernel⟩
theorem base_L : Base "LookupError" "LookupError.__new__" "LookupError.__init__"
    [.type "LookupError", .type "Exception", .type "BaseException", .type "object"] :=
  ⟨F.excBase_LookupError, fun _ => by kernel_rfl, by decide +kernel, by decide +kernel⟩
theorem base_R : Base "RuntimeError" "RuntimeError.__new__" "RuntimeError.__init__"
    [.type "RuntimeError", .type "Exception", .type "BaseException", .type "object"] :=
  ⟨F.excBase_RuntimeError, fun _ => by kernel_rfl, by decide +kernel, by decide +kernel⟩
theorem base_O : Base "OverflowError" "OverflowError.__new__" "OverflowError.__init__"
    [.type "OverflowError", .type "ArithmeticError", .type "Exception", .type "BaseException", .type "object"] :=
  ⟨F.excBase_OverflowError, fun _ => by kernel_rfl, by decide +kernel, by decide +kernel⟩
structure ExK (K : PySem.W.Frag) (C : Addr) (newId : String) (bm : List Value) : Prop where
  cls : ∃ nm q N bs sn sub ab col dd k0 k1 k2 k3 k5,
    K.lookup C = some (excClassObj nm q C N bs bm true sn sub ab col dd k0 k1 k2 k3 k5 newId)
  sa : PySem.W.findIn K (.ref C) "__setattr__" = some (some (.builtin "object.__setattr__"))
  ga : PySem.W.findIn K (.ref C) "__getattribute__" = some (some (.builtin "BaseException.__getattribute__"))
  gg : PySem.W.findIn K (.ref C) "__getattr__" = some none
  ca : PySem.W.findIn K (.ref C) "__class__" = some (some (.builtin "object.__class__"))
  ty : PySem.W.typeIn K (.ref C) = some (.type "type")
  kp : PySem.W.keepIn K (.ref C) = true
section
variable {K : PySem.W.Frag} {C D : Addr} {newId B initId : String} {bm : List Value}
theorem ExK.cd (T : ExK K C newId bm) : ∃ cd, PySem.W.clsIn K C = some cd ∧ cd.mro = .ref C :: bm ∧ cd.hasDict = true := by
  obtain ⟨nm, q, N, bs, sn, sub, ab, col, dd, k0, k1, k2, k3, k5, hC⟩ := T.cls
  have h : PySem.W.clsIn K C = Option.some (ClassData.mk nm bs (.ref C :: bm) N q true sn sub ab col false) := by
    unfold PySem.W.clsIn
    rw [hC] <;> rfl
  exact ⟨_, h, rfl, rfl⟩
theorem ExK.some (T : ExK K C newId bm) : (PySem.W.clsIn K C).isSome = true := by
  obtain ⟨cd, h, _⟩ := T.cd
  rw [h]; rfl
theorem ExK.hd (T : ExK K C newId bm) : PySem.W.hasDictIn K C = true := by
  obtain ⟨cd, h, _, e⟩ := T.cd
  unfold PySem.W.hasDictIn
  rw [h]; exact e
theorem ExK.mro (T : ExK K C newId bm) (b : Value) : PySem.W.mroIn K C b = Option.some ((Value.ref C :: bm).contains b) := by
  obtain ⟨cd, h, e, _⟩ := T.cd
  unfold PySem.W.mroIn
  rw [h, Option.bind_some, e]
  rfl
theorem ExK.sub (T : ExK K C newId bm) (b : Value) : PySem.W.subIn K (.ref C) b = Option.some ((Value.ref C :: bm).contains b) := T.mro b
theorem has_ty {b : String} : (Value.ref C :: bm).contains (.type b) = bm.contains (.type b) := by
  rw [List.contains_cons]
  have : (Value.type b == Value.ref C) = false := by simp
  rw [this, Bool.false_or]
theorem ExK.bas (T : ExK K C newId bm) (F : Base B newId initId bm) : PySem.W.subIn K (.ref C) (.type "BaseException") = Option.some true := by
  rw [T.sub, has_ty, F.exc]
theorem ExK.obj (T : ExK K C newId bm) (F : Base B newId initId bm) : PySem.W.mroIn K C (.type "object") = Option.some true := by
  rw [T.mro, has_ty, F.obj]
end
section
open Builtin Builtin.ObjectAttr
variable {prog : Program} {w : World} {A : Around} {R : Result → Shared → Prop} {hp : Heap} {g : Array GenState}
variable {d : Drawn} {t : Nat} {os : OsState} {K : PySem.W.Frag} {name : Str} {tk : Tok} {v : Value} {x C dx : Addr}
variable {fv : Array Value} {cd : ClassData} {m0 : Str → Option Value} {nl : List Str}
theorem osa_first (X : K.In hp) (hx : hp.get? x = some { cls := .ref C, data := .fields fv })
    (hcd : PySem.W.clsIn K C = some cd) (hm : cd.mro.contains (.type "object") = true) (hne : cd.mro.isEmpty = false)
    (hps : refuseLoop (.ref x) "__setattr__" cd.mro = pure ()) (hh : cd.hasDict = true)
    (ha : PySem.W.findIn K (.ref C) name = some none)
    (hq : ∀ h' tk' dx, (∀ b o, b ≠ x → hp.get? b = some o → h'.get? b = some o) → hp.objs.size ≤ dx → dx ≠ x →
      h'.get? x = some { cls := .ref C, dict := some dx, data := .fields fv } →
      h'.Ns1 dx (fun y => if y = name then some v else none) → R (.ok (.ret .none)) ⟨h', g, d, tk', os⟩) :
    codeAny (model prog w) A (.call (.builtin "object.__setattr__") ⟨[.ref x, .str name tk, v], []⟩) R ⟨hp, g, d, t, os⟩ := by
  have I : PySem.W.InstAt hp x { cls := .ref C, data := .fields fv } C none := ⟨hx, rfl, rfl, trivial⟩
  have SF := F.store_object
  have hxs : x ≠ hp.objs.size := Nat.ne_of_lt (Heap.lt_size hx)
  have sub : PySem.W.Looks (model prog w) hp (isInstance (.ref x) (.type "object")) true :=
    I.type.andThen (PySem.W.looks_mroIn X (by
      unfold PySem.W.mroIn
      rw [hcd, Option.bind_some, if_neg (by rw [hne]; decide), hm]))
  refine codeAny_call_builtin SF.slot.plain SF.entry (@PySem.W.check_slot (model prog w) _ _ ⟨hp, g, d, t, os⟩
    "object.__setattr__" "object" "__setattr__" (.ref x) [.str name tk, v] [] _ SF.kind SF.split sub
    (SF.args (.ref x) (.str name tk) v) ?_)
  have hmr : PySem.W.Looks (model prog w) hp (mroOf (.ref C)) cd.mro := (PySem.W.looks_clsIn X hcd).andThen .now
  have L3 : PySem.W.Looks (model prog w) hp (storeTaker? none) none := .now
  have hcls : PySem.W.Looks (model prog w) hp (classData C) cd := PySem.W.looks_clsIn X hcd
  rw [PySem.W.osa_eq, refuse_eq]
  refine wpAny_bind (wpAny_bind (I.type.at (wpAny_bind (hmr.at ?_))))
  rw [hps]
  refine wpAny_pure (wpAny_bind (I.type.at (wpAny_bind ((PySem.W.looks_findIn X ha).at (wpAny_bind (L3.at ?_))))))
  show wpAny _ _ (storeInOwnDict (.ref x) (.ref C) (.str name tk) name v false) _ _ _
  obtain ⟨nm, bs, mro, ns, qn, hd, sn, sb, ab, col, del⟩ := cd
  obtain rfl : hd = true := hh
  unfold storeInOwnDict ownDictForStores
  repeat (first
    | with_reducible refine PySem.HandSPX.store_in_new ?_ ?_
    | with_reducible refine wpAny_loadPart_at hx ?_
    | with_reducible refine hcls.at ?_
    | wp_step)
  · exact ⟨_, #[], _, (Heap.get?_update_ne _ _ _ _ hxs.symm).trans (Heap.get?_push_at rfl rfl), rfl,
      fun e he => absurd he (by simp), fun _ => rfl⟩
  · intro h' tk' hn' hs
    have hx₁ : (hp.push { cls := .type "dict", data := .dict #[] }).get? x = some { cls := .ref C, data := .fields fv } :=
      Heap.get?_push_of_some _ hx
    refine hq h' tk' hp.objs.size (fun b o hb ho => ?_) (Nat.le_refl _) hxs.symm ?_ hn'
    · exact (hs.2 b (Nat.ne_of_lt (Heap.lt_size ho))).trans
        ((Heap.get?_update_ne _ _ _ _ hb).trans (Heap.get?_push_of_some _ ho))
    · exact (hs.2 x hxs).trans (Heap.get?_update_self _ hx₁ rfl)
theorem osa_more (X : K.In hp) (hx : hp.get? x = some { cls := .ref C, dict := some dx, data := .fields fv })
    (hns : hp.Ns1 dx m0) (hw : Within m0 nl) (hz : nl.length ≤ 1000)
    (hcd : PySem.W.clsIn K C = some cd) (hm : cd.mro.contains (.type "object") = true) (hne : cd.mro.isEmpty = false)
    (hps : refuseLoop (.ref x) "__setattr__" cd.mro = pure ()) (hh : cd.hasDict = true)
    (ha : PySem.W.findIn K (.ref C) name = some none)
    (hq : ∀ h' tk', (∀ b o, b ≠ dx → hp.get? b = some o → h'.get? b = some o) →
      h'.Ns1 dx (fun y => if y = name then some v else m0 y) → R (.ok (.ret .none)) ⟨h', g, d, tk', os⟩) :
    codeAny (model prog w) A (.call (.builtin "object.__setattr__") ⟨[.ref x, .str name tk, v], []⟩) R ⟨hp, g, d, t, os⟩ := by
  obtain ⟨oD, esD, epD, hoD, hdD, _⟩ := hns.count hw
  have I : PySem.W.InstAt hp x { cls := .ref C, dict := some dx, data := .fields fv } C (some oD) := ⟨hx, rfl, rfl, hoD⟩
  have SF := F.store_object
  have sub : PySem.W.Looks (model prog w) hp (isInstance (.ref x) (.type "object")) true :=
    I.type.andThen (PySem.W.looks_mroIn X (by
      unfold PySem.W.mroIn
      rw [hcd, Option.bind_some, if_neg (by rw [hne]; decide), hm]))
  refine codeAny_call_builtin SF.slot.plain SF.entry (@PySem.W.check_slot (model prog w) _ _ ⟨hp, g, d, t, os⟩
    "object.__setattr__" "object" "__setattr__" (.ref x) [.str name tk, v] [] _ SF.kind SF.split sub
    (SF.args (.ref x) (.str name tk) v) ?_)
  have hmr : PySem.W.Looks (model prog w) hp (mroOf (.ref C)) cd.mro := (PySem.W.looks_clsIn X hcd).andThen .now
  have L3 : PySem.W.Looks (model prog w) hp (storeTaker? none) none := .now
  have hcls : PySem.W.Looks (model prog w) hp (classData C) cd := PySem.W.looks_clsIn X hcd
  rw [PySem.W.osa_eq, refuse_eq]
  refine wpAny_bind (wpAny_bind (I.type.at (wpAny_bind (hmr.at ?_))))
  rw [hps]
  refine wpAny_pure (wpAny_bind (I.type.at (wpAny_bind ((PySem.W.looks_findIn X ha).at (wpAny_bind (L3.at ?_))))))
  show wpAny _ _ (storeInOwnDict (.ref x) (.ref C) (.str name tk) name v false) _ _ _
  obtain ⟨nm, bs, mro, ns, qn, hd, sn, sb, ab, col, del⟩ := cd
  obtain rfl : hd = true := hh
  unfold storeInOwnDict ownDictForStores
  repeat (first
    | with_reducible refine PySem.OEX.store_in_old hns hw hz ?_
    | with_reducible refine wpAny_loadPart_at hx ?_
    | with_reducible refine hcls.at ?_
    | wp_step)
  intro h' tk' hn' hs
  exact hq h' tk' (fun b o hb ho => (hs.2 b hb).trans ho) hn'
end
end JB
set_option Elab.async false
set_option linter.all false
set_option maxRecDepth 100000
set_option maxHeartbeats 4000000
namespace PySem
namespace JX
open Builtin Builtin.ObjectAttr PySem.HandSPX
section
variable {M : Model} {A : Around} {E : Value → Shared → Prop} {h : Heap} {g : Array GenState} {d : Drawn} {t : Nat}
variable {os : OsState} {nm q : Str} {C N : Addr} {bs bmB : List Value} {hdct : Bool} {sn : List Str}
variable {sub : List Value} {ab : Bool} {col : Option Bool} {dd : Option Addr} {k0 k1 k2 k3 k5 : Option Value}
variable {B newId initId : String} {kw : List (Str × Value)}
theorem check_newK (F : ExcBaseFacts B newId initId bmB) {rest : List Value} {Q : Unit → Shared → Prop}
    (hC : h.get? C = some (excClassObj nm q C N bs bmB hdct sn sub ab col dd k0 k1 k2 k3 k5 newId))
    (hq : Q () ⟨h, g, d, t, os⟩) : wpAny M A (checkBuiltinCall newId ⟨.ref C :: rest, kw⟩) Q E ⟨h, g, d, t, os⟩ := by
  have hcont : (Value.ref C :: bmB).contains (.type B) = true := by rw [List.contains_cons, F.hasB, Bool.or_true]
  have hstar := F.noStar
  simp only [checkBuiltinCall, F.newKind, F.newSplit, F.newRow]
  repeat (first
    | refine wpAny_loadPart_at hC ?_
    | (refine wpAny_isSubtype_exc hC ?_; rw [hcont])
    | refine wpAny_staticBase_exc hC ?_
    | refine wpAny_madeBy_exc hC ?_
    | simp only [bne_self_eq_false, Bool.false_eq_true, if_false]
    | wp_step)
  exact hq
end
section
variable {prog : Program} {w : World} {A : Around} {E : Value → Shared → Prop} {R : Result → Shared → Prop}
variable {h : Heap} {g : Array GenState} {d : Drawn} {t : Nat} {os : OsState} {nm q : Str} {C N : Addr}
variable {bs bmB : List Value} {hdct : Bool} {sn : List Str} {sub : List Value} {ab : Bool} {col : Option Bool}
variable {dd : Option Addr} {k0 k1 k2 k3 k5 : Option Value} {B newId initId : String} {kw : List (Str × Value)}
theorem newK (F : ExcBaseFacts B newId initId bmB) {rest : List Value}
    (hC : h.get? C = some (excClassObj nm q C N bs bmB hdct sn sub ab col dd k0 k1 k2 k3 k5 newId))
    (hq : R (.ok (.ret (.ref (h.objs.size + 1)))) ⟨(h.push { cls := .type "tuple", data := .seq rest.toArray }).push
      { cls := .ref C, data := .fields #[.ref h.objs.size, .none, .none, .none, .bool false, .none] }, g, d, t, os⟩)
    (hrest : rest.length ≤ sizeLine) :
    codeAny (model prog w) A (.builtin newId ⟨.ref C :: rest, kw⟩) R ⟨h, g, d, t, os⟩ := by
  have hends := F.ends
  have hcB : (Value.ref C :: bmB).contains (.type B) = true := by rw [List.contains_cons, F.hasB, Bool.or_true]
  have hcA : (Value.ref C :: bmB).contains (.type "AttributeError") = false := by rw [List.contains_cons, F.noAttr]; rfl
  have hcN : (Value.ref C :: bmB).contains (.type "NameError") = false := by rw [List.contains_cons, F.noName]; rfl
  refine codeAny_builtinAt F.entry ?_
  unfold Builtin.«BaseException.__new__»
  refine wpAt_bind ?_
  show wpAt _ _ _ (stack >>= _) _ _ _
  refine wpAt_bind (wpAt_stack fun p below => wpAt_of_wpAny ?_)
  wp_walk
  refine wpAt_of_wpAny ?_
  rw [F.owner]
  repeat (first
    | with_reducible refine wpAny_madeHere_exc F.canon hC ?_
    | with_reducible refine wpAny_loadPart_at hC ?_
    | (with_reducible refine wpAny_isSubtype_exc hC ?_; first | rw [hcB] | rw [hcA] | rw [hcN])
    | wp_step)
  show R _ _
  rw [Heap.size_push]
  exact hq
theorem type_callK (F : ExcBaseFacts B newId initId bmB) {rest : List Value} {fI : Addr} {Q : Fin → Shared → Prop}
    (hC : h.get? C = some (excClassObj nm q C N bs bmB hdct sn sub ab col dd k0 k1 k2 k3 k5 newId))
    (hi : W.Looks (model prog w) h (typeLookup (.ref C) "__init__") (some (.ref fI)))
    (hb : ∀ self, W.Looks (model prog w) h (bindSpecial (.ref fI) self) (.ref fI, [self])) (hrest : rest.length ≤ sizeLine)
    (hq : codeAny (model prog w) A (.call (.ref fI) ⟨.ref (h.objs.size + 1) :: rest, kw⟩)
      (fun r s' => match r with
        | .ok (.ret v) => v = .none ∧ Q (.done (.ret (.ref (h.objs.size + 1)))) s'
        | .ok _ => False
        | .error e => E e s')
      ⟨(h.push (W.kdv_tup rest)).push (excO C h.objs.size), g, d, t, os⟩) :
    wpAny (model prog w) A (Builtin.«type.__call__» ⟨.ref C :: rest, kw⟩) Q E ⟨h, g, d, t, os⟩ := by
  repeat (first
    | with_reducible refine wpAny_loadPart_at hC ?_
    | with_reducible refine wpAny_madeBy_exc hC ?_
    | wp_step)
  refine codeAny_call_builtin_code (Code.quiet_builtin _ F.quiet) (check_newK F hC ?_)
  refine newK F hC ?_ hrest
  show wpAny _ _ _ _ _ _
  have k : ∀ b o, h.get? b = some o → ((h.push (W.kdv_tup rest)).push (excO C h.objs.size)).get? b = some o :=
    fun b o e => Heap.get?_push_of_some _ (Heap.get?_push_of_some _ e)
  have hC₁ := k _ _ hC
  have hget : ((h.push (W.kdv_tup rest)).push (excO C h.objs.size)).get? (h.objs.size + 1) = some (excO C h.objs.size) := by
    heap_get
  have hcC : (Value.ref C :: bmB).contains (.ref C) = true := by simp
  have i1 := hi.keeps k
  have b1 := (hb (.ref (h.objs.size + 1))).keeps k
  unfold isInstance
  repeat (first
    | with_reducible refine wpAny_loadPart_at hget ?_
    | (with_reducible refine wpAny_isSubtype_exc hC₁ ?_; rw [hcC])
    | wp_step)
  show wpAny _ _ (typeLookup (.ref C) _) _ _ _
  refine i1.at ?_
  refine wpAny_holding (wpAny_bind (b1.at ?_))
  refine wpAny_bind (wpAny_call (codeAny_mono hq fun r s' z => ?_))
  rcases r with e | (v | _ | _ | _) <;> first | exact z | exact z.elim | skip
  obtain ⟨rfl, z⟩ := z
  first
    | exact wpAny_pure (wpAny_pure z)
    | (wp_walk; exact z)
theorem callK (F : ExcBaseFacts B newId initId bmB) {rest : List Value} {fI : Addr}
    (hC : h.get? C = some (excClassObj nm q C N bs bmB hdct sn sub ab col dd k0 k1 k2 k3 k5 newId))
    (hi : W.Looks (model prog w) h (typeLookup (.ref C) "__init__") (some (.ref fI)))
    (hb : ∀ self, W.Looks (model prog w) h (bindSpecial (.ref fI) self) (.ref fI, [self])) (hrest : rest.length ≤ sizeLine)
    (hq : codeAny (model prog w) (A.under (.builtin "type.__call__" ⟨.ref C :: rest, kw⟩))
      (.call (.ref fI) ⟨.ref (h.objs.size + 1) :: rest, kw⟩) (W.InitBack (h.objs.size + 1) R)
      ⟨(h.push (W.kdv_tup rest)).push (excO C h.objs.size), g, d, t, os⟩) :
    codeAny (model prog w) A (.call (.ref C) ⟨rest, kw⟩) R ⟨h, g, d, t, os⟩ := by
  have f1 := tc_lookup
  have f2 := tc_bind (.ref C)
  have hTy : (⟨h, g, d, t, os⟩ : Shared).TypeIs (.ref C) "type" := ⟨_, hC, rfl⟩
  refine codeAny_of_tree ?_
  show wpAny _ _ (callAny (.ref C) _) _ _ _
  repeat (any_goals (first | assumption | with_reducible refine wpAny_loadPart_at hC ?_ | wp_step))
  refine ⟨rfl, ?_⟩
  refine codeAny_call_builtin_at (Code.quiet_builtin _ (by decide +kernel)) entry_typeCall
    (wpAny_check_type_call_sub hC (type_callK F hC hi hb hrest ?_))
  refine codeAny_mono hq fun r s' z => ?_
  rcases r with e | (v | _ | _ | _) <;> exact z
end
end JX
end PySem
set_option Elab.async false
set_option linter.all false
set_option maxRecDepth 100000
set_option maxHeartbeats 4000000
namespace JB
open PySem PySem.Spec PyProof.Rows L2
section
variable {X : Cx} {pins : List (Addr × Obj)} {σ : L2.St} {H : Hp} {s : Shared} {a C dx : Addr} {f : Str} {y : V} {u : Value}
variable {fs : List (Str × V)} {E : Value → Shared → Prop} {A : Around} {B newId initId : String} {bm : List Value}
theorem ExK.pass (T : ExK X.K C newId bm) (F : Base B newId initId bm) {cd : ClassData} (e : cd.mro = .ref C :: bm) (x : Value) :
    refuseLoop x "__setattr__" cd.mro = pure () := by
  rw [e, refuseLoop_ref]; exact F.pass x
theorem set_first {Q : Unit → Shared → Prop} (F : Base B newId initId bm) (T : ExK X.K C newId bm) (I : Inv X pins σ H s)
    (e : H a = some (exo a C none)) (hno : PySem.W.findIn X.K (.ref C) f = some none) (ry : RelV y u)
    (h : ∀ dx s', H dx = none → dx ≠ a →
      Inv X pins σ (upd (upd H dx (exd dx [(f, y)])) a (exo a C (some dx))) s' → Q () s') :
    wpAny (model X.prog X.w) A (setAttr (.ref a) f u) Q E s := by
  obtain ⟨cd, hcl, hm, hh⟩ := T.cd
  obtain ⟨t1, ho⟩ := exo_at I.hok e
  obtain ⟨hp, g, d, t, os⟩ := s
  refine PySem.W.set_plain I.kIn (od := none) (C := C)
    (ox := { cls := .ref C, dict := none, data := .fields #[.ref t1, .none, .none, .none, .bool false, .none] })
    ⟨ho, rfl, rfl, trivial⟩ T.sa ?_
  refine osa_first I.kIn ho hcl (by rw [hm, has_ty]; exact F.obj) (by rw [hm]; rfl) (T.pass F hm _) hh hno
    (fun h' tk' dx k dn dne hx hn => ?_)
  have hnd : H dx = none := I.hok.fresh dn
  have nd : ∀ {b : Addr} {o : Obj}, hp.get? b = some o → b ≠ dx :=
    fun {b o} q => Nat.ne_of_lt (Nat.lt_of_lt_of_le (Heap.lt_size q) dn)
  have na : ∀ {b : Addr}, H b = none → b ≠ a := by
    rintro b n rfl
    rw [e] at n
    cases n
  have U : Un X.fs [] H (upd (upd H dx (exd dx [(f, y)])) a (exo a C (some dx))) hp h' := by
    constructor
    · exact fun b o q n _ _ => k b o (na n) q
    · exact fun b o q n _ _ => ⟨o.slots, k b o (na n) q⟩
    · intro b o q n _
      rw [upd_ne (na n), upd_ne (nd q)]; exact n
    · intro b o q _
      by_cases hb : b = a
      · subst hb; exact ⟨_, hx⟩
      · exact ⟨o, k b o hb q⟩
    · intro b xs q
      rw [upd_ne (at_ne e q exo_tup), upd_ne (ne_of_none q hnd)]; exact q
    · intro b o v q
      rw [upd_ne (at_ne e q exo_frz), upd_ne (ne_of_none q hnd)]; exact q
    · intro b ps q
      exact ⟨#[], by rw [upd_ne (at_ne e q exo_tbl), upd_ne (ne_of_none q hnd), q]; simp⟩
  refine h dx _ hnd dne (I.un (t' := tk') U fun b o q => ?_)
  by_cases hb : b = a
  · subst hb
    rw [upd_same] at q
    cases q
    exact exo_ok hx
  rw [upd_ne hb] at q
  by_cases hd : b = dx
  · subst hd
    rw [upd_same] at q
    cases q
    exact exd_ok hn (relO_put (fs := []) ry fun g => True.intro)
  rw [upd_ne hd] at q
  refine (I.hok b o q).stay (fun c v hc z => k c v ?_ z) (fun c hc => ?_) fun c xs hc => ?_
  · rcases hc with rfl | hc
    · exact hb
    · exact at_ne e hc exo_own
  · rw [upd_ne (at_ne e hc exo_own), upd_ne (ne_of_none hc hnd)]; exact hc
  · rw [upd_ne (at_ne e hc exo_tup), upd_ne (ne_of_none hc hnd)]; exact hc
theorem set_more {Q : Unit → Shared → Prop} (F : Base B newId initId bm) (T : ExK X.K C newId bm) (I : Inv X pins σ H s)
    (e : H a = some (exo a C (some dx))) (ed : H dx = some (exd dx fs)) (hl : fs.length ≤ 900)
    (hno : PySem.W.findIn X.K (.ref C) f = some none) (ry : RelV y u)
    (h : ∀ s', Inv X pins σ (upd H dx (exd dx ((f, y) :: fs))) s' → Q () s') :
    wpAny (model X.prog X.w) A (setAttr (.ref a) f u) Q E s := by
  obtain ⟨cd, hcl, hm, hh⟩ := T.cd
  obtain ⟨t1, ho⟩ := exo_at I.hok e
  obtain ⟨mA, hns, rel⟩ := exd_at I.hok ed
  have hw := within_of rel
  obtain ⟨hp, g, d, t, os⟩ := s
  obtain ⟨oD, _, _, hoD, _, _⟩ := hns.count hw
  refine PySem.W.set_plain I.kIn (od := some oD) (C := C)
    (ox := { cls := .ref C, dict := some dx, data := .fields #[.ref t1, .none, .none, .none, .bool false, .none] })
    ⟨ho, rfl, rfl, hoD⟩ T.sa ?_
  refine osa_more I.kIn ho hns hw (by rw [List.length_map]; omega) hcl (by rw [hm, has_ty]; exact F.obj) (by rw [hm]; rfl)
    (T.pass F hm _) hh hno (fun h' tk' k hn => ?_)
  have hd : ∃ o, h'.get? dx = some o := by
    obtain ⟨o, _, _, e', _⟩ := hn
    exact ⟨o, e'⟩
  exact h _ (I.write (t' := tk') (x := dx) (e := dx) (o := exd dx ((f, y) :: fs)) (by rw [ed]; exact True.intro)
    (.inl rfl) k hd (exd_ok hn (relO_put ry rel)))
theorem binit_ok {us : List Value} {Q : Value → Shared → Prop} (F : Base B newId initId bm) (T : ExK X.K C newId bm)
    (I : Inv X pins σ H s) (e : H a = some (exo a C none)) (hl : us.length ≤ sizeLine)
    (h : ∀ s', Inv X pins σ H s' → Q .none s') :
    wpAny (model X.prog X.w) A (call (.builtin initId) (.ref a :: us)) Q E s := by
  obtain ⟨nm, q, N, bs, sn, sub, ab, col, dd, k0, k1, k2, k3, k5, hC⟩ := T.cls
  obtain ⟨t1, ho⟩ := exo_at I.hok e
  obtain ⟨hp, g, d, t, os⟩ := s
  refine wpAny_call (PySem.HandSPX.init_base F.facts (fun _ => rfl) (I.kIn _ _ hC) ho hl fun h' t2 k hx => ?_)
  have J := I.write (t' := t) (x := a) (e := a) (o := exo a C none) (by rw [e]; exact True.intro) (.inl rfl) k ⟨_, hx⟩ (exo_ok hx)
  have eu : upd H a (exo a C none) = H := by
    funext b
    by_cases hb : b = a
    · rw [hb, upd_same, e]
    · rw [upd_ne hb]
  rw [eu] at J
  exact h _ J
end
def IsEx (K : PySem.W.Frag) (C : Addr) : Prop := ∃ B newId initId bm, Base B newId initId bm ∧ ExK K C newId bm
def tBin (K : PySem.W.Frag) (newId : String) (bm : List Value) (ta : TA) : TE := fun σ H Q => ta σ H fun vs H1 =>
  ∃ (a C : Addr) (ws : List V), vs = .ref a :: ws ∧ ws.length ≤ 1000 ∧ ExK K C newId bm ∧ H1 a = some (exo a C none) ∧ Q .non H1
def tSetE (K : PySem.W.Frag) (f : Str) (to te : TE) : TS := fun D σ H => te σ H fun y H1 => to σ H1 fun x H2 =>
  ∃ a C : Addr, x = .ref a ∧ IsEx K C ∧ PySem.W.findIn K (.ref C) f = some none ∧
    ((H2 a = some (exo a C none) ∧ ∀ dx, H2 dx = none → dx ≠ a →
        D.nx σ (upd (upd H2 dx (exd dx [(f, y)])) a (exo a C (some dx)))) ∨
      ∃ (dx : Addr) (fs : List (Str × V)), H2 a = some (exo a C (some dx)) ∧ H2 dx = some (exd dx fs) ∧ fs.length ≤ 900 ∧
        D.nx σ (upd H2 dx (exd dx ((f, y) :: fs))))
section
variable {X : Cx} {o e : Expr} {es : List Expr} {to te : TE} {ta : TA} {f : Str} {p p' p1 p2 pos : Pos}
variable {B newId initId : String} {bm : List Value}
theorem pe_bin {b : Str} {pl : Sem Bool} (F : Base B newId initId bm) (hg : Gl X b) (hm : X.mg b = none)
    (hv : bootBuiltins b = some (.type B)) (hty : typeOf (.type B) = pure (.type "type")) (hst : Manifest.isStub B = false)
    (vV : PySem.W.findCls X.K (.type B) (.type "type") "__init__" = some (.val (.builtin initId)))
    (hh : PySem.W.handedIn (.builtin initId) = true)
    (ha : PA X (e :: es) ta) (hn : b ≠ "__name__" := by decide) (hdb : (b == ("__debug__" : Str)) = false := by decide)
    (hc : eval (.Call (.Attribute (.Name b p1) "__init__" p2) (e :: es) [] pos) X.env = (do
      let ov ← eval (.Name b p1) X.env
      standAt p2.atName
      let (f, first) ← holding [ov] (getMethod ov "__init__" pl)
      callWith pos f first (backTo pos (starEach (e :: es) X.env)) (backToKw pos (keywordEach [] X.env))) := by rfl)
    (he : starEach (e :: es) X.env = (false, eval e X.env) :: starEach es X.env := by rfl)
    (hpl : (backTo pos (starEach es X.env)).any (·.1) = false := by rfl) :
    PE X (.Call (.Attribute (.Name b p1) "__init__" p2) (e :: es) [] pos) (tBin X.K newId bm ta) := by
  refine ⟨fun pins s σ H Q I h => ?_⟩
  refine PySem.W.methodCall_KW (ld_blt I hg hm hv ?_ hn hdb) hc
  obtain ⟨m, fr⟩ := I.fr
  refine PySem.W.method_type fr I.ok.mod.kin hty hst vV hh ?_
  show wpAny _ _ (callWith pos (Value.builtin initId) [] (backTo pos (starEach (e :: es) X.env)) []) _ _ _
  refine PyProof.Rows.callWith_method1 (thn (ha.run pos pins _ σ H _ (I.tok _) h)
    fun us s1 ⟨vs, H1, I1, r1, a, C, ws, ev, hl, T, ea, q⟩ => ?_) he hpl
  subst ev
  cases r1 with
  | @cons _ u0 _ ur ra rw' =>
    obtain rfl : u0 = Value.ref a := ra
    have hlen : ur.length ≤ sizeLine := by
      rw [← Paired.length rw', sizeLine_eq]
      omega
    exact binit_ok F T I1 ea hlen fun s' J => ⟨.non, H1, J, rfl, q⟩
theorem ps_setE (ho : PE X o to) (he : PE X e te)
    (hs : swapsWith e (some (.Attribute o f p')) pos.line X.env = pure false := by rfl) :
    PS X (.Assign [.Attribute o f p'] e pos) (tSetE X.K f to te) := by
  refine ⟨fun pins s σ H D I h => ?_⟩
  refine plainObj_wpAny_Assign_Attribute (thn (he.run pins s σ H _ I h) fun v s1 ⟨y, H1, I1, r1, q1⟩ =>
    thn (ho.run pins s1 σ H1 _ I1 q1) fun u s2 ⟨x, H2, I2, r2, a, C, ex, ⟨B, newId, initId, bm, F, T⟩, hno, q⟩ => ?_) hs
  subst ex
  obtain rfl : u = Value.ref a := r2
  rcases q with ⟨ea, q⟩ | ⟨dx, fs, ea, ed, hl, q⟩
  · exact set_first F T I2 ea hno r1 fun dx s' n ne J => ⟨σ, _, J, q dx n ne⟩
  · exact set_more F T I2 ea ed hl hno r1 fun s' J => ⟨σ, _, J, q⟩
structure ClsG (K : PySem.W.Frag) : Prop where
  get : PySem.W.specialIn K (.builtin "object.__class__") "__get__" = some (some (.builtin "getset_descriptor.__get__"))
  tk : PySem.W.takesIn K (.builtin "object.__class__") = some true
end
end JB
set_option Elab.async false
set_option linter.all false
set_option maxRecDepth 100000
set_option maxHeartbeats 4000000
namespace JB
open PySem PySem.Spec PyProof.Rows L2
section
variable {X : Cx} {pins : List (Addr × Obj)} {σ : L2.St} {H : Hp} {s : Shared} {C fI : Addr} {fd : FuncData} {ps ks : List Str}
variable {sp : Sp} {k : Nat} {B newId initId : String} {bm : List Value} {x : Str} {p pos : Pos} {e : Expr} {es : List Expr}
variable {ta : TA} {Q : VK}
end
end JB
set_option Elab.async false
set_option linter.all false
set_option maxRecDepth 100000
set_option maxHeartbeats 4000000
namespace MI
open PySem PySem.Spec PyProof.Rows L2 JB
section
variable {X : Cx} {pins : List (Addr × Obj)} {σ : L2.St} {H : Hp} {s : Shared}
def ownH (X : Cx) : Hp := fun b => match X.s_0.heap.get? b with
  | none => none
  | some _ => X.H_0 b
theorem ownH_at {b : Addr} {o : Obj} (h : X.s_0.heap.get? b = some o) : ownH X b = X.H_0 b := by
  unfold ownH
  rw [h]
theorem ownH_sub {b : Addr} {u : HO} (h : ownH X b = some u) : X.H_0 b = some u ∧ ∃ o, X.s_0.heap.get? b = some o := by
  unfold ownH at h
  cases e : X.s_0.heap.get? b with
  | none => rw [e] at h; cases h
  | some o => rw [e] at h; exact ⟨h, o, rfl⟩
theorem ownH_none {b : Addr} (h : X.H_0 b = none) : ownH X b = none := by
  unfold ownH
  split
  · rfl
  · exact h
abbrev ownX (X : Cx) : Cx := { X with H_0 := ownH X }
theorem own_ok (ok : X.Ok) : (ownX X).Ok :=
  ⟨ok.mod, ok.kind, ok.glob, ok.blt, ok.above, ok.inj, ok.has, ok.cab, ok.hd, ok.frames, ok.stk, ok.exf, fun b o e => ⟨(ok.bs b o e).1, ownH_none (ok.bs b o e).2⟩, ok.bsz, ok.noex, ok.exfs, ok.funs, fun b h => ownH_none (ok.frf b h)⟩
theorem own_inv (I : Inv X pins σ H s) : Inv (ownX X) pins σ H s :=
  ⟨own_ok I.ok, I.os, I.bare, ⟨fun b o e n hf hx => I.base.keep b o e ((ownH_at (X := X) e).symm.trans n) hf hx, fun b o e n hf hx => I.base.slot b o e ((ownH_at (X := X) e).symm.trans n) hf hx,
    fun b o e n hx => I.base.free b o e ((ownH_at (X := X) e).symm.trans n) hx, I.base.there, fun b xs e => I.base.tups b xs (ownH_sub e).1, fun b o u e => I.base.frzs b o u (ownH_sub e).1, fun b ps e => I.base.tbls b ps (ownH_sub e).1⟩,
    I.loc, I.cell, I.free, I.freeC, I.pin, I.hok, I.len⟩
theorem untrackN {a : Addr} {φ : Heap → Prop} (I : Inv X pins σ H s) (ha : H a = some (.ext φ)) (n0 : X.s_0.heap.get? a = none) (hx : X.ex = []) :
    ∃ G : Heap, (∀ b o, G.get? b = some o → s.heap.get? b = some o) ∧ G.get? a = none ∧ Inv X pins σ (delH H a) { s with heap := G } := by
  have f0 : Fr0 (ownX X).H_0 a := fun o e => by
    obtain ⟨_, o', e'⟩ := ownH_sub (show ownH X a = some o from e)
    rw [n0] at e'; cases e'
  obtain ⟨G, g1, g2, J⟩ := (own_inv I).untrack ha f0 hx
  have nt : ∀ {b u}, H b = some u → (∀ φ, u ≠ .ext φ) → delH H a b = some u := fun {b u} e d => by
    rw [delH_ne (fun z => by rw [z, ha] at e; cases e; exact d _ rfl)]; exact e
  refine ⟨G, g1, g2, ⟨I.ok, J.os, J.bare, ⟨fun b o e n hf hx => J.base.keep b o e (ownH_none n) hf hx, fun b o e n hf hx => J.base.slot b o e (ownH_none n) hf hx,
    fun b o e n hx => J.base.free b o e (ownH_none n) hx, J.base.there, fun b xs e => nt (I.base.tups b xs e) (fun _ z => by cases z), fun b o u e => nt (I.base.frzs b o u e) (fun _ z => by cases z), fun b ps e => ?_⟩,
    J.loc, J.cell, J.free, J.freeC, J.pin, J.hok, J.len⟩⟩
  obtain ⟨m, z⟩ := I.base.tbls b ps e
  exact ⟨m, nt z (fun _ z => by cases z)⟩
theorem not_there (I : Inv X pins σ H s) {a : Addr} (hx : X.ex = []) (h : s.heap.get? a = none) : X.s_0.heap.get? a = none := by
  cases e : X.s_0.heap.get? a with
  | none => rfl
  | some o =>
    obtain ⟨o', e'⟩ := I.base.there a o e (by rw [hx]; simp)
    rw [h] at e'; cases e'
end
def FinE (C a : Addr) (H : Hp) (Q : XK) : Prop := (H a = some (exo a C none) ∧ Q (.ref C) none (delH H a)) ∨
  ∃ d fs, H a = some (exo a C (some d)) ∧ H d = some (exd d fs) ∧ Q (.ref C) (some d) (delH (upd H d (.xd fs)) a)
def tMkX (C : Addr) (sp : Sp) (ta : TA) : L2.St → Hp → XK → Prop := fun σ H Q => ta σ H fun vs H1 => vs.length ≤ 1000 ∧ ∀ a, H1 a = none →
  sp (.ref a :: vs) (upd H1 a (exo a C none)) (fun v H2 => v = .non ∧ FinE C a H2 Q) (fun _ _ _ => False)
section
variable {X : Cx} {pins : List (Addr × Obj)} {σ : L2.St} {H : Hp} {s : Shared} {C fI : Addr} {fd : FuncData} {ps : List Str}
variable {sp : Sp} {k : Nat} {B newId initId : String} {bm : List Value} {x : Str} {p pos : Pos} {e : Expr} {es : List Expr}
variable {ta : TA} {Q : XK}
theorem exd_ne_exo {d a C : Addr} {o : Option Addr} {fs : List (Str × V)} {h : Heap} {P : Program} {w : World} {H : Hp} (hok : HOk P w H h) (ha : H a = some (exo a C o)) (hd : H d = some (exd d fs)) : d ≠ a := fun z => by
  obtain ⟨t0, hoe⟩ := exo_at hok ha
  obtain ⟨mA, hns, _⟩ := exd_at hok hd
  obtain ⟨o, es, ep, e1, e2, _⟩ := hns
  rw [z, hoe] at e1
  have z2 := Option.some.inj e1
  subst z2
  cases e2
theorem fin_E (F : Base B newId initId bm) (T : ExK X.K C newId bm) (hx : X.ex = []) {a : Addr} (I : Inv X pins σ H s) (n0 : X.s_0.heap.get? a = none) (h : FinE C a H Q) : MkP X pins σ Q (.ref a) s := by
  have R : Raises X (.ref C) := raises_own (T.bas F) T.ty
  rcases h with ⟨ha, q⟩ | ⟨d, fs, ha, hd, q⟩
  · obtain ⟨t0, ho⟩ := exo_at I.hok ha
    obtain ⟨G, g1, g2, J⟩ := untrackN I ha n0 hx
    exact ⟨a, _, _, _, _, .ref C, none, rfl, J, g1, g2, ho, ⟨rfl, rfl⟩, rfl, rfl, delH_same, rfl, I.bare, R, q⟩
  · have hne := exd_ne_exo I.hok ha hd
    obtain ⟨t0, ho⟩ := exo_at I.hok ha
    obtain ⟨mA, hns, rel⟩ := exd_at I.hok hd
    have hdo : ∃ o, s.heap.get? d = some o := by
      obtain ⟨o, _, _, e', _⟩ := hns
      exact ⟨o, e'⟩
    have J1 : Inv X pins σ (upd H d (.xd fs)) s := I.write (t' := s.toks) (h' := s.heap) (x := d) (e := d) (o := .xd fs) (by rw [hd]; exact True.intro) (.inl rfl) (fun b u _ e => e) hdo ⟨mA, hns, rel⟩
    obtain ⟨G, g1, g2, J⟩ := untrackN J1 (by rw [upd_ne (Ne.symm hne)]; exact ha) n0 hx
    exact ⟨a, _, _, _, _, .ref C, some d, rfl, J, g1, g2, ho, ⟨rfl, rfl⟩, rfl, rfl, delH_same, rfl, I.bare, R, q⟩
theorem run_mkX (F : Base B newId initId bm) (T : ExK X.K C newId bm) (hx : X.ex = [])
    (iC : PySem.W.findIn X.K (.ref C) "__init__" = some (some (.ref fI))) (tI : PySem.W.typeIn X.K (.ref fI) = some (.type "function"))
    (hs : JB.Still X.A) (F1 : FnG X.prog X.w X.K X.mg X.base CX0 k fI fd ps sp) (hr : Room (k + 1) X.A) {us ws : List Value}
    {vs : List V} (I : Inv X pins σ H s)
    (hb : ∀ (s' : Shared) (self : Value), X.K.In s'.heap → BindsTo s' fd ⟨self :: us, []⟩ (ps.zip (self :: ws)))
    (rv : Vals vs ws) (hus : us.length ≤ sizeLine)
    (h : ∀ a, H a = none → sp (.ref a :: vs) (upd H a (exo a C none)) (fun v H2 => v = .non ∧ FinE C a H2 Q) (fun _ _ _ => False)) :
    wpAny (model X.prog X.w) X.A (call (.ref C) us []) (MkP X pins σ Q) X.xe s := by
  obtain ⟨nm, q, N, bs, sn, sub, ab, col, dd, k0, k1, k2, k3, k5, hC⟩ := T.cls
  obtain ⟨hp, g, dr, tk, os⟩ := s
  have hsz : hp.objs.size ≤ hp.objs.size + 1 := Nat.le_succ _
  have hn : H (hp.objs.size + 1) = none := I.hok.fresh hsz
  have hq := h (hp.objs.size + 1) hn
  have n0 : X.s_0.heap.get? (hp.objs.size + 1) = none := not_there I hx (Heap.get?_none_of_le hsz)
  have kk : ∀ b o, hp.get? b = some o →
      ((hp.push (PySem.W.kdv_tup us)).push (PySem.HandSPX.excO C hp.objs.size)).get? b = some o :=
    fun b o e => Heap.get?_push_of_some _ (Heap.get?_push_of_some _ e)
  have hget : ((hp.push (PySem.W.kdv_tup us)).push (PySem.HandSPX.excO C hp.objs.size)).get? (hp.objs.size + 1)
      = some (PySem.HandSPX.excO C hp.objs.size) := by heap_get
  have I2 : Inv X pins σ (upd H (hp.objs.size + 1) (exo (hp.objs.size + 1) C none))
      ⟨(hp.push (PySem.W.kdv_tup us)).push (PySem.HandSPX.excO C hp.objs.size), g, dr, tk, os⟩ :=
    I.laid (t' := tk) (a := hp.objs.size + 1) (o := exo (hp.objs.size + 1) C none)
      (h' := (hp.push (PySem.W.kdv_tup us)).push (PySem.HandSPX.excO C hp.objs.size)) kk hsz (exo_ok hget)
  have r2 : Vals (V.ref (hp.objs.size + 1) :: vs) (Value.ref (hp.objs.size + 1) :: ws) := .cons rfl rv
  refine wpAny_call (PySem.JX.callK F.facts (I.kIn _ _ hC) (PySem.W.looks_findIn I.kIn iC)
    (fun self => PySem.W.bind_fn I.kIn self tI) hus
    (codeAny_mono (F1.goes _ X.stack _ _ ⟨Value.ref (hp.objs.size + 1) :: us, []⟩ (Value.ref (hp.objs.size + 1) :: ws) _ _
      (fun _ _ _ => False) (still_make hs) (hr.make C us []) (I2.env0.make C us []) (hb _ _ I2.kIn) r2 hq) fun r s' hq' => ?_))
  cases r with
  | error er => exact False.elim hq'
  | ok fl =>
    cases fl with
    | ret u =>
      obtain ⟨v, H', I3, rv', ev, q3⟩ := I2.after hq'
      subst ev
      exact ⟨rv', fin_E F T hx I3 n0 q3⟩
    | next => exact False.elim hq'
    | brk => exact False.elim hq'
    | cont => exact False.elim hq'
theorem pmk_mk (F : Base B newId initId bm) (T : ExK X.K C newId bm) (hx : X.ex = [])
    (iC : PySem.W.findIn X.K (.ref C) "__init__" = some (some (.ref fI))) (tI : PySem.W.typeIn X.K (.ref fI) = some (.type "function"))
    (hs : JB.Still X.A) (F1 : FnG X.prog X.w X.K X.mg X.base CX0 k fI fd ps sp) (hr : Room (k + 1) X.A)
    (hb : Binds X.K fd ps []) (hg : Gl X x) (hm : X.mg x = some (.ref C)) (ha : PA X (e :: es) ta)
    (hdb : (x == ("__debug__" : Str)) = false := by decide)
    (he : starEach (e :: es) X.env = (false, eval e X.env) :: starEach es X.env := by rfl)
    (hpl : (backTo pos (starEach es X.env)).any (·.1) = false := by rfl) :
    PMk X (.Call (.Name x p) (e :: es) [] pos) (tMkX C sp ta) := by
  intro pins s σ H Q I h
  refine wpAny_Call_Name_kw (ld_glob I hg hm ?_ hdb)
  refine PySem.W.callWith_K (h₀ := X.base) I.ok.mod.kin T.kp (thn (ha.run pos pins s σ H _ I h)
    fun us s1 ⟨vs, H1, I1, r, q⟩ => ⟨I1.kIn, ?_⟩) he hpl
  have hus : us.length ≤ sizeLine := by
    rw [← r.length, sizeLine_eq]
    have := q.1
    omega
  have hl : us.length + 1 = ps.length := by
    have z := F1.many _ _ _ _ (q.2 s1.heap.objs.size (I1.hok.fresh (Nat.le_refl _)))
    rw [List.length_cons, r.length] at z
    exact z
  refine run_mkX F T hx iC tI hs F1 hr (us := us) (ws := us) I1 (fun s' self X' => ?_) r hus q.2
  have z := hb s' (self :: us) X' (by rw [List.append_nil, List.length_cons]; exact hl)
  rw [List.append_nil] at z
  exact z
theorem pmk_mk0 (F : Base B newId initId bm) (T : ExK X.K C newId bm) (hx : X.ex = [])
    (iC : PySem.W.findIn X.K (.ref C) "__init__" = some (some (.ref fI))) (tI : PySem.W.typeIn X.K (.ref fI) = some (.type "function"))
    (hs : JB.Still X.A) (F1 : FnG X.prog X.w X.K X.mg X.base CX0 k fI fd ps sp) (hr : Room (k + 1) X.A)
    (hb : Binds X.K fd ps []) (hg : Gl X x) (hm : X.mg x = some (.ref C)) (hdb : (x == ("__debug__" : Str)) = false := by decide) :
    PMk X (.Call (.Name x p) [] [] pos) (tMkX C sp tNil) := by
  intro pins s σ H Q I q
  refine wpAny_Call_Name_kw (ld_glob I hg hm ?_ hdb)
  have hl : 0 + 1 = ps.length := F1.many _ _ _ _ (q.2 s.heap.objs.size (I.hok.fresh (Nat.le_refl _)))
  refine PySem.W.callWith_K0 I.kIn T.kp (run_mkX F T hx iC tI hs F1 hr (us := []) (ws := []) I (fun s' self X' => ?_) .nil
    (Nat.zero_le _) q.2)
  have z := hb s' [self] X' (by rw [List.append_nil]; exact hl)
  rw [List.append_nil] at z
  exact z
end
end MI
set_option Elab.async false
set_option linter.all false
set_option maxRecDepth 100000
set_option maxHeartbeats 4000000
namespace MI
open PySem PySem.Spec PyProof.Rows L2 JB
section
variable {X : Cx} {pins : List (Addr × Obj)} {σ : L2.St} {H : Hp} {s : Shared}
theorem flyZ_keeps {B : Heap} {l : List Env} {a : Addr} {Z : Obj → Prop} {h h' : Heap} (f : HandSPX.FlyingZ B l a Z h) (k : ∀ b o, h.get? b = some o → h'.get? b = some o) : HandSPX.FlyingZ B l a Z h' := by
  obtain ⟨f1, f2, f3, oe, vs, T, oT, ts, he, hz, hd, h1, hn, hne, hT, hdT, h3⟩ := f
  exact ⟨fun b o q => k b o (f1 b o q), f2, f3.of_keeps fun b o q _ => ⟨o, k b o q, rfl⟩, oe, vs, T, oT, ts, k _ _ he, hz, hd, h1, hn, hne, k _ _ hT, hdT, h3⟩
theorem trackN {a : Addr} {φ : Heap → Prop} {oe : Obj} {vs : Array Value} (I : Inv X pins σ H s) (he : s.heap.get? a = some oe) (hd : oe.data = .fields vs) (na : H a = none) (n0 : X.s_0.heap.get? a = none) (nL : a ≠ X.env.locals)
    (np : ∀ p ∈ X.pn ++ pins, p.1 ≠ a) (new : ObjOk X.prog X.w (upd H a (.ext φ)) s.heap a (.ext φ)) : Inv X pins σ (upd H a (.ext φ)) s := by
  have ne0 : ∀ {b o}, X.s_0.heap.get? b = some o → b ≠ a := fun {b o} e z => by rw [z, n0] at e; cases e
  have nc : ∀ x c, X.env.cells.lookup x = some c → c ≠ a := fun x c e z => by
    obtain ⟨v, o, h1, h2⟩ := I.cell x c e
    rw [z, he] at h1; cases h1
    rw [hd] at h2; cases h2
  refine ⟨I.ok, I.os, I.bare, ⟨I.base.keep, I.base.slot, fun b o e n hx => by rw [upd_ne (ne0 e)]; exact I.base.free b o e n hx, I.base.there, fun b xs e => ?_, fun b o u e => ?_, fun b ps e => ?_⟩, I.loc, I.cell, by rw [upd_ne (Ne.symm nL)]; exact I.free,
    fun x c e => by rw [upd_ne (nc x c e)]; exact I.freeC x c e, fun p hp => ?_, I.hok.laidN (fun _ _ e => e) na new, I.len⟩
  · have z := I.base.tups b xs e
    rw [upd_ne (ne_of_none z na)]; exact z
  · have z := I.base.frzs b o u e
    rw [upd_ne (ne_of_none z na)]; exact z
  · obtain ⟨m, z⟩ := I.base.tbls b ps e
    exact ⟨m, by rw [upd_ne (ne_of_none z na)]; exact z⟩
  · obtain ⟨h1, h2, h3⟩ := I.pin p hp
    exact ⟨h1, by rw [upd_ne (np p hp)]; exact h2, h3⟩
theorem suiteN (I : Inv X pins σ H s) (a : Addr) : Inv (X.suite a (X.pn ++ pins)) [] σ H s :=
  ⟨I.ok.suite _ _, I.os, I.bare, I.base, I.loc, I.cell, I.free, I.freeC, fun p hp => I.pin p (by rw [List.append_nil] at hp; exact hp), I.hok, I.len⟩
theorem unsuiteN {a : Addr} {pn' : List (Addr × Obj)} (I : Inv (X.suite a (X.pn ++ pins)) pn' σ H s) (ok : X.Ok) : Inv X pins σ H s :=
  ⟨ok, I.os, I.bare, I.base, I.loc, I.cell, I.free, I.freeC, fun p hp => I.pin p (List.mem_append_left _ hp), I.hok, I.len⟩
theorem exk_ok {P : Program} {w : World} {H : Hp} {h : Heap} {a C : Addr} {d : Option Addr} {oe : Obj} {vs : Array Value} (he : h.get? a = some oe) (hz : Zc (.ref C) d oe) (hd : oe.data = .fields vs) : ObjOk P w H h a (exk a C d) :=
  ⟨⟨oe, vs, he, hz.1, hz.2, hd⟩, ⟨_, he⟩, fun h1 h2 ⟨o, v, q, r⟩ k => ⟨o, v, k _ q, r⟩⟩
end
def TestX (X : Cx) (t : Expr) (tb : Value → Option Bool) : Prop :=
  ∀ (a : Addr) (oe : Obj) (pn pins : List (Addr × Obj)) (σ : L2.St) (H : Hp) (s : Shared) (cls : Value) (b : Bool) (Q : Bool → Shared → Prop) (E : Value → Shared → Prop),
    Inv (X.suite a ((a, oe) :: pn)) pins σ H s → PySem.W.Looks (model X.prog X.w) s.heap (typeOf (.ref a)) cls → tb cls = some b →
    (∀ h', (∀ q o, s.heap.get? q = some o → h'.get? q = some o) → Q b { s with heap := h' }) →
    wpAny (model X.prog X.w) (X.A.mark (some (.ref a))) (eval t X.env) (fun c s₁ => wpAny (model X.prog X.w) (X.A.mark (some (.ref a))) (excMatches (.ref a) c) Q E s₁) E s
section
variable {X : Cx} {x x1 x2 x3 x4 : Str} {c c1 c2 c3 c4 : Value} {np p1 p2 p3 p4 tpos : Pos} {kk : Nat}
theorem test_t2 (g1 : Gl X x1) (m1 : X.mg x1 = some c1) (g2 : Gl X x2) (m2 : X.mg x2 = some c2) (d1 : (x1 == ("__debug__" : Str)) = false := by decide) (d2 : (x2 == ("__debug__" : Str)) = false := by decide) :
    TestX X (.Tuple [.Name x1 p1, .Name x2 p2] kk tpos) (fun cls => PySem.W.exmAny X.K cls [c1, c2]) := by
  intro a oe pn pins σ H s cls b Q E I LT hb q
  refine wpAny_Tuple ?_
  refine wpAny_items_cons (ld_glob (X := X.suite a ((a, oe) :: pn)) I g1 m1 ?_ d1)
  refine wpAny_items_cons (ld_glob (X := X.suite a ((a, oe) :: pn)) I g2 m2 ?_ d2)
  refine wpAny_items_nil ⟨by size_fits, ?_⟩
  have kp : ∀ q o, s.heap.get? q = some o → (s.heap.push { cls := .type "tuple", data := .seq [c1, c2].toArray }).get? q = some o := fun _ _ z => Heap.get?_push_of_some _ z
  exact (PySem.W.exm_tup2 (M := model X.prog X.w) (I.kIn.keeps kp) (LT.keeps kp) (Heap.get?_push_size s.heap rfl) hb).here (q _ kp)
end
def wX (tb : Value → Option Bool) (i : Nat) (ts : TS) (Wout : WX) (D : Ends) : WX := fun cls d σ H => ∃ b, tb cls = some b ∧
  (b = true → ∀ a, H a = none → ∃ C, cls = .ref C ∧ ts { nx := fun σ' H' => D.nx (σ'.set i none) H', rt := D.rt, bk := fun σ' H' => D.bk (σ'.set i none) H', ct := fun σ' H' => D.ct (σ'.set i none) H' } (σ.set i (some (.ref a))) (upd H a (exk a C d))) ∧
  (b = false → Wout cls d σ H)
section
variable {X : Cx} {n : Str} {t : Expr} {i : Nat} {body suite : List Stmt} {b₀ : Stmt} {pos pos' : Pos} {tb : WX → TS} {ts : TS} {Wout : WX} {tt : Value → Option Bool}
theorem ps_tryX (hs : X.stack = X.env :: X.outer) (hf : X.env.frame = some X.env.locals) (hex : X.ex = []) (hN : X.N.Nodup) (hi : X.N[i]? = some n) (hln : X.env.kindOf n = some .local) (ht : TestX X t tt) (tk : Takes X Wout)
    (hb : ∀ (W : WX) (pn : List (Addr × Obj)) (xe : Value → Shared → Prop), Takes (X.tr pn xe) W → PassesOwn (model X.prog X.w) X.A X.env xe → PSs (X.tr pn xe) body (tb W))
    (hsu : ∀ (a : Addr) (pn : List (Addr × Obj)), PSs (X.suite a pn) (b₀ :: suite) ts) :
    PS X (.Try body [.ExceptHandler (some t) (some n) (b₀ :: suite) pos'] [] [] pos) (fun D σ H => tb (wX tt i ts Wout D) D σ H) := by
  refine ⟨fun pins s σ H D I h => ?_⟩
  have ok := I.ok
  have hfr : X.A.frames = some (X.env :: X.outer) := by rw [ok.frames, hs]
  have hloc : Loc X.env.scope n := .inl hln
  refine wpAny_Try_except ?_
  refine wpAny_mono ((hb (wX tt i ts Wout D) (X.pn ++ pins) (fun e s₁ => wpAny (model X.prog X.w) X.A (noteFrame e X.env) (fun _ s₂ => wpAny (model X.prog X.w) X.A (setFlight e none) (fun _ s₃ =>
    wpAny (model X.prog X.w) X.A (handleBy e X.env [.ExceptHandler (some t) (some n) (b₀ :: suite) pos']) (SP X pins D) X.xe s₃) X.xe s₂) X.xe s₁) (fun u s' xx => ?_) PassesOwn.looking).run [] s σ H D (I.toTry _) h) (fun f s1 hsp => ?_) (fun e s1 he => he)
  · obtain ⟨a, B, sI, pins', σ', H', cls, d, rfl, J', nb, up, sky, na, os, ag, b, hb1, hyes, hno⟩ := xx
    have J : Inv X pins σ' H' sI := J'.ofTry ok
    have sky' : Sky B (X.env :: X.outer) a (Zc cls d) X.env.locals s'.heap := by rw [← hs]; exact sky
    refine Sky.land Zc.steady hfr hf sky' fun h3 fl3 up3 => ?_
    have J3 : Inv X pins σ' H' { s' with heap := h3 } := J.landed nb fl3.1 (up.trans up3) os ag
    obtain ⟨oe3, vs3, he3, hz3, hd3⟩ := fl3.there
    have nfr : a ∉ frs (X.env :: X.outer) := fun hm => by
      obtain ⟨_, o', e', hnf⟩ := fl3.2.2.1.mem hm
      rw [he3] at e'; cases e'
      exact hnf _ hd3
    have nL : a ≠ X.env.locals := fun z => nfr (List.mem_filterMap.mpr ⟨X.env, List.mem_cons_self, by rw [hf, z]⟩)
    have nF : a ∉ X.fs := fun hm => by
      obtain ⟨e, he, q⟩ := List.mem_filterMap.mp hm
      exact nfr (List.mem_filterMap.mpr ⟨e, List.mem_cons_of_mem _ he, q⟩)
    have nI : sI.heap.get? a = none := by
      cases e : sI.heap.get? a with
      | none => rfl
      | some o =>
        have z := nb a o e (by rw [hs]; exact nfr)
        rw [fl3.2.1] at z; cases z
    have n0 : X.s_0.heap.get? a = none := not_there J hex nI
    have np : ∀ p ∈ X.pn ++ pins, p.1 ≠ a := fun p hp z => by
      have := (J.pin p hp).1
      rw [z, nI] at this; cases this
    have S3 := J3.suite he3 hd3 na nL nF
    have LT : PySem.W.Looks (model X.prog X.w) h3 (typeOf (.ref a)) cls := fun A Q E s k q => wpAny_typeOf_ref (k _ _ he3) (by rw [hz3.1]; exact q)
    refine wpAny_handleBy_cons (codeAny_handlers_test (ht a oe3 (X.pn ++ pins) [] σ' H' _ cls b _ _ S3 LT hb1 fun h5 kp => ?_)) (by intro q; cases q)
    have fl5 := flyZ_keeps fl3 kp
    have up5 : s'.heap.UpToSlots h5 := up3.trans (Heap.UpToSlots.of_keeps kp)
    cases b with
    | true =>
      refine codeAny_handlers_suite_as ?_
      refine HandSPX.lands_againZ fl5 fun h4 fl4 up4 => ?_
      have J4 : Inv X pins σ' H' { s' with heap := h4 } := J.landed nb fl4.1 ((up.trans up5).trans up4) os ag
      obtain ⟨oe4, vs4, he4, hz4, hd4⟩ := fl4.there
      obtain ⟨C, rfl, hsuite⟩ := hyes rfl a na
      have T4 : Inv X pins σ' (upd H' a (exk a C d)) { s' with heap := h4 } := trackN J4 he4 hd4 na n0 nL np (exk_ok he4 hz4 hd4)
      refine store_ok (X := X.suite a (X.pn ++ pins)) (v := .ref a) (suiteN T4 a) hN hi hloc rfl (fun s5 S5 => ?_) (.inr hln)
      refine wpAny_mono ((hsu a (X.pn ++ pins)).run [] s5 _ _ _ S5 hsuite) (fun f s6 hsp => ?_) (fun _ _ z => False.elim z)
      have end_ : ∀ {σ6 : L2.St} {H6 : Hp} {Q : Shared → Prop}, Inv (X.suite a (X.pn ++ pins)) [] σ6 H6 s6 → (∀ s7, Inv X pins (σ6.set i none) H6 s7 → Q s7) →
          wpAny (model X.prog X.w) X.A (do bindName X.env n .none; unbindBehindTheSuite X.env n pos') (fun _ s7 => Q s7) X.xe s6 := fun {σ6 H6 Q} S6 hq => gone_ok (unsuiteN S6 ok) hN hi hln hq
      cases f with
      | next =>
        obtain ⟨σ6, H6, S6, q6⟩ := hsp
        exact end_ S6 fun s7 J7 => ⟨_, _, J7, q6⟩
      | brk =>
        obtain ⟨σ6, H6, S6, q6⟩ := hsp
        exact end_ S6 fun s7 J7 => ⟨_, _, J7, q6⟩
      | cont =>
        obtain ⟨σ6, H6, S6, q6⟩ := hsp
        exact end_ S6 fun s7 J7 => ⟨_, _, J7, q6⟩
      | ret u =>
        obtain ⟨v6, σ6, H6, S6, r6, q6⟩ := hsp
        exact end_ S6 fun s7 J7 => ⟨_, _, _, J7, r6, q6⟩
    | false =>
      show wpAny _ X.A (handleBy (.ref a) X.env []) _ _ _
      refine PySem.PX.no_clauseZ (L := X.env.locals) hf fl5 fun h6 hh6 up6 => tk _ _ ?_
      exact ⟨a, B, sI, pins, σ', H', cls, d, rfl, J, nb, (up.trans up5).trans up6, .inr (.inr (by rw [hs]; exact hh6)), na, os, ag, hno rfl⟩
  · cases f with
    | next =>
      obtain ⟨σ', H', J', q⟩ := hsp
      exact wpAny_execs_nil ⟨σ', H', J'.ofTry ok, q⟩
    | brk =>
      obtain ⟨σ', H', J', q⟩ := hsp
      exact ⟨σ', H', J'.ofTry ok, q⟩
    | cont =>
      obtain ⟨σ', H', J', q⟩ := hsp
      exact ⟨σ', H', J'.ofTry ok, q⟩
    | ret u =>
      obtain ⟨v, σ', H', J', r, q⟩ := hsp
      exact ⟨v, σ', H', J'.ofTry ok, r, q⟩
end
end MI
set_option Elab.async false
set_option linter.all false
set_option maxRecDepth 100000
set_option maxHeartbeats 4000000
namespace MI
open PySem PySem.Spec PyProof.Rows L2 JB
abbrev TakesE (X : Cx) (E : XK) : Prop := Takes X fun c d _ H => E c d H
def spE0 (C : Addr) : Sp := fun vs H Q _ => ∃ a, vs = [.ref a] ∧ H a = some (exo a C none) ∧ Q .non H
def spE1 (C : Addr) (f : Str) : Sp := fun vs H Q _ => ∃ (a : Addr) (v : V), vs = [.ref a, v] ∧ H a = some (exo a C none) ∧
  ((∃ y : Str, v = .str y ∧ y.length ≤ 400) ∨ ∃ i : Int, v = .int i ∧ i.natAbs.log2 < 1920 ∧ (Str.ofString (toString i)).length ≤ 400) ∧
  ∀ dx, H dx = none → dx ≠ a → Q .non (upd (upd H dx (exd dx [(f, v)])) a (exo a C (some dx)))
structure ErK (P : Program) (w : World) (K : PySem.W.Frag) (mg : Str → Option Value) (base : Heap) (x : Str) (C : Addr) (n : Nat) (sp : Sp) : Prop where
  ex : ∃ (B newId initId : String) (bm : List Value) (fI : Addr) (fd : FuncData) (ps : List Str), Base B newId initId bm ∧ ExK K C newId bm ∧ PySem.W.findIn K (.ref C) "__init__" = some (some (.ref fI)) ∧ PySem.W.typeIn K (.ref fI) = some (.type "function") ∧
    FnG P w K mg base CX0 1 fI fd ps sp ∧ Binds K fd ps [] ∧ ps.length = n + 1
  gl : mg x = some (.ref C)
def gRaise0 (c : Nat) : MS := fun _ h => .er (.own c [] []) h
def shortB : MV → Bool
  | .str s => decide (s.length ≤ 400)
  | .int i => decide (i.natAbs.log2 < 1920) && decide ((Str.ofString (toString i)).length ≤ 400)
  | _ => false
def gRaise1 (c f : Nat) (e : ME) : MS := fun m h => (e m h).bindS fun v h1 => if shortB v = true then .er (.own c [f] [v]) h1 else .bad
section
variable {X : Cx} {T : Nat → Addr} {E : XK} {x : Str} {p pos pos2 : Pos} {c : Nat} {e : Expr} {ge : ME}
theorem js_raise0 (tk : TakesE X E) (hc : X.calm = true) (hx : X.ex = []) (hs : JB.Still X.A) (hr : Room 2 X.A) (K : ErK X.prog X.w X.K X.mg X.base x (T c) 0 (spE0 (T c))) (hg : Gl X x)
    (hdb : (x == ("__debug__" : Str)) = false := by decide) : JS X T E (.Raise (some (.Call (.Name x p) [] [] pos2)) none pos) (gRaise0 c) := by
  obtain ⟨⟨B, newId, initId, bm, fI, fd, ps, F, Tk, iC, tI, F1, hb, hn⟩, gl⟩ := K
  refine PS.le (ps_raise hc tk (pmk_mk0 F Tk hx iC tI hs F1 hr hb hg gl hdb)) fun D σ H ⟨ρ, m, h, s, q⟩ => ?_
  refine ⟨by simp, fun a ha => ⟨a, rfl, upd_same, rfl, .inl ⟨upd_same, ?_⟩⟩⟩
  rw [delH_new ha]
  exact q ρ H .refl s.hr none [] (.inl ⟨rfl, rfl, rfl⟩) .nil
theorem short_V {ρ : List Addr} {H : Hp} {Z : Zt} {v : MV} {u : V} (r : RV Z ρ H v u) (h : shortB v = true) :
    (∃ y : Str, u = .str y ∧ y.length ≤ 400) ∨ ∃ i : Int, u = .int i ∧ i.natAbs.log2 < 1920 ∧ (Str.ofString (toString i)).length ≤ 400 := by
  cases r with
  | str s => exact .inl ⟨_, rfl, by show s.toArray.size ≤ 400; rw [List.size_toArray]; exact of_decide_eq_true h⟩
  | int i =>
    have h' := Bool.and_eq_true_iff.mp h
    exact .inr ⟨i, rfl, of_decide_eq_true h'.1, of_decide_eq_true h'.2⟩
  | _ => cases h
theorem del_two {H : Hp} {a d : Addr} {o1 o2 o3 : HO} (ha : H a = none) (hd : d ≠ a) : delH (upd (upd (upd H d o1) a o2) d o3) a = upd H d o3 := by
  funext b
  by_cases e : b = a
  · subst e; rw [delH_same, upd_ne (Ne.symm hd), ha]
  · rw [delH_ne e]
    by_cases e2 : b = d
    · subst e2; rw [upd_same, upd_same]
    · rw [upd_ne e2, upd_ne e, upd_ne e2, upd_ne e2]
theorem js_raise1 {f : Nat} {fs : Str} (hf : fs = nm f) (tk : TakesE X E) (hc : X.calm = true) (hx : X.ex = []) (hs : JB.Still X.A) (hr : Room 2 X.A) (K : ErK X.prog X.w X.K X.mg X.base x (T c) 1 (spE1 (T c) fs)) (hg : Gl X x) (he : JE X T E e ge)
    (hdb : (x == ("__debug__" : Str)) = false := by decide) (hst : starEach [e] X.env = (false, eval e X.env) :: starEach [] X.env := by rfl) :
    JS X T E (.Raise (some (.Call (.Name x p) [e] [] pos2)) none pos) (gRaise1 c f ge) := by
  obtain ⟨⟨B, newId, initId, bm, fI, fd, ps, F, Tk, iC, tI, F1, hb, hn⟩, gl⟩ := K
  refine PS.le (ps_raise hc tk (pmk_mk F Tk hx iC tI hs F1 hr hb hg gl (pa_cons he pa_nil hst) hdb hst)) fun D σ H ⟨ρ, m, h, s, q⟩ => ?_
  refine sE s q fun ρ1 h1 H1 v u s1 e1 r1 q1 => ?_
  by_cases z : shortB v = true
  · rw [if_pos z] at q1
    refine ⟨by simp, fun a ha => ⟨a, u, rfl, upd_same, short_V r1 z, fun dx n1 n2 => ⟨rfl, .inr ⟨dx, _, upd_same, by rw [upd_ne n2, upd_same], ?_⟩⟩⟩⟩
    have hdx : H1 dx = none := upd_none n1
    have e3 : (upd (upd (upd (upd H1 a (exo a (T c) none)) dx (exd dx [(fs, u)])) a (exo a (T c) (some dx))) dx (.xd [(fs, u)])) = upd (upd (upd H1 dx (exd dx [(fs, u)])) a (exo a (T c) (some dx))) dx (.xd [(fs, u)]) := by
      funext b
      by_cases e : b = dx
      · subst e; rw [upd_same, upd_same]
      · rw [upd_ne e, upd_ne e]
        by_cases e2 : b = a
        · subst e2; rw [upd_same, upd_same]
        · rw [upd_ne e2, upd_ne e2, upd_ne e, upd_ne e2, upd_ne e]
    rw [e3, del_two ha n2]
    exact q1 ρ1 _ (Ext.still1 hdx) (s1.hr.still1 hdx) (some dx) [u] (.inr ⟨dx, rfl, by rw [upd_same, hf]; rfl, rfl⟩) (.cons (r1.ext (Ext.still1 hdx)) .nil)
  · rw [if_neg z] at q1
    exact q1.elim
end
def aftS (i : Nat) : SO → SO
  | .nx m h => .nx (m.set i none) h
  | .bk m h => .bk (m.set i none) h
  | .ct m h => .ct (m.set i none) h
  | .rt v h => .rt v h
  | _ => .bad
def gTry (tb : Nat → Option Bool) (i : Nat) (b s : MS) : MS := fun m h => match b m h with
  | .er (.own c ks xs) h1 => (match tb c with
    | some true => aftS i (s ((m.map fun _ => none).set i (some (.err c ks xs))) h1)
    | some false => .er (.own c ks xs) h1
    | none => .bad)
  | .er (.typ _) _ => .bad
  | o => o
theorem SR.drop {Z : Zt} {ρ : List Addr} {m : ML} {h : MH} {σ : L2.St} {H : Hp} (s : SR Z ρ m h σ H) (i : Nat) : SR Z ρ (m.set i none) h (σ.set i none) H := by
  refine ⟨s.hr, by simp [s.len], fun j y k => ?_⟩
  by_cases e : j = i
  · subst e
    rw [List.getElem?_set] at k
    rw [if_pos rfl] at k
    split at k <;> cases k
  · rw [List.getElem?_set_ne (Ne.symm e)] at k ⊢
    exact s.slot j y k
section
variable {X : Cx} {T : Nat → Addr} {E : XK} {n : Str} {t : Expr} {i : Nat} {body suite : List Stmt} {b₀ : Stmt} {pos pos' : Pos} {tt : Value → Option Bool} {tb : Nat → Option Bool} {gb gs : MS}
theorem js_try (hs : X.stack = X.env :: X.outer) (hf : X.env.frame = some X.env.locals) (hex : X.ex = []) (hN : X.N.Nodup) (hi : X.N[i]? = some n) (hln : X.env.kindOf n = some .local) (ht : TestX X t tt) (htb : ∀ c b, tb c = some b → tt (.ref (T c)) = some b) (tk : TakesE X E)
    (hb : ∀ (E2 : XK) (pn : List (Addr × Obj)) (xe : Value → Shared → Prop), TakesE (X.tr pn xe) E2 → Passes (L2.CX X.prog X.w) (X.tr pn xe) E2 → PassesOwn (model X.prog X.w) X.A X.env xe → JSs (X.tr pn xe) T E2 body gb)
    (hsu : ∀ (a : Addr) (pn : List (Addr × Obj)), JSs (X.suite a pn) T (fun _ _ _ => False) (b₀ :: suite) gs) :
    JS X T E (.Try body [.ExceptHandler (some t) (some n) (b₀ :: suite) pos'] [] [] pos) (gTry tb i gb gs) := by
  have R := ps_tryX (pos := pos) (pos' := pos') (tb := fun W D σ H => tS ⟨X.K, T⟩ (fun cls d H' => ∀ σ', σ'.length = X.N.length → W cls d σ' H') gb D σ H) (ts := tS ⟨X.K, T⟩ (fun _ _ _ => False) gs) hs hf hex hN hi hln ht tk
    (fun W pn xe tkW own => hb _ pn xe (fun u s' ⟨a, B, sI, pins, σ, H, cls, d, e, I, nb, up, sky, na, os, ag, z⟩ => tkW u s' ⟨a, B, sI, pins, σ, H, cls, d, e, I, nb, up, sky, na, os, ag, z σ I.len⟩)
      (fun pins σ H s e s' I c => tkW e s' (by
        obtain ⟨a, B, sI, pins, σ, H, cls, d, e, I2, nb, up, sky, na, os, ag, z⟩ := XE.of_call (X := X.tr pn xe) (W := fun cls d _ H' => ∀ σ', σ'.length = X.N.length → W cls d σ' H') I (fun _ _ _ z => z) c
        exact ⟨a, B, sI, pins, σ, H, cls, d, e, I2, nb, up, sky, na, os, ag, z σ I2.len⟩)) own) hsu
  refine ⟨fun pins s σ H D I ⟨ρ, m, h, sr, q⟩ => R.run pins s σ H D I ⟨ρ, m, h, sr, ?_⟩⟩
  have hml : m.length = X.N.length := sr.len.trans I.len
  have q' : PostS ⟨X.K, T⟩ ρ H D E (match gb m h with
    | .er (.own c ks xs) h1 => (match tb c with
      | some true => aftS i (gs ((m.map fun _ => none).set i (some (.err c ks xs))) h1)
      | some false => .er (.own c ks xs) h1
      | none => .bad)
    | .er (.typ _) _ => .bad
    | o => o) := q
  revert q'
  cases gb m h with
  | bad => exact fun q => q
  | nx m' h' => exact fun q => q
  | rt v h' => exact fun q => q
  | bk m' h' => exact fun q => q
  | ct m' h' => exact fun q => q
  | er x h1 =>
    cases x with
    | typ s => exact fun q => q.elim
    | own c ks xs =>
      intro q ρ' H' e r d vs hx hv σ' hl
      dsimp only at q
      cases hc : tb c with
      | none => rw [hc] at q; exact q.elim
      | some b =>
        rw [hc] at q
        refine ⟨b, htb c b hc, fun hb1 a na => ?_, fun hb0 => ?_⟩
        · subst hb1
          dsimp only at q
          have e1 : Ext ρ' H' ρ' (upd H' a (exk a (T c) d)) := Ext.still1 na
          refine ⟨T c, rfl, ρ', (m.map fun _ => none).set i (some (.err c ks xs)), h1, ⟨r.still1 na, by simp [hml, hl], fun j y k => ?_⟩, ?_⟩
          · by_cases ej : j = i
            · subst ej
              have lt : j < m.length := by
                rcases List.getElem?_eq_some_iff.mp k with ⟨z, _⟩
                simpa using z
              rw [List.getElem?_set_self (by simpa using lt)] at k
              cases k
              exact ⟨.ref a, by rw [List.getElem?_set_self (by omega)], .err upd_same (e1.xdH hx) (hv.ext e1)⟩
            · rw [List.getElem?_set_ne (Ne.symm ej), List.getElem?_map] at k
              cases z : m[j]? with
              | none => rw [z] at k; cases k
              | some w => rw [z] at k; cases k
          · have q2 := PostS.ext q (e.trans e1)
            revert q2
            cases gs ((m.map fun _ => none).set i (some (.err c ks xs))) h1 with
            | bad => exact fun q => q
            | nx m' h' => exact fun q ρ2 H2 σ2 e2 s2 => q ρ2 H2 _ e2 (s2.drop i)
            | bk m' h' => exact fun q ρ2 H2 σ2 e2 s2 => q ρ2 H2 _ e2 (s2.drop i)
            | ct m' h' => exact fun q ρ2 H2 σ2 e2 s2 => q ρ2 H2 _ e2 (s2.drop i)
            | rt v h' => exact fun q => q
            | er x h' => exact fun q => q.elim
        · subst hb0
          exact q ρ' H' e r d vs hx hv
end
end MI
set_option Elab.async false
set_option linter.all false
set_option maxRecDepth 100000
set_option maxHeartbeats 4000000
namespace MI
open PySem PySem.Spec PyProof.Rows L2 JB
def ErrKAt (H : Hp) (a C : Addr) : Prop := ∃ d, H a = some (exk a C d) ∧ (d = none ∨ ∃ dx fs, d = some dx ∧ H dx = some (.xd fs))
theorem XdH.at {H : Hp} {d : Option Addr} {ks : List Nat} {vs : List V} (h : XdH H d ks vs) : d = none ∨ ∃ dx fs, d = some dx ∧ H dx = some (.xd fs) := by
  rcases h with ⟨h, _⟩ | ⟨dx, h1, h2, _⟩
  · exact .inl h
  · exact .inr ⟨dx, _, h1, h2⟩
section
variable {X : Cx} {pins : List (Addr × Obj)} {σ : L2.St} {H : Hp} {s : Shared} {a C : Addr}
theorem inst_K (I : Inv X pins σ H s) (h : ErrKAt H a C) : ∃ ox od, PySem.W.InstAt s.heap a ox C od := by
  obtain ⟨d, h1, h2⟩ := h
  obtain ⟨⟨oe, vs, he, hc, hd, hf⟩, _, _⟩ := I.hok a _ h1
  have nc : PySem.W.notCls oe = true := by unfold PySem.W.notCls; rw [hf] <;> rfl
  rcases h2 with rfl | ⟨dx, fs, rfl, hx⟩
  · exact ⟨oe, none, he, hc, nc, by rw [hd]; trivial⟩
  · have hx' : ObjOk X.prog X.w H s.heap dx (.xd fs) := I.hok dx _ hx
    obtain ⟨mA, hns, _⟩ := hx'
    obtain ⟨od, ho, _⟩ := lookIn_ns hns
    exact ⟨oe, some od, he, hc, nc, by rw [hd]; exact ho⟩
def rIsK (K : PySem.W.Frag) : List V → Hp → VK → Prop := fun xs H Q => ∃ (a C : Addr) (c : V) (u : Value) (b : Bool),
  xs = [.ref a, c] ∧ ClsV c u ∧ IsEx K C ∧ ErrKAt H a C ∧ PySem.W.kitOne K (.ref C) u = some b ∧ Q (.bl b) H
def rIsKT (K : PySem.W.Frag) : List V → Hp → VK → Prop := fun xs H Q => ∃ (a C tp : Addr) (cs : List V) (us : List Value) (b : Bool),
  xs = [.ref a, .ref tp] ∧ H tp = some (.tup cs) ∧ Paired ClsV cs us ∧ IsEx K C ∧ ErrKAt H a C ∧ PySem.W.kitAny K (.ref C) us = some b ∧ Q (.bl b) H
theorem call_isK (G : ClsG X.K) : CallR X (.builtin "isinstance") (rIsK X.K) := by
  intro pins s σ H xs us Q I r h
  obtain ⟨a, C, c, u, b, rfl, k, ⟨B, newId, initId, bm, F, T⟩, ea, e, q⟩ := h
  obtain ⟨u1, u2, rfl, r1, r2⟩ := vals2 r
  have e2 := k.eq r2
  subst e2
  obtain rfl : u1 = Value.ref a := r1
  obtain ⟨ox, od, J⟩ := inst_K I ea
  exact PySem.W.kia_one (PySem.W.kitx_exc (ox := ox) (od := od) T.some T.ga T.gg (T.bas F) T.ca G.get G.tk (T.obj F)) I.kIn J e
    (fun z => nomatch z) fun tk => ⟨.bl b, H, I.tok tk, rfl, q⟩
theorem call_isKT (G : ClsG X.K) : CallR X (.builtin "isinstance") (rIsKT X.K) := by
  intro pins s σ H xs us Q I r h
  obtain ⟨a, C, tp, cs, ws, b, rfl, hT, k, ⟨B, newId, initId, bm, F, T⟩, ea, e, q⟩ := h
  obtain ⟨u1, u2, rfl, r1, r2⟩ := vals2 r
  obtain rfl : u1 = Value.ref a := r1
  obtain rfl : u2 = Value.ref tp := r2
  obtain ⟨ox, od, J⟩ := inst_K I ea
  obtain ⟨_, its, rv, ob, h1, h2, n, h3⟩ := (show ObjOk X.prog X.w H s.heap tp (.tup cs) from I.hok tp _ hT)
  have e3 := ClsV.all k rv
  subst e3
  obtain ⟨oc, odd, dt, sl⟩ := ob
  simp only at h2 h3
  subst h2 h3
  exact PySem.W.kia_tup (PySem.W.kitx_exc (ox := ox) (od := od) T.some T.ga T.gg (T.bas F) T.ca G.get G.tk (T.obj F)) I.kIn J h1 e
    (fun z => nomatch z) fun tk => ⟨.bl b, H, I.tok tk, rfl, q⟩
end
def mIsE (tb : Nat → Option Bool) (x : MV) (h : MH) : Out MV := match x with
  | .err c _ _ => (match tb c with
    | some b => .ok (.bl b) h
    | none => .bad)
  | _ => .bad
def mGetE (cs : List Nat) (f : Nat) (x : MV) (h : MH) : Out MV := match x with
  | .err c ks xs => if c ∈ cs then (match (ks.zip xs).lookup f with
    | some v => .ok v h
    | none => .bad) else .bad
  | _ => .bad
theorem zip_look {Z : Zt} {ρ : List Addr} {H : Hp} {f : Nat} : ∀ {ks : List Nat} {xs : List MV} {vs : List V}, RVs Z ρ H xs vs → ∀ {v : MV}, (ks.zip xs).lookup f = some v → ∃ u, ((ks.map nm).zip vs).lookup (nm f) = some u ∧ RV Z ρ H v u
  | [], _, _, _, _, h => by cases h
  | _ :: _, _, _, .nil, _, h => by cases h
  | k :: ks, _, _, .cons (x := x) (v := u) (xs := xs) (vs := vs) a r, v, h => by
    rw [List.zip_cons_cons, List.lookup_cons] at h
    rw [List.map_cons, List.zip_cons_cons, List.lookup_cons]
    by_cases e : f = k
    · subst e
      simp only [beq_self_eq_true] at h ⊢
      cases h
      exact ⟨u, rfl, a⟩
    · rw [beq_false_of_ne e] at h
      rw [beq_false_of_ne (fun z => e (nm_inj z))]
      exact zip_look r h
section
variable {X : Cx} {T : Nat → Addr} {E : XK} {a ec : Expr} {es : List Expr} {p1 p2 pos : Pos} {ga : ME} {tb : Nat → Option Bool} {cv : V} {u : Value} {cs : List V} {us : List Value} {kk : Nat}
theorem je_isE (G : ClsG X.K) (hg : Gl X "isinstance") (hm : X.mg "isinstance" = none) (ht : ∀ c b, tb c = some b → IsEx X.K (T c) ∧ PySem.W.kitOne X.K (.ref (T c)) u = some b) (ha : JE X T E a ga) (hc : PE X ec (tC cv)) (kc : ClsV cv u)
    (hs : starEach [a, ec] X.env = (false, eval a X.env) :: starEach [ec] X.env := by rfl) (hs2 : starEach [ec] X.env = (false, eval ec X.env) :: starEach [] X.env := by rfl) (hpl : (backTo pos (starEach [ec] X.env)).any (·.1) = false := by rfl) :
    JE X T E (.Call (.Name "isinstance" p1) [a, ec] [] pos) (gUn (mIsE tb) ga) :=
  PE.le (pe_callB (he := hs) (hpl := hpl) (call_isK G) hg hm (by decide +kernel) (pa_cons ha (pa_cons hc pa_nil hs2) hs)) fun σ H Q ⟨ρ, m, h, s, q⟩ => stepE s q fun ρ1 h1 H1 x v s1 e1 r1 q1 => by
    show rIsK X.K [v, cv] H1 Q
    cases r1 with
    | @err a' C d ks xs vs hk hx hv =>
      have q2 : Post ⟨X.K, T⟩ (rV ⟨X.K, T⟩) ρ1 H1 Q E (match tb C with
        | some b => .ok (.bl b) h1
        | none => .bad) := q1
      cases hb : tb C with
      | none => rw [hb] at q2; exact q2.elim
      | some b =>
        rw [hb] at q2
        obtain ⟨i1, i2⟩ := ht C b hb
        exact ⟨a', T C, cv, u, b, rfl, kc, i1, ⟨d, hk, hx.at⟩, i2, Post.ok (R := rV ⟨X.K, T⟩) q2 s1.hr (.bl b)⟩
    | _ => exact q1.elim
theorem je_isET (G : ClsG X.K) (hg : Gl X "isinstance") (hm : X.mg "isinstance" = none) (ht : ∀ c b, tb c = some b → IsEx X.K (T c) ∧ PySem.W.kitAny X.K (.ref (T c)) us = some b) (ha : JE X T E a ga) (hc : PA X es (fun _ H Q => Q cs H)) (kc : Paired ClsV cs us) (hl : cs.length ≤ 1000)
    (hs : starEach [a, .Tuple es kk p2] X.env = (false, eval a X.env) :: starEach [.Tuple es kk p2] X.env := by rfl) (hs2 : starEach [.Tuple es kk p2] X.env = (false, eval (.Tuple es kk p2) X.env) :: starEach [] X.env := by rfl) (hpl : (backTo pos (starEach [.Tuple es kk p2] X.env)).any (·.1) = false := by rfl) :
    JE X T E (.Call (.Name "isinstance" p1) [a, .Tuple es kk p2] [] pos) (gUn (mIsE tb) ga) :=
  PE.le (pe_callB (he := hs) (hpl := hpl) (call_isKT G) hg hm (by decide +kernel) (pa_cons ha (pa_cons (pe_tup hc) pa_nil hs2) hs)) fun σ H Q ⟨ρ, m, h, s, q⟩ => stepE s q fun ρ1 h1 H1 x v s1 e1 r1 q1 => by
    refine ⟨by rw [sizeLine_eq]; omega, fun p hp => ?_⟩
    show rIsKT X.K [v, .ref p] (upd H1 p (.tup cs)) Q
    have e2 : Ext ρ1 H1 ρ1 (upd H1 p (.tup cs)) := Ext.still1 hp
    cases r1 with
    | @err a' C d ks xs vs hk hx hv =>
      have q2 : Post ⟨X.K, T⟩ (rV ⟨X.K, T⟩) ρ1 H1 Q E (match tb C with
        | some b => .ok (.bl b) h1
        | none => .bad) := q1
      cases hb : tb C with
      | none => rw [hb] at q2; exact q2.elim
      | some b =>
        rw [hb] at q2
        obtain ⟨i1, i2⟩ := ht C b hb
        exact ⟨a', T C, p, cs, us, b, rfl, upd_same, kc, i1, ⟨d, e2.still _ _ hk trivial, (e2.xdH hx).at⟩, i2, Post.ok (R := rV ⟨X.K, T⟩) (q2.ext e2) (s1.hr.still1 hp) (.bl b)⟩
    | _ => exact q1.elim
def tGetK (K : PySem.W.Frag) (f : Str) (te : TE) : TE := fun σ H Q => te σ H fun x H1 =>
  ∃ (a C dx : Addr) (fs : List (Str × V)) (v : V), x = .ref a ∧ IsEx K C ∧ PySem.W.findIn K (.ref C) f = some none ∧
    H1 a = some (exk a C (some dx)) ∧ H1 dx = some (.xd fs) ∧ fs.lookup f = some v ∧ Q v H1
theorem pe_getK {e : Expr} {te : TE} {f : Str} (he : PE X e te) (hb : attributeBase e f X.env (eval e X.env) = eval e X.env := by rfl) :
    PE X (.Attribute e f pos) (tGetK X.K f te) := by
  refine ⟨fun pins s σ H Q I h => ?_⟩
  refine attr_of hb (thn (he.run pins s σ H _ I h) fun u s1 hh => ?_)
  obtain ⟨x, H1, I1, rx, a, C, dx, fs, v, ex, ⟨B, newId, initId, bm, F, T⟩, hno, ea, ed, hl, q⟩ := hh
  subst ex
  obtain rfl : u = Value.ref a := rx
  obtain ⟨⟨oe, vs, h1, hc, hd, hf⟩, _, _⟩ := I1.hok a _ ea
  have hx' : ObjOk X.prog X.w H1 s1.heap dx (.xd fs) := I1.hok dx _ ed
  obtain ⟨mA, hns, hr⟩ := hx'
  obtain ⟨od, h2, hk⟩ := lookIn_ns hns
  obtain ⟨u, hu, ru⟩ := RelO.some_of (v := v) (o := mA f) (by rw [← hl]; exact hr f)
  have nc : PySem.W.notCls oe = true := by unfold PySem.W.notCls; rw [hf] <;> rfl
  exact HandSPX.exc_get I1.kIn (od := some od) ⟨h1, hc, nc, by rw [hd]; exact h2⟩ T.ga T.gg (T.bas F)
    (PySem.W.findObj_own T.hd hno rfl (by rw [hk, hu])) (handed_of ru) ⟨v, H1, I1.tok _, ru, q⟩
theorem je_getE {f : Nat} {fs : Str} {cl : List Nat} (hf : fs = nm f) (hx : ∀ c ∈ cl, IsEx X.K (T c) ∧ PySem.W.findIn X.K (.ref (T c)) fs = some none) (ha : JE X T E a ga) (hb : attributeBase a fs X.env (eval a X.env) = eval a X.env := by rfl) :
    JE X T E (.Attribute a fs pos) (gUn (mGetE cl f) ga) :=
  PE.le (pe_getK ha hb) fun σ H Q ⟨ρ, m, h, s, q⟩ => stepE s q fun ρ1 h1 H1 x v s1 e1 r1 q1 => by
    cases r1 with
    | @err a' C d ks xs vs hk hx2 hv =>
      have q2 : Post ⟨X.K, T⟩ (rV ⟨X.K, T⟩) ρ1 H1 Q E (if C ∈ cl then (match (ks.zip xs).lookup f with
        | some v => .ok v h1
        | none => .bad) else .bad) := q1
      by_cases hc : C ∈ cl
      · rw [if_pos hc] at q2
        cases hl : (ks.zip xs).lookup f with
        | none => rw [hl] at q2; exact q2.elim
        | some y =>
          rw [hl] at q2
          obtain ⟨i1, i2⟩ := hx C hc
          rcases hx2 with ⟨rfl, rfl, rfl⟩ | ⟨dx, rfl, hdx, hlen⟩
          · cases hl
          · obtain ⟨w, h1', rw'⟩ := zip_look hv hl
            exact ⟨a', T C, dx, _, w, rfl, i1, i2, hk, hdx, by rw [hf]; exact h1', Post.ok (R := rV ⟨X.K, T⟩) q2 s1.hr rw'⟩
      · rw [if_neg hc] at q2; exact q2.elim
    | _ => exact q1.elim
end
def bB : Nat → String × String × String × List Value
  | 0 => ("ValueError", "ValueError.__new__", "ValueError.__init__", [.type "ValueError", .type "Exception", .type "BaseException", .type "object"])
  | 1 => ("LookupError", "LookupError.__new__", "LookupError.__init__", [.type "LookupError", .type "Exception", .type "BaseException", .type "object"])
  | 2 => ("RuntimeError", "RuntimeError.__new__", "RuntimeError.__init__", [.type "RuntimeError", .type "Exception", .type "BaseException", .type "object"])
  | _ => ("OverflowError", "OverflowError.__new__", "OverflowError.__init__", [.type "OverflowError", .type "ArithmeticError", .type "Exception", .type "BaseException", .type "object"])
theorem bB_ok : ∀ k : Nat, Base (bB k).1 (bB k).2.1 (bB k).2.2.1 (bB k).2.2.2
  | 0 => base_V
  | 1 => base_L
  | 2 => base_R
  | _ + 3 => base_O
def exShape (K : PySem.W.Frag) (C : Addr) (newId : String) (bm : List Value) : Bool := match K.lookup C with
  | some ⟨.type t, _, .cls cd, sl⟩ => (match cd.mro, sl.toList with
    | .ref C' :: bm', [_, _, _, _, some (.builtin n), _] => decide (t = "type") && (decide (C' = C) && (decide (bm' = bm) && (decide (n = newId) && (cd.hasDict && !cd.hasDel))))
    | _, _ => false)
  | _ => false
def exkB (x : Str) (k : Nat) (K : PySem.W.Frag) : Bool :=
  exShape K (He.ga K x) (bB k).2.1 (bB k).2.2.2 && (decide (PySem.W.findIn K (.ref (He.ga K x)) "__setattr__" = some (some (.builtin "object.__setattr__"))) &&
  (decide (PySem.W.findIn K (.ref (He.ga K x)) "__getattribute__" = some (some (.builtin "BaseException.__getattribute__"))) && (decide (PySem.W.findIn K (.ref (He.ga K x)) "__getattr__" = some none) &&
  (decide (PySem.W.findIn K (.ref (He.ga K x)) "__class__" = some (some (.builtin "object.__class__"))) && (decide (PySem.W.typeIn K (.ref (He.ga K x)) = some (.type "type")) && PySem.W.keepIn K (.ref (He.ga K x)))))))
def cfIs (r : Option PySem.W.CFound) (n : String) : Bool := match r with
  | some (.val (.builtin m)) => decide (m = n)
  | _ => false
theorem cfIs_ok {r : Option PySem.W.CFound} {n : String} (h : cfIs r n = true) : r = some (.val (.builtin n)) := by
  unfold cfIs at h
  split at h
  · rw [of_decide_eq_true h]
  · cases h
def exiB (x : Str) (k : Nat) (K : PySem.W.Frag) : Bool :=
  decide (PySem.W.findIn K (.ref (He.ga K x)) "__init__" = some (some (.ref (He.ma K (He.ga K x) "__init__")))) && (decide (PySem.W.typeIn K (.ref (He.ma K (He.ga K x) "__init__")) = some (.type "function")) &&
  cfIs (PySem.W.findCls K (.type (bB k).1) (.type "type") "__init__") (bB k).2.2.1)
def clsV (K : PySem.W.Frag) : Str ⊕ String → Value
  | .inl x => .ref (He.ga K x)
  | .inr s => .type s
def exmB (x : Str) (ys : List Str) (b : Bool) (K : PySem.W.Frag) : Bool := decide (PySem.W.exmAny K (.ref (He.ga K x)) (ys.map fun y => .ref (He.ga K y)) = some b)
def kitB (x : Str) (ys : List (Str ⊕ String)) (b : Bool) (K : PySem.W.Frag) : Bool := decide (PySem.W.kitAny K (.ref (He.ga K x)) (ys.map (clsV K)) = some b)
def kit1B (x : Str) (y : Str ⊕ String) (b : Bool) (K : PySem.W.Frag) : Bool := decide (PySem.W.kitOne K (.ref (He.ga K x)) (clsV K y) = some b)
def nofB (x f : Str) (K : PySem.W.Frag) : Bool := decide (PySem.W.findIn K (.ref (He.ga K x)) f = some none)
def clsGB (K : PySem.W.Frag) : Bool := decide (PySem.W.specialIn K (.builtin "object.__class__") "__get__" = some (some (.builtin "getset_descriptor.__get__"))) && decide (PySem.W.takesIn K (.builtin "object.__class__") = some true)
theorem clsG_ok {K : PySem.W.Frag} (h : clsGB K = true) : ClsG K := by
  have z := Bool.and_eq_true_iff.mp h
  exact ⟨of_decide_eq_true z.1, of_decide_eq_true z.2⟩
theorem exShape_ok {K : PySem.W.Frag} {C : Addr} {newId : String} {bm : List Value} (h : exShape K C newId bm = true) : ∃ nm q N bs sn sub ab col dd k0 k1 k2 k3 k5,
    K.lookup C = some (excClassObj nm q C N bs bm true sn sub ab col dd k0 k1 k2 k3 k5 newId) := by
  unfold exShape at h
  split at h
  · rename_i t dd cd sl ho
    split at h
    · rename_i C' bm' k0 k1 k2 k3 n k5 hm hs
      have h1 := Bool.and_eq_true_iff.mp h
      have h2 := Bool.and_eq_true_iff.mp h1.2
      have h3 := Bool.and_eq_true_iff.mp h2.2
      have h4 := Bool.and_eq_true_iff.mp h3.2
      have h5 := Bool.and_eq_true_iff.mp h4.2
      obtain rfl := of_decide_eq_true h1.1
      obtain rfl := of_decide_eq_true h2.1
      obtain rfl := of_decide_eq_true h3.1
      obtain rfl := of_decide_eq_true h4.1
      obtain ⟨nm, bs, mro, ns, qn, hd, sn, sub, ab, col, del⟩ := cd
      have h5a := h5.1
      have h5b := h5.2
      dsimp only at hm h5a h5b
      subst hm
      have hdel : del = false := by simpa using h5b
      subst h5a hdel
      obtain ⟨l⟩ := sl
      have hs' : l = [k0, k1, k2, k3, some (.builtin n), k5] := hs
      subst hs'
      exact ⟨nm, qn, ns, bs, sn, sub, ab, col, dd, k0, k1, k2, k3, k5, ho⟩
    · cases h
  · cases h
theorem exk_of {K : PySem.W.Frag} {x : Str} {k : Nat} (h : exkB x k K = true) : ExK K (He.ga K x) (bB k).2.1 (bB k).2.2.2 := by
  have h1 := Bool.and_eq_true_iff.mp h
  have h2 := Bool.and_eq_true_iff.mp h1.2
  have h3 := Bool.and_eq_true_iff.mp h2.2
  have h4 := Bool.and_eq_true_iff.mp h3.2
  have h5 := Bool.and_eq_true_iff.mp h4.2
  have h6 := Bool.and_eq_true_iff.mp h5.2
  exact ⟨exShape_ok h1.1, of_decide_eq_true h2.1, of_decide_eq_true h3.1, of_decide_eq_true h4.1, of_decide_eq_true h5.1, of_decide_eq_true h6.1, h6.2⟩
theorem isEx_of {K : PySem.W.Frag} {x : Str} {k : Nat} (h : exkB x k K = true) : IsEx K (He.ga K x) := ⟨_, _, _, _, bB_ok k, exk_of h⟩
theorem exi_of {K : PySem.W.Frag} {x : Str} {k : Nat} (h : exiB x k K = true) : PySem.W.findIn K (.ref (He.ga K x)) "__init__" = some (some (.ref (He.fAd K (x, some "__init__")))) ∧ PySem.W.typeIn K (.ref (He.fAd K (x, some "__init__"))) = some (.type "function") ∧
    PySem.W.findCls K (.type (bB k).1) (.type "type") "__init__" = some (.val (.builtin (bB k).2.2.1)) := by
  have h1 := Bool.and_eq_true_iff.mp h
  have h2 := Bool.and_eq_true_iff.mp h1.2
  exact ⟨of_decide_eq_true h1.1, of_decide_eq_true h2.1, cfIs_ok h2.2⟩
end MI
set_option Elab.async false
set_option linter.all false
set_option maxRecDepth 100000
set_option maxHeartbeats 4000000
namespace MI
open PySem PySem.Spec PyProof.Rows L2 JB
inductive Tab (P : Nat → Bool → Prop) : List (Nat × Bool) → Prop
  | nil : Tab P []
  | cons {c : Nat} {b : Bool} {l : List (Nat × Bool)} : P c b → Tab P l → Tab P ((c, b) :: l)
theorem Tab.at {P : Nat → Bool → Prop} {l : List (Nat × Bool)} (t : Tab P l) : ∀ c b, l.lookup c = some b → P c b := by
  induction t with
  | nil => intro c b h; cases h
  | @cons c' b' l p _ ih =>
    intro c b h
    rw [List.lookup_cons] at h
    by_cases e : c = c'
    · subst e
      simp only [beq_self_eq_true] at h
      cases h
      exact p
    · rw [beq_false_of_ne e] at h
      exact ih c b h
theorem exm_of {K : PySem.W.Frag} {x : Str} {ys : List Str} {b : Bool} (h : exmB x ys b K = true) : PySem.W.exmAny K (.ref (He.ga K x)) (ys.map fun y => .ref (He.ga K y)) = some b := of_decide_eq_true h
theorem kit_of {K : PySem.W.Frag} {x : Str} {ys : List (Str ⊕ String)} {b : Bool} (h : kitB x ys b K = true) : PySem.W.kitAny K (.ref (He.ga K x)) (ys.map (clsV K)) = some b := of_decide_eq_true h
theorem kit1_of {K : PySem.W.Frag} {x : Str} {y : Str ⊕ String} {b : Bool} (h : kit1B x y b K = true) : PySem.W.kitOne K (.ref (He.ga K x)) (clsV K y) = some b := of_decide_eq_true h
theorem nof_of {K : PySem.W.Frag} {x f : Str} (h : nofB x f K = true) : PySem.W.findIn K (.ref (He.ga K x)) f = some none := of_decide_eq_true h
theorem tyErr (k : Nat) : typeOf (.type (bB k).1) = pure (.type "type") := by
  match k with
  | 0 => kernel_rfl
  | 1 => kernel_rfl
  | 2 => kernel_rfl
  | _ + 3 => kernel_rfl
theorem stErr (k : Nat) : Manifest.isStub (bB k).1 = false := by
  match k with
  | 0 => decide +kernel
  | 1 => decide +kernel
  | 2 => decide +kernel
  | _ + 3 => exact (show Manifest.isStub "OverflowError" = false by decide +kernel)
theorem hdErr (k : Nat) : PySem.W.handedIn (.builtin (bB k).2.2.1) = true := by
  match k with
  | 0 => decide +kernel
  | 1 => decide +kernel
  | 2 => decide +kernel
  | _ + 3 => exact (show PySem.W.handedIn (.builtin "OverflowError.__init__") = true by decide +kernel)
theorem lenPlus {a b : Str} {n m : Nat} (ha : a.length ≤ n) (hb : b.length ≤ m) : (a ++ b).length ≤ n + m := by
  rw [Str.length_append]; omega
theorem lenLine {a : Str} {n : Nat} (ha : a.length ≤ n) (hn : n ≤ 9000 := by decide) : a.length ≤ sizeLine := by
  rw [sizeLine_eq]; omega
theorem lenNone : Str.empty.length ≤ 0 := by decide +kernel
end MI
set_option Elab.async false
set_option linter.all false
set_option maxRecDepth 100000
set_option maxHeartbeats 4000000
namespace MI
open PySem PySem.Spec PyProof.Rows L2 JB
inductive AllN (P : Nat → Prop) : List Nat → Prop
  | nil : AllN P []
  | cons {c : Nat} {l : List Nat} : P c → AllN P l → AllN P (c :: l)
theorem AllN.at {P : Nat → Prop} {l : List Nat} (t : AllN P l) : ∀ c ∈ l, P c := by
  induction t with
  | nil => intro c h; cases h
  | cons p _ ih =>
    intro c h
    rcases List.mem_cons.mp h with z | z
    · rw [z]; exact p
    · exact ih c z
abbrev ShortV (v : V) : Prop := (∃ y : Str, v = .str y ∧ y.length ≤ 400) ∨ ∃ i : Int, v = .int i ∧ i.natAbs.log2 < 1920 ∧ (Str.ofString (toString i)).length ≤ 400
theorem show_shortV {v : V} {R : Str → Prop} (h : ShortV v) (k : ∀ y : Str, y.length ≤ 400 → R y) :
    (∃ y : Str, v = .str y ∧ y.length ≤ sizeLine ∧ R y) ∨ ∃ i : Int, v = .int i ∧ i.natAbs.log2 < 1920 ∧ R (toString i) := by
  rcases h with ⟨y, e, l⟩ | ⟨i, e, l, z⟩
  · exact .inl ⟨y, e, lenLine l, k y l⟩
  · exact .inr ⟨i, e, l, k _ z⟩
end MI
set_option Elab.async false
set_option linter.all false
set_option maxRecDepth 100000
set_option maxHeartbeats 4000000
namespace MI
open PySem PySem.Spec PyProof.Rows L2 JB
section
variable {X : Cx}
end
end MI
set_option Elab.async false
set_option linter.all false
set_option maxRecDepth 100000
set_option maxHeartbeats 4000000
namespace MI
open PySem PySem.Spec PyProof.Rows L2 JB
end MI
set_option Elab.async false
set_option linter.all false
set_option maxRecDepth 100000
set_option maxHeartbeats 4000000
namespace MI
open PySem PySem.Spec PyProof.Rows L2 JB
end MI
set_option Elab.async false
set_option linter.all false
set_option maxRecDepth 100000
set_option maxHeartbeats 4000000
namespace MI
open PySem PySem.Spec PyProof.Rows L2 JB
section
variable {M : Model} {K : PySem.W.Frag}
theorem loop_all {A : Around} {E : Value → Shared → Prop} {s : Shared} {f : Value → PUnit → Sem (ForInStep PUnit)} {Q : Shared → Prop} : ∀ {cs : List Value}, (∀ c ∈ cs, ∀ Q' : ForInStep PUnit → Shared → Prop, Q' (.yield ⟨⟩) s → wpAny M A (f c ⟨⟩) Q' E s) → Q s →
    wpAny M A (forIn cs PUnit.unit f) (fun _ s' => Q s') E s
  | [], _, q => wpAny_pure q
  | c :: r, h, q => by
    rw [List.forIn_cons]
    exact wpAny_bind (h c List.mem_cons_self _ (loop_all (fun c' hc => h c' (List.mem_cons_of_mem _ hc)) q))
theorem loop_any {A : Around} {E : Value → Shared → Prop} {s : Shared} {f : Value → Option Bool × Unit → Sem (ForInStep (Option Bool × Unit))} {Q : Option Bool × Unit → Shared → Prop} : ∀ {cs : List (Value × Bool)},
    (∀ c ∈ cs, ∀ r Q', Q' (if c.2 = true then ForInStep.done (some true, ()) else .yield (none, ())) s → wpAny M A (f c.1 r) Q' E s) → Q (if cs.any (·.2) = true then some true else none, ()) s →
    wpAny M A (forIn (cs.map (·.1)) (none, ()) f) Q E s
  | [], _, q => wpAny_pure q
  | (c, true) :: r, h, q => by
    rw [List.map_cons, List.forIn_cons]
    refine wpAny_bind (h _ List.mem_cons_self _ _ ?_)
    rw [if_pos rfl]
    exact wpAny_pure q
  | (c, false) :: r, h, q => by
    rw [List.map_cons, List.forIn_cons]
    refine wpAny_bind (h _ List.mem_cons_self _ _ ?_)
    rw [if_neg Bool.false_ne_true]
    exact loop_any (fun c' hc => h c' (List.mem_cons_of_mem _ hc)) q
theorem exmAny_list {cls : Value} : ∀ {cs : List Value} {b : Bool}, PySem.W.exmAny K cls cs = some b → ∃ bs : List (Value × Bool), bs.map (·.1) = cs ∧ bs.any (·.2) = b ∧ ∀ c ∈ bs, PySem.W.exmOne K cls c.1 = some c.2
  | [], b, h => ⟨[], rfl, by cases h; rfl, fun _ hc => by cases hc⟩
  | c :: r, b, h => by
    obtain ⟨b1, d1, x1, y1, z1⟩ := PySem.W.exmAny_cons h
    obtain ⟨bs, h1, h2, h3⟩ := exmAny_list y1
    refine ⟨(c, b1) :: bs, by rw [List.map_cons, h1], by rw [List.any_cons, h2, z1], fun p hp => ?_⟩
    rcases List.mem_cons.mp hp with rfl | hp
    · exact x1
    · exact h3 p hp
theorem exm_tupN {cs : List Value} {cls : Value} {tp e : Addr} {b : Bool} {h : Heap} (X : K.In h) (LT : PySem.W.Looks M h (typeOf (.ref e)) cls) (hp : h.get? tp = some { cls := .type "tuple", data := .seq cs.toArray }) (hx : PySem.W.exmAny K cls cs = some b) :
    PySem.W.Looks M h (excMatches (.ref e) (.ref tp)) b := by
  intro A Q E s k q
  have L0 : PySem.W.Looks M h (isInstance (.ref tp) (.type "tuple")) true := ((PySem.W.Looks.ld hp).andThen .now).andThen (PySem.W.Looks.of_pure isSubtype_tuple_tuple)
  obtain ⟨bs, h1, h2, h3⟩ := exmAny_list hx
  unfold excMatches
  refine wpAny_bind ((L0.keeps k).here ?_)
  rw [if_pos rfl]
  refine wpAny_bind (wpAny_seqItems (k _ _ hp) rfl ?_)
  refine wpAny_bind (wpAny_pure ?_)
  show wpAny M A (forIn cs PUnit.unit _ >>= _) Q E s
  refine wpAny_bind (loop_all (fun c hc Q' q' => ?_) ?_)
  · rw [← h1] at hc
    obtain ⟨p, hp, rfl⟩ := List.mem_map.mp hc
    exact wpAny_bind ((((PySem.W.exm_cls (M := M) X (h3 p hp)).1).keeps k).here (wpAny_pure q'))
  · refine wpAny_bind ((LT.keeps k).here ?_)
    rw [← h1]
    refine wpAny_bind (loop_any (fun c hc r Q' q' => ?_) ?_)
    · refine wpAny_bind ((((PySem.W.exm_cls (M := M) X (h3 c hc)).2).keeps k).here ?_)
      cases e : c.2 <;> (rw [e] at q'; exact wpAny_pure q')
    · rw [h2]
      cases b <;> exact wpAny_pure q
end
theorem test_t6 {X : Cx} {x1 x2 x3 x4 x5 x6 : Str} {c1 c2 c3 c4 c5 c6 : Value} {p1 p2 p3 p4 p5 p6 tpos : Pos} {kk : Nat} (g1 : Gl X x1) (m1 : X.mg x1 = some c1) (g2 : Gl X x2) (m2 : X.mg x2 = some c2) (g3 : Gl X x3) (m3 : X.mg x3 = some c3) (g4 : Gl X x4) (m4 : X.mg x4 = some c4) (g5 : Gl X x5) (m5 : X.mg x5 = some c5) (g6 : Gl X x6) (m6 : X.mg x6 = some c6)
    (d1 : (x1 == ("__debug__" : Str)) = false := by decide) (d2 : (x2 == ("__debug__" : Str)) = false := by decide) (d3 : (x3 == ("__debug__" : Str)) = false := by decide) (d4 : (x4 == ("__debug__" : Str)) = false := by decide) (d5 : (x5 == ("__debug__" : Str)) = false := by decide) (d6 : (x6 == ("__debug__" : Str)) = false := by decide) :
    TestX X (.Tuple [.Name x1 p1, .Name x2 p2, .Name x3 p3, .Name x4 p4, .Name x5 p5, .Name x6 p6] kk tpos) (fun cls => PySem.W.exmAny X.K cls [c1, c2, c3, c4, c5, c6]) := by
  intro a oe pn pins σ H s cls b Q E I LT hb q
  refine wpAny_Tuple ?_
  refine wpAny_items_cons (ld_glob (X := X.suite a ((a, oe) :: pn)) I g1 m1 ?_ d1)
  refine wpAny_items_cons (ld_glob (X := X.suite a ((a, oe) :: pn)) I g2 m2 ?_ d2)
  refine wpAny_items_cons (ld_glob (X := X.suite a ((a, oe) :: pn)) I g3 m3 ?_ d3)
  refine wpAny_items_cons (ld_glob (X := X.suite a ((a, oe) :: pn)) I g4 m4 ?_ d4)
  refine wpAny_items_cons (ld_glob (X := X.suite a ((a, oe) :: pn)) I g5 m5 ?_ d5)
  refine wpAny_items_cons (ld_glob (X := X.suite a ((a, oe) :: pn)) I g6 m6 ?_ d6)
  refine wpAny_items_nil ⟨by size_fits, ?_⟩
  have kp : ∀ q o, s.heap.get? q = some o → (s.heap.push { cls := .type "tuple", data := .seq [c1, c2, c3, c4, c5, c6].toArray }).get? q = some o := fun _ _ z => Heap.get?_push_of_some _ z
  exact (exm_tupN (M := model X.prog X.w) (I.kIn.keeps kp) (LT.keeps kp) (Heap.get?_push_size s.heap rfl) hb).here (q _ kp)
section
variable {X : Cx} {T : Nat → Addr} {E : XK} {a b c : Expr} {ga gb gc : ME} {pos : Pos}
end
def it1VL (j n : Nat) : It1 := ⟨fun _ => n, fun i h => match h.get j with
  | some (.lst xs) => if i < n then (match xs[n - 1 - i]? with
    | some x => some (some x)
    | none => none) else some none
  | _ => none⟩
def gRev (a : ME) : MI1 := fun m h => (a m h).bind fun x h1 => match x with
  | .tup xs => .ok (it1 xs.reverse) h1
  | .ktp xs => .ok (it1 xs.reverse) h1
  | .ref j => match h1.get j with
    | some (.lst xs) => .ok (it1VL j xs.length) h1
    | _ => .bad
  | _ => .bad
section
variable {Z : Zt} {ρ : List Addr} {h : MH} {H : Hp}
theorem rI_revT {a : Addr} {xs : List MV} {vs : List V} (r : RVs Z ρ H xs vs) (k : ∀ ρ' H', Ext ρ H ρ' H' → SqT Z.K H' a vs) : rI Z ρ H (it1 xs.reverse) (RT.ItvT Z.K a vs.length) := by
  intro i ρ' h' H' e R
  show match some xs.reverse[i]? with
    | none => True
    | some none => (RT.ItvT Z.K a vs.length).stop i H'
    | some (some x) => (RT.ItvT Z.K a vs.length).go i H' ∧ ∀ v H'', (RT.ItvT Z.K a vs.length).yld i H' v H'' → ∃ ρ'', Ext ρ' H' ρ'' H'' ∧ HR Z ρ'' h' H'' ∧ RV Z ρ'' H'' x v
  have hl := r.length
  by_cases hi : i < xs.length
  · rw [List.getElem?_reverse hi]
    cases g : xs[xs.length - 1 - i]? with
    | none => have := List.getElem?_eq_none_iff.mp g; omega
    | some x =>
      obtain ⟨v, h1, h2⟩ := r.get g
      rw [hl] at h1
      refine ⟨⟨by omega, vs, v, k _ _ e, h1⟩, fun w H'' y => ?_⟩
      obtain ⟨rfl, y⟩ := y
      have := y vs (k _ _ e)
      rw [h1] at this
      cases this
      exact ⟨ρ', .refl, R, h2.ext e⟩
  · rw [List.getElem?_eq_none (by rw [List.length_reverse]; omega)]
    show vs.length ≤ i
    omega
theorem rI_revL {j n : Nat} {a : Addr} (hj : ρ[j]? = some a) : rI Z ρ H (it1VL j n) (Itv Z.K a n) := by
  intro i ρ' h' H' e R
  show match (match h'.get j with
    | some (.lst xs) => if i < n then (match xs[n - 1 - i]? with
      | some x => some (some x)
      | none => none) else some none
    | _ => none : Option (Option MV)) with
    | none => True
    | some none => (Itv Z.K a n).stop i H'
    | some (some x) => (Itv Z.K a n).go i H' ∧ ∀ v H'', (Itv Z.K a n).yld i H' v H'' → ∃ ρ'', Ext ρ' H' ρ'' H'' ∧ HR Z ρ'' h' H'' ∧ RV Z ρ'' H'' x v
  cases g : h'.get j with
  | none => trivial
  | some o =>
    cases o with
    | lst xs =>
      obtain ⟨vs, h1, h2⟩ := R.obj g (e.at hj)
      have sq : SqL Z.K H' a vs := .inl (.inl h1)
      dsimp only
      by_cases hi : i < n
      · rw [if_pos hi]
        cases g2 : xs[n - 1 - i]? with
        | none => trivial
        | some x =>
          obtain ⟨v, h3, h4⟩ := h2.get g2
          refine ⟨⟨hi, vs, v, sq, h3⟩, fun w H'' y => ?_⟩
          obtain ⟨rfl, y⟩ := y
          have := y vs sq
          rw [h3] at this
          cases this
          exact ⟨ρ', .refl, R, h4⟩
      · rw [if_neg hi]
        show n ≤ i
        omega
    | _ => trivial
end
section
variable {X : Cx} {T : Nat → Addr} {E : XK} {e a tg : Expr} {ga : ME} {pos p : Pos}
theorem ji_rev (hg : Gl X "reversed") (hm : X.mg "reversed" = none) (ha : JE X T E a ga) (hs : starEach [a] X.env = (false, eval a X.env) :: starEach [] X.env := by rfl) : JI X T E tg (.Call (.Name "reversed" p) [a] [] pos) (gRev ga) :=
  PI.le (RT.pi_revA hg hm ha hs) fun σ H R ⟨ρ, m, h, s, q⟩ => stepI s q fun ρ1 h1 H1 x v s1 e1 r1 q1 => by
    cases r1 with
    | @tup a xs vs h2 r2 => exact ⟨a, vs, rfl, .inr ⟨.inl (.inl h2), Post.ok (R := rI ⟨X.K, T⟩) q1 s1.hr (rI_revT r2 fun ρ' H' e => (.inl (.inl (e.still _ _ h2 trivial))))⟩⟩
    | @ktp a xs vs h2 r2 => exact ⟨a, vs, rfl, .inr ⟨ktp_sq h2, Post.ok (R := rI ⟨X.K, T⟩) q1 s1.hr (rI_revT r2 fun ρ' H' e => ktp_sq h2)⟩⟩
    | @ref j a hj =>
      have q2 : Post ⟨X.K, T⟩ (rI ⟨X.K, T⟩) ρ1 H1 R E (match h1.get j with
        | some (.lst xs) => .ok (it1VL j xs.length) h1
        | _ => .bad) := q1
      cases g1 : h1.get j with
      | none => rw [g1] at q2; exact q2.elim
      | some ob =>
        rw [g1] at q2
        cases ob with
        | lst xs =>
          obtain ⟨vs, h3, h4⟩ := s1.hr.obj g1 hj
          refine ⟨a, vs, rfl, .inl ⟨.inl (.inl h3), ?_⟩⟩
          rw [← h4.length]
          exact Post.ok (R := rI ⟨X.K, T⟩) q2 s1.hr (rI_revL hj)
        | _ => exact q2.elim
    | _ => exact q1.elim
end
def tyN (h : MH) : MV → Option String
  | .non => some "NoneType"
  | .bl _ => some "bool"
  | .int _ => some "int"
  | .str _ => some "str"
  | .tup _ => some "tuple"
  | .ktp _ => some "tuple"
  | .ref j => match h.get j with
    | some (.lst _) => some "list"
    | some (.dic _) => some "dict"
    | _ => none
  | _ => none
theorem tyN_ok {Z : Zt} {ρ : List Addr} {h : MH} {H : Hp} {x : MV} {v : V} {t : String} (R : HR Z ρ h H) (r : RV Z ρ H x v) (e : tyN h x = some t) : TyX Z.K H v (.type t) := by
  cases r with
  | non => cases e; exact .base .non
  | bl b => cases e; exact .base (.bl b)
  | int i => cases e; exact .base (.int i)
  | str s => cases e; exact .base (.str _)
  | tup h2 r2 => cases e; exact .base (.tup h2)
  | ktp h2 r2 =>
    cases e
    rcases h2 with h2 | ⟨o, its, n, hk, hc, _⟩
    · rcases h2 with h2 | ⟨o, h2⟩ <;> cases h2
    · exact .kTuple hk hc
  | @ref j a hj =>
    have e' : (match h.get j with
      | some (.lst _) => some "list"
      | some (.dic _) => some "dict"
      | _ => none) = some t := e
    cases g : h.get j with
    | none => rw [g] at e'; cases e'
    | some ob =>
      rw [g] at e'
      cases ob with
      | lst xs => cases e'; obtain ⟨vs, h3, _⟩ := R.obj g hj; exact .base (.lst h3)
      | dic xs => cases e'; obtain ⟨vs, h3, _⟩ := R.obj g hj; exact .base (.dK h3)
      | _ => cases e'
  | _ => cases e
def mIsTy (tb : List (String × Bool)) (x : MV) (h : MH) : Out MV := match tyN h x with
  | some t => (match tb.lookup t with
    | some b => .ok (.bl b) h
    | none => .bad)
  | none => .bad
def anyB (t : String) : List String → Option Bool
  | [] => some false
  | c :: r => match L2.kitB t c with
    | some true => some true
    | some false => anyB t r
    | none => none
theorem anyB_ok {K : PySem.W.Frag} {t : String} : ∀ {cs : List String} {b : Bool}, anyB t cs = some b → PySem.W.kitAny K (.type t) (cs.map Value.type) = some b
  | [], b, h => h
  | c :: r, b, h => by
    unfold anyB at h
    rw [List.map_cons]
    unfold PySem.W.kitAny
    cases k : L2.kitB t c with
    | none => rw [k] at h; cases h
    | some d =>
      rw [k] at h
      rw [kit_ty k]
      cases d with
      | true => exact h
      | false => exact anyB_ok h
theorem look_all {f : String → Bool → Bool} : ∀ {tb : List (String × Bool)} {t : String} {b : Bool}, (tb.all fun p => f p.1 p.2) = true → tb.lookup t = some b → f t b = true
  | [], _, _, _, h => by cases h
  | (t', b') :: r, t, b, ha, h => by
    rw [List.all_cons, Bool.and_eq_true] at ha
    rw [List.lookup_cons] at h
    by_cases z : t = t'
    · subst z
      rw [beq_self_eq_true] at h
      cases h
      exact ha.1
    · rw [beq_false_of_ne z] at h
      exact look_all ha.2 h
theorem clsTy : ∀ {cs : List String}, Paired ClsV (cs.map V.ty) (cs.map Value.type)
  | [] => .nil
  | c :: r => .cons (.ty c) clsTy
section
variable {X : Cx} {T : Nat → Addr} {E : XK} {a ec : Expr} {es : List Expr} {p1 p2 pos : Pos} {ga : ME} {kk : Nat}
theorem je_isTy {c : String} {tb : List (String × Bool)} (hg : Gl X "isinstance") (hm : X.mg "isinstance" = none) (hk : (tb.all fun p => L2.kitB p.1 c == some p.2) = true) (ha : JE X T E a ga) (hc : PE X ec (tC (.ty c)))
    (hs : starEach [a, ec] X.env = (false, eval a X.env) :: starEach [ec] X.env := by rfl) (hs2 : starEach [ec] X.env = (false, eval ec X.env) :: starEach [] X.env := by rfl) (hpl : (backTo pos (starEach [ec] X.env)).any (·.1) = false := by rfl) :
    JE X T E (.Call (.Name "isinstance" p1) [a, ec] [] pos) (gUn (mIsTy tb) ga) :=
  PE.le (pe_callB (he := hs) (hpl := hpl) call_isi hg hm (by decide +kernel) (pa_cons ha (pa_cons hc pa_nil hs2) hs)) fun σ H Q ⟨ρ, m, h, s, q⟩ => stepE s q fun ρ1 h1 H1 x v s1 e1 r1 q1 => by
    show rIsi X.K [v, .ty c] H1 Q
    unfold mIsTy at q1
    cases e : tyN h1 x with
    | none => rw [e] at q1; exact q1.elim
    | some t =>
      rw [e] at q1
      dsimp only at q1
      cases k : tb.lookup t with
      | none => rw [k] at q1; exact q1.elim
      | some b =>
        rw [k] at q1
        exact ⟨v, .ty c, _, _, b, rfl, .ty _, tyN_ok s1.hr r1 e, kit_ty (by simpa using look_all (f := fun t b => L2.kitB t c == some b) hk k), Post.ok (R := rV ⟨X.K, T⟩) q1 s1.hr (.bl b)⟩
theorem je_isTyT {cs : List String} {tb : List (String × Bool)} (hg : Gl X "isinstance") (hm : X.mg "isinstance" = none) (hk : (tb.all fun p => anyB p.1 cs == some p.2) = true) (ha : JE X T E a ga) (hc : PA X es (fun _ H Q => Q (cs.map V.ty) H)) (hl : cs.length ≤ 1000)
    (hs : starEach [a, .Tuple es kk p2] X.env = (false, eval a X.env) :: starEach [.Tuple es kk p2] X.env := by rfl) (hs2 : starEach [.Tuple es kk p2] X.env = (false, eval (.Tuple es kk p2) X.env) :: starEach [] X.env := by rfl) (hpl : (backTo pos (starEach [.Tuple es kk p2] X.env)).any (·.1) = false := by rfl) :
    JE X T E (.Call (.Name "isinstance" p1) [a, .Tuple es kk p2] [] pos) (gUn (mIsTy tb) ga) :=
  PE.le (pe_callB (he := hs) (hpl := hpl) call_isiT hg hm (by decide +kernel) (pa_cons ha (pa_cons (pe_tup hc) pa_nil hs2) hs)) fun σ H Q ⟨ρ, m, h, s, q⟩ => stepE s q fun ρ1 h1 H1 x v s1 e1 r1 q1 => by
    refine ⟨by rw [sizeLine_eq, List.length_map]; omega, fun p hp => ?_⟩
    show rIsiT X.K [v, .ref p] (upd H1 p (.tup (cs.map V.ty))) Q
    have e2 : Ext ρ1 H1 ρ1 (upd H1 p (.tup (cs.map V.ty))) := Ext.still1 hp
    unfold mIsTy at q1
    cases e : tyN h1 x with
    | none => rw [e] at q1; exact q1.elim
    | some t =>
      rw [e] at q1
      dsimp only at q1
      cases k : tb.lookup t with
      | none => rw [k] at q1; exact q1.elim
      | some b =>
        rw [k] at q1
        exact ⟨v, p, cs.map V.ty, _, _, b, rfl, upd_same, clsTy, tyN_ok (s1.hr.still1 hp) (r1.ext e2) e, anyB_ok (by simpa using look_all (f := fun t b => anyB t cs == some b) hk k), Post.ok (R := rV ⟨X.K, T⟩) (q1.ext e2) (s1.hr.still1 hp) (.bl b)⟩
end
end MI
set_option Elab.async false
set_option linter.all false
set_option maxRecDepth 100000
set_option maxHeartbeats 4000000
namespace MI
open PySem PySem.Spec PyProof.Rows L2 JB
theorem bounds_tail {a n : Nat} (h : a ≤ n) : sliceBounds (some (a : Int)) none none n = ((a : Int), (n : Int), 1) := by
  unfold sliceBounds
  have : ¬ ((a : Int) < 0) := by omega
  simp only [Option.getD_none, this, if_false, show (1 : Int) > 0 from by decide, if_true]
  refine congrArg (·, _) ?_
  omega
section
variable {prog : Program} {w : World} {A : Around} {E : Value → Shared → Prop} {s : Shared}
theorem tailSet {p q sl : Addr} {xs ys : Array Value} {n n2 a : Nat} {vl : Value} {Q : Unit → Shared → Prop} (e : s.heap.get? p = some { cls := .type "list", data := .seq xs n }) (e2 : s.heap.get? q = some { cls := .type "list", data := .seq ys n2 })
    (hne : p ≠ q) (hs : s.heap.IsSliceOf sl vl .none .none) (pl : IsPart vl (some (a : Int))) (ha : a ≤ xs.size) (hz : xs.size + ys.size ≤ sizeLine)
    (h : Q () { s with heap := s.heap.update p (Obj.mapSeq fun zs => zs.extract 0 a ++ ys ++ zs.extract (max (a : Int) (xs.size : Int)).toNat zs.size) }) : wpAny (model prog w) A (setItem (.ref p) (.ref sl) (.ref q)) Q E s := by
  have lp : s.heap.IsList p xs := PySem.IsL.isList e
  have lq : s.heap.IsList q ys := PySem.IsL.isList e2
  obtain ⟨os, h1, h2, h3⟩ := id hs
  have ty : s.TypeIs (.ref sl) "slice" := ⟨os, h1, h2⟩
  have ns : ¬ ((rawPart none == rawInt 0) = true) := Bool.false_ne_true
  have df : Builtin.List.listSameRef (.ref p) (.ref q) = false := beq_eq_false_iff_ne.mpr hne
  have fz : ((fun zs : Array Value => zs.extract 0 a ++ ys ++ zs.extract (max (a : Int) (xs.size : Int)).toNat zs.size) xs).size ≤ sizeLine + 1 := by simp only [Array.size_append, Array.size_extract] <;> omega
  unfold setItem
  refine wpAny_holding (wpAny_bind (wpAny_sequenceKey lp.typeIs (by decide) ?_))
  refine wpAny_bind (wpAny_callSpecial?_slot (name := Str.ofString "__setitem__") lp.typeIs slot_list_setitem (wpAny_call_entry slot_list_setitem lp.typeIs entry_list_setitem ?_ (args_list_setitem _ _ _)))
  show wpAny _ _ (Builtin.List.listSubscript? (.ref sl) >>= _) _ _ s
  unfold Builtin.List.listSubscript?
  refine wpAny_bind (wpAny_bind (wpAny_specialOf ty slice_no_index ?_))
  simp only [Option.isNone_none, if_true]
  refine wpAny_pure ?_
  show wpAny _ _ (typeOf (.ref sl) >>= _) _ _ s
  refine wpAny_bind (wpAny_typeOf ty ?_)
  rw [if_neg (by decide), listSliceParts_eq]
  refine wpAny_bind (wpAny_bind (wpAny_field h1 h3 (x := .none) rfl (wpAny_bind (wpAny_listPart .none ?_))))
  rw [if_neg ns]
  refine wpAny_bind (wpAny_field h1 h3 (x := vl) rfl (wpAny_bind (wpAny_listPart pl (wpAny_bind (wpAny_field h1 h3 (x := .none) rfl (wpAny_bind (wpAny_listPart .none (wpAny_pure ?_))))))))
  simp only [df, Bool.false_eq_true, if_false]
  refine wpAny_bind (m := Builtin.List.listAllItems (.ref q) "must assign iterable to extended slice") ?_
  unfold Builtin.List.listAllItems
  refine wpAny_bind (wpAny_typeOf lq.typeIs ?_)
  simp only [beq_self_eq_true, Bool.true_or, if_true]
  unfold Builtin.List.listItems
  refine wpAny_bind (wpAny_seqItems e2 rfl (wpAny_pure ?_))
  refine wpAny_bind (wpAny_bind (wpAny_seqItems e rfl (wpAny_pure ?_)))
  refine wpAny_bind (wpAny_of_eq ((sliceIndices_raw (some (a : Int)) none none xs.size (by simp)).trans (congrArg (pure : Int × Int × Int → Sem (Int × Int × Int)) (bounds_tail ha))) ?_)
  show wpAny _ _ (if ((1 : Int) == 1) = true then _ else _) _ _ s
  rw [if_pos (by decide)]
  refine wpAny_bind (wpAny_rule ?_)
  simp only [notLongL hz, Bool.false_eq_true, if_false]
  show wpAny _ _ (updateSeq p (fun zs => zs.extract 0 ((a : Int)).toNat ++ ys ++ zs.extract (max (a : Int) (xs.size : Int)).toNat zs.size) >>= _) _ _ s
  rw [Int.toNat_natCast]
  refine wpAny_bind (wpAny_updateSeq (hz := Nat.le_trans (Nat.le_add_right _ _) hz) (_hz' := fz) e rfl (wpAny_bind (wpAny_letGo ?_)))
  exact wpAny_pure ⟨.none, rfl, wpAny_pure h⟩
end
def rTail : V → V → V → Hp → (Hp → Prop) → Prop := fun o i v H Q => ∃ (a b : Addr) (xs ys : List V) (k : Int), o = .ref a ∧ i = .int k ∧ v = .ref b ∧ H a = some (.lst xs) ∧ H b = some (.lst ys) ∧ a ≠ b ∧ 0 ≤ k ∧ k ≤ xs.length ∧ xs.length + ys.length ≤ sizeLine ∧ Q (upd H a (.lst (xs.take k.toNat ++ ys)))
section
variable {X : Cx} {T : Nat → Addr} {E : XK} {o lo : Expr} {to tl : TE} {go gl : ME} {pos p2 : Pos}
theorem pg_tail (ho : PE X o to) (hi : PE X lo tl) (ha : ∀ v, assign (.Subscript o (.Slice (some lo) none none p2) pos) X.env v = (do
      let x ← holding [v] (eval o X.env)
      let y ← holding [v, x] (eval (.Slice (some lo) none none p2) X.env)
      standAt pos
      holding [v, x, y] (setItem x y v)
      release [y, v, x] []) := by intro _; rfl) : PG X (.Subscript o (.Slice (some lo) none none p2) pos) (fun v σ H Q => to σ H fun x H1 => tl σ H1 fun y H2 => rTail x y v H2 fun H3 => Q σ H3) := by
  refine ⟨fun pins s σ H v u Q I r h => ?_⟩
  rw [ha]
  refine wpAny_bind (wpAny_holding (thn (ho.run pins s σ H _ I h) fun vx s1 ⟨x, H1, I1, r1, q1⟩ => ?_))
  refine wpAny_bind (wpAny_holding (wpAny_Slice (thn (hi.run pins s1 σ H1 _ I1 q1) fun vl s2 ⟨y, H2, I2, r2, q2⟩ => ?_)))
  rw [evalPart_none]
  refine wpAny_pure (wpAny_pure ?_)
  obtain ⟨a, b, xs, ys, k, rfl, rfl, rfl, ea, eb, hab, k0, k1, hz, q⟩ := q2
  obtain rfl : vx = Value.ref a := r1
  obtain rfl : u = Value.ref b := r
  obtain ⟨tk, rfl⟩ := r2
  obtain ⟨k', rfl⟩ := Int.eq_ofNat_of_zero_le k0
  have I3 : Inv X pins σ H2 { s2 with heap := s2.heap.push { cls := .type "slice", data := .fields #[.int k' tk, .none, .none] } } := I2.kept (t' := s2.toks) fun _ _ z => Heap.get?_push_of_some _ z
  obtain ⟨z1, is1, n1, v1, l1, e1⟩ := I3.lstM ea
  obtain ⟨z2, is2, n2, v2, l2, e2⟩ := I3.lstM eb
  refine wpAny_bind (wpAny_standAt (wpAny_bind (wpAny_holding (tailSet (a := k') e1 e2 hab (Heap.IsSliceOf.new ..) (.int _ _) (by rw [List.size_toArray]; omega) (by rw [List.size_toArray, List.size_toArray]; omega) ?_))))
  refine wpAny_release ⟨σ, _, ?_, q⟩
  refine I3.lset (its' := is1.take k' ++ is2) (t' := s2.toks) ea e1 ?_ (Vals.append (v1.take _) v2) (by rw [List.length_append, List.length_take]; omega)
  have mx : (max (k' : Int) (is1.toArray.size : Int)).toNat = is1.toArray.size := by
    have l : xs.length = is1.length := v1.length
    have : k' ≤ is1.toArray.size := by rw [List.size_toArray]; omega
    omega
  rw [mx, splice_eq is1 is2 k' is1.toArray.size, List.drop_eq_nil_of_le (by rw [List.size_toArray]; omega), List.append_nil]
def tgTail (o lo : ME) : MG := fun z m h => (o m h).bindS fun x h1 => (lo m h1).bindS fun y h2 => match x, y, z with
  | .ref i, .int k, .ref j => if i = j then .bad else match h2.get i, h2.get j with
    | some (.lst xs), some (.lst ys) => if 0 ≤ k ∧ k ≤ xs.length ∧ xs.length + ys.length ≤ 1000000 then .nx m (h2.set i (.lst (xs.take k.toNat ++ ys))) else .bad
    | _, _ => .bad
  | _, _, _ => .bad
theorem RVs.append' {Z : Zt} {ρ : List Addr} {H : Hp} : ∀ {xs ys : List MV} {vs ws : List V}, RVs Z ρ H xs vs → RVs Z ρ H ys ws → RVs Z ρ H (xs ++ ys) (vs ++ ws)
  | _, _, _, _, .nil, q => q
  | _, _, _, _, .cons a r, q => .cons a (RVs.append' r q)
theorem RVs.take' {Z : Zt} {ρ : List Addr} {H : Hp} : ∀ {xs : List MV} {vs : List V} (n : Nat), RVs Z ρ H xs vs → RVs Z ρ H (xs.take n) (vs.take n)
  | _, _, 0, _ => by rw [List.take_zero, List.take_zero]; exact .nil
  | _, _, n + 1, .nil => .nil
  | _, _, n + 1, .cons a r => .cons a (RVs.take' n r)
theorem jg_tail (ho : JE X T E o go) (hi : JE X T E lo gl) (ha : ∀ v, assign (.Subscript o (.Slice (some lo) none none p2) pos) X.env v = (do
      let x ← holding [v] (eval o X.env)
      let y ← holding [v, x] (eval (.Slice (some lo) none none p2) X.env)
      standAt pos
      holding [v, x, y] (setItem x y v)
      release [y, v, x] []) := by intro _; rfl) : JG X T E (.Subscript o (.Slice (some lo) none none p2) pos) (tgTail go gl) :=
  PG.le (pg_tail ho hi ha) fun v σ H Q ⟨ρ, m, h, z, s, r, q⟩ => sE s q fun ρ1 h1 H1 x vx s1 e1 r1 q1 => sE s1 q1 fun ρ2 h2 H2 y vy s2 e2 r2 q2 => by
    have rx := r1.ext e2
    have rz := (r.ext e1).ext e2
    show rTail vx vy v H2 fun H3 => Q σ H3
    cases rx with
    | @ref i a hi =>
      cases r2 with
      | int k =>
        cases rz with
        | @ref j b hj =>
          dsimp only at q2
          by_cases hij : i = j
          · rw [if_pos hij] at q2; exact q2.elim
          · rw [if_neg hij] at q2
            cases g1 : h2.get i with
            | none => rw [g1] at q2; exact q2.elim
            | some ob =>
              cases ob with
              | lst xs =>
                cases g2 : h2.get j with
                | none => rw [g1, g2] at q2; exact q2.elim
                | some oc =>
                  cases oc with
                  | lst ys =>
                    rw [g1, g2] at q2
                    dsimp only at q2
                    by_cases z1 : 0 ≤ k ∧ k ≤ xs.length ∧ xs.length + ys.length ≤ 1000000
                    · rw [if_pos z1] at q2
                      obtain ⟨vs, a1, a2⟩ := s2.hr.obj g1 hi
                      obtain ⟨ws, b1, b2⟩ := s2.hr.obj g2 hj
                      have x1 : Ext ρ2 H2 ρ2 (upd H2 a (.lst (vs.take k.toNat ++ ws))) := s2.hr.grow g1 hi _
                      have ab : a ≠ b := fun z => hij ((List.getElem?_inj (List.getElem?_eq_some_iff.mp hi).1 s2.hr.nodup).mp (hi.trans (by rw [z]; exact hj.symm)))
                      have l1 := a2.length
                      have l2 := b2.length
                      have R3 := s2.hr.set g1 hi (o' := .lst (xs.take k.toNat ++ ys)) (u := .lst (vs.take k.toNat ++ ws)) ⟨_, upd_same, ((RVs.take' k.toNat a2).append' b2).ext x1⟩
                      exact ⟨a, b, vs, ws, k, rfl, rfl, rfl, a1, b1, ab, z1.1, by omega, by rw [sizeLine_eq]; omega, q2 ρ2 _ σ x1 (s2.to x1 R3)⟩
                    · rw [if_neg z1] at q2; exact q2.elim
                  | _ => rw [g1, g2] at q2; exact q2.elim
              | _ => rw [g1] at q2; exact q2.elim
        | _ => exact q2.elim
      | _ => exact q2.elim
    | _ => exact q2.elim
end
end MI
set_option Elab.async false
set_option linter.all false
set_option maxRecDepth 100000
set_option maxHeartbeats 4000000
namespace MI
open PySem PySem.Spec PyProof.Rows L2 JB
section
variable {X : Cx} {T : Nat → Addr} {E : XK} {a b c : Expr} {ga : MA} {pos : Pos}
end
end MI
set_option Elab.async false
set_option linter.all false
set_option maxRecDepth 100000
set_option maxHeartbeats 4000000
namespace MI
open PySem PySem.Spec PyProof.Rows L2 JB
end MI
set_option Elab.async false
set_option linter.all false
set_option maxRecDepth 100000
set_option maxHeartbeats 4000000
namespace MI
open PySem PySem.Spec PyProof.Rows L2 JB
end MI
set_option Elab.async false
set_option linter.all false
set_option maxRecDepth 100000
set_option maxHeartbeats 4000000
namespace MI
open PySem PySem.Spec PyProof.Rows L2 JB
end MI
set_option Elab.async false
set_option linter.all false
set_option maxRecDepth 100000
set_option maxHeartbeats 4000000
namespace MI
open PySem PySem.Spec PyProof.Rows L2 JB
section
variable {X : Cx} {a b c d : Expr} {ta tb tc td : TE} {pos : Pos}
end
section
variable {X : Cx} {T : Nat → Addr} {E : XK} {a b c d : Expr} {ga gb gc gd : ME} {pos : Pos}
end
end MI
set_option Elab.async false
set_option linter.all false
set_option maxRecDepth 100000
set_option maxHeartbeats 4000000
namespace MI
open PySem PySem.Spec PyProof.Rows L2
section
variable {X : Cx} {T : Nat → Addr} {E : XK} {pos : Pos} {k v : Expr} {ks : List (Option Expr)} {vs : List Expr} {ps : List (ME × ME)} {ga gb : ME}
end
end MI
set_option Elab.async false
set_option linter.all false
set_option maxRecDepth 100000
set_option maxHeartbeats 4000000
namespace MI
open PySem PySem.Spec PyProof.Rows L2 JB
def gTryK (tb : Nat → Option Bool) (i : Nat) (e : ME) (s : MS) : MS := fun m h => match e m h with
  | .ok _ h1 => .nx m h1
  | .er (.own c ks xs) h1 => (match tb c with
    | some true => aftS i (s (m.set i (some (.err c ks xs))) h1)
    | some false => .er (.own c ks xs) h1
    | none => .bad)
  | .er (.typ _) _ => .bad
  | .bad => .bad
abbrev EW (W : WX) (σ : L2.St) : XK := fun c d H' => W c d σ H'
def JEW (X : Cx) (T : Nat → Addr) (e : Expr) (g : ME) : Prop := ∀ W : WX, Takes X W → PE X e (fun σ H Q => ∃ ρ m h, SR ⟨X.K, T⟩ ρ m h σ H ∧ Post ⟨X.K, T⟩ (rV ⟨X.K, T⟩) ρ H Q (EW W σ) (g m h))
section
variable {X : Cx} {T : Nat → Addr} {k : Nat} {f : Addr} {dm : List MV} {g : MF} {n : Nat} {me : Str} {mi : Nat} {pos apos : Pos} {o : Expr} {go : ME} {W : WX}
theorem run_gL {CX : CXT} {fd : FuncData} {ps : List Str} {sp : Sp} {dvs : List V} {ds : List Value} {E : XK} {pins : List (Addr × Obj)} {σ : L2.St} {H : Hp} {s : Shared} {Q : VK} {us : List Value}
    {vs : List V} (hs : JB.Still X.A) (F : FnG X.prog X.w X.K X.mg X.base CX k f fd ps sp)
    (hr : Room k X.A) (hb : Binds X.K fd ps ds) (hd : Vals dvs ds) (hx : ∀ er s', CX X.stack H s E er s' → X.xe er s')
    (I : Inv X pins σ H s) (r : Vals vs us) (h : sp (vs ++ dvs) H Q E) :
    wpAny (model X.prog X.w) X.A (call (.ref f) us) (EP X pins σ Q) X.xe s := by
  have rr := r.append hd
  have hl : (us ++ ds).length = ps.length := by
    rw [← rr.length]; exact F.many _ _ _ _ h
  refine wpAny_call (codeAny_mono (F.goes X.A X.stack s H ⟨us, []⟩ (us ++ ds) (vs ++ dvs) Q E hs hr
    I.env0 (hb s us I.kIn hl) rr h) fun z s' hq => ?_)
  cases z with
  | error er => exact hx er s' hq
  | ok fl => cases fl <;> first | exact I.after hq | exact False.elim hq
theorem je_meth0W {c : Nat} {pl : Sem Bool} (F : FM X.prog X.w X.K X.mg X.base T k f n dm g) (cl : Cls X.K (T c)) (mt : Meth X.K (T c) me f) (hmi : me = nm mi) (hs : JB.Still X.A) (hr : Room k X.A)
    (ho : ∀ E, JE X T E o go)
    (ht : eval (.Call (.Attribute o me apos) [] [] pos) X.env = (do
      let ov ← eval o X.env
      standAt apos.atName
      let (f, first) ← holding [ov] (getMethod ov me pl)
      callWith pos f first (backTo pos (starEach [] X.env)) (backToKw pos (keywordEach [] X.env))) := by rfl) :
    JEW X T (.Call (.Attribute o me apos) [] [] pos) (gMeth c mi g dm n go gNil) := by
  obtain ⟨fd, ps, ds, dvs, rfl, F, hk, hb, hd, hdm⟩ := F.ex
  refine fun W tk => ⟨fun pins s σ H Q I ⟨ρ, m, h, sr, q⟩ => ?_⟩
  have M := meth_M (X := X) (E := EW W σ) (t := tNil) hmi hdm (fun σ H Q ⟨ρ, m, h, s, q⟩ => q.ok s.hr .nil) sr q
  exact PySem.W.methodCall_KW (pl := pl)
    (thn ((ho (EW W σ)).run pins s σ H _ I M) fun u s1 ⟨y, H1, I1, ry, a, dx, fs, ey, ea, l, q⟩ => by
      subst ey
      obtain rfl : u = Value.ref a := ry
      exact getmeth_ok I1 ea cl mt l (PySem.W.callWith_K0 (first := [.ref a]) I1.kIn mt.kp
        (run_gL (us := [.ref a]) (vs := [.ref a]) hs F hr hb hd (fun er s' c => tk er s' (XE.of_call (W := W) I1 (fun _ _ _ z => z) c)) I1 (.cons rfl .nil) q))) ht
end
section
variable {X : Cx} {T : Nat → Addr} {E : XK} {n : Str} {t e : Expr} {i : Nat} {suite : List Stmt} {b₀ : Stmt} {pos pos' pos2 : Pos} {tt : Value → Option Bool} {tb : Nat → Option Bool} {ge : ME} {gs : MS}
theorem js_tryK (hs : X.stack = X.env :: X.outer) (hf : X.env.frame = some X.env.locals) (hex : X.ex = []) (hN : X.N.Nodup) (hi : X.N[i]? = some n) (hln : X.env.kindOf n = some .local) (ht : TestX X t tt) (htb : ∀ c b, tb c = some b → tt (.ref (T c)) = some b) (tk : TakesE X E)
    (hb : ∀ (pn : List (Addr × Obj)) (xe : Value → Shared → Prop), JEW (X.tr pn xe) T e ge)
    (hsu : ∀ (a : Addr) (pn : List (Addr × Obj)), JSs (X.suite a pn) T (fun _ _ _ => False) (b₀ :: suite) gs)
    (hsw : ∀ (pn : List (Addr × Obj)) (xe : Value → Shared → Prop), swapsWith e none pos2.line (X.tr pn xe).env = pure false := by intro pn xe; rfl) :
    JS X T E (.Try [.Expr e pos2] [.ExceptHandler (some t) (some n) (b₀ :: suite) pos'] [] [] pos) (gTryK tb i ge gs) := by
  have R := ps_tryX (pos := pos) (pos' := pos') (body := [.Expr e pos2]) (tb := fun W D σ H => ∃ ρ m h, SR ⟨X.K, T⟩ ρ m h σ H ∧ Post ⟨X.K, T⟩ (rV ⟨X.K, T⟩) ρ H (fun _ H' => D.nx σ H') (EW W σ) (ge m h)) (ts := tS ⟨X.K, T⟩ (fun _ _ _ => False) gs) hs hf hex hN hi hln ht tk
    (fun W pn xe tkW own => pss_one (ps_expr (hb pn xe W tkW) (hsw pn xe))) hsu
  refine ⟨fun pins s σ H D I ⟨ρ, m, h, sr, q⟩ => R.run pins s σ H D I ⟨ρ, m, h, sr, ?_⟩⟩
  have hml : m.length = X.N.length := sr.len.trans I.len
  have q' : PostS ⟨X.K, T⟩ ρ H D E (match ge m h with
    | .ok _ h1 => .nx m h1
    | .er (.own c ks xs) h1 => (match tb c with
      | some true => aftS i (gs (m.set i (some (.err c ks xs))) h1)
      | some false => .er (.own c ks xs) h1
      | none => .bad)
    | .er (.typ _) _ => .bad
    | .bad => .bad) := q
  revert q'
  cases ge m h with
  | bad => exact fun q => q
  | ok v h1 => exact fun q ρ' H' b ex r rv => q ρ' H' σ ex (sr.to ex r)
  | er x h1 =>
    cases x with
    | typ s => exact fun q => q.elim
    | own c ks xs =>
      intro q ρ' H' ex r d vs hx hv
      dsimp only at q
      cases hc : tb c with
      | none => rw [hc] at q; exact q.elim
      | some b =>
        rw [hc] at q
        refine ⟨b, htb c b hc, fun hb1 a na => ?_, fun hb0 => ?_⟩
        · subst hb1
          dsimp only at q
          have e1 : Ext ρ' H' ρ' (upd H' a (exk a (T c) d)) := Ext.still1 na
          have s1 := (sr.to ex r).to e1 (r.still1 na)
          have s2 := s1.set (x := .err c ks xs) (v := .ref a) i (.err upd_same (e1.xdH hx) (hv.ext e1))
          refine ⟨T c, rfl, ρ', m.set i (some (.err c ks xs)), h1, s2, ?_⟩
          have q2 := PostS.ext q (ex.trans e1)
          revert q2
          cases gs (m.set i (some (.err c ks xs))) h1 with
          | bad => exact fun q => q
          | nx m' h' => exact fun q ρ2 H2 σ2 e2 s2 => q ρ2 H2 _ e2 (s2.drop i)
          | bk m' h' => exact fun q ρ2 H2 σ2 e2 s2 => q ρ2 H2 _ e2 (s2.drop i)
          | ct m' h' => exact fun q ρ2 H2 σ2 e2 s2 => q ρ2 H2 _ e2 (s2.drop i)
          | rt v h' => exact fun q => q
          | er x h' => exact fun q => q.elim
        · subst hb0
          exact q ρ' H' ex r d vs hx hv
end
end MI
set_option Elab.async false
set_option linter.all false
set_option maxRecDepth 100000
set_option maxHeartbeats 8000000
namespace K47
open PySem PySem.Spec PyProof.Rows L2 JB MI
def top (i : Nat) : Stmt := PySem.Challenge.pw_lastingrun_k47_a_known_log.main.body.getD i (.Pass ⟨0, 0, 0, 0⟩)
abbrev s_law_take : Stmt := top 27
abbrev d_law_take : He.DefD := ⟨("_law_take", none), "_law_take", "_law_take", defArgs s_law_take, defBody s_law_take, defScope s_law_take, [], []⟩
abbrev s_law_box : Stmt := top 26
abbrev d_law_box : He.DefD := ⟨("_law_box", none), "_law_box", "_law_box", defArgs s_law_box, defBody s_law_box, defScope s_law_box, [], []⟩
abbrev s_Disk_hold : Stmt := inClass (top 24) 1
abbrev d_Disk_hold : He.DefD := ⟨("Disk", some "hold"), "hold", "Disk.hold", defArgs s_Disk_hold, defBody s_Disk_hold, defScope s_Disk_hold, [], []⟩
abbrev s_Disk___init : Stmt := inClass (top 24) 0
abbrev d_Disk___init : He.DefD := ⟨("Disk", some "__init__"), "__init__", "Disk.__init__", defArgs s_Disk___init, defBody s_Disk___init, defScope s_Disk___init, [], []⟩
abbrev s_Log__read : Stmt := inClass (top 20) 1
abbrev d_Log__read : He.DefD := ⟨("Log", some "_read"), "_read", "Log._read", defArgs s_Log__read, defBody s_Log__read, defScope s_Log__read, [], []⟩
abbrev s_is_count : Stmt := top 16
abbrev d_is_count : He.DefD := ⟨("is_count", none), "is_count", "is_count", defArgs s_is_count, defBody s_is_count, defScope s_is_count, [], []⟩
abbrev s_records_of : Stmt := top 18
abbrev d_records_of : He.DefD := ⟨("records_of", none), "records_of", "records_of", defArgs s_records_of, defBody s_records_of, defScope s_records_of, [], []⟩
abbrev s_unpacked : Stmt := top 17
abbrev d_unpacked : He.DefD := ⟨("unpacked", none), "unpacked", "unpacked", defArgs s_unpacked, defBody s_unpacked, defScope s_unpacked, [], []⟩
abbrev s_Disk__check_place : Stmt := inClass (top 24) 5
abbrev d_Disk__check_place : He.DefD := ⟨("Disk", some "_check_place"), "_check_place", "Disk._check_place", defArgs s_Disk__check_place, defBody s_Disk__check_place, defScope s_Disk__check_place, [], []⟩
abbrev s_Disk_read : Stmt := inClass (top 24) 3
abbrev d_Disk_read : He.DefD := ⟨("Disk", some "read"), "read", "Disk.read", defArgs s_Disk_read, defBody s_Disk_read, defScope s_Disk_read, [], []⟩
abbrev s_Log___init : Stmt := inClass (top 20) 0
abbrev d_Log___init : He.DefD := ⟨("Log", some "__init__"), "__init__", "Log.__init__", defArgs s_Log___init, defBody s_Log___init, defScope s_Log___init, [.int 0, .int 0, .int 0], []⟩
abbrev s_law_same : Stmt := top 28
abbrev d_law_same : He.DefD := ⟨("_law_same", none), "_law_same", "_law_same", defArgs s_law_same, defBody s_law_same, defScope s_law_same, [], []⟩
abbrev s_Log_many : Stmt := inClass (top 20) 6
abbrev d_Log_many : He.DefD := ⟨("Log", some "many"), "many", "Log.many", defArgs s_Log_many, defBody s_Log_many, defScope s_Log_many, [], []⟩
abbrev s_Log_safe : Stmt := inClass (top 20) 7
abbrev d_Log_safe : He.DefD := ⟨("Log", some "safe"), "safe", "Log.safe", defArgs s_Log_safe, defBody s_Log_safe, defScope s_Log_safe, [], []⟩
abbrev s_Log_epoch : Stmt := inClass (top 20) 8
abbrev d_Log_epoch : He.DefD := ⟨("Log", some "epoch"), "epoch", "Log.epoch", defArgs s_Log_epoch, defBody s_Log_epoch, defScope s_Log_epoch, [], []⟩
abbrev s_Log_next_block : Stmt := inClass (top 20) 9
abbrev d_Log_next_block : He.DefD := ⟨("Log", some "next_block"), "next_block", "Log.next_block", defArgs s_Log_next_block, defBody s_Log_next_block, defScope s_Log_next_block, [], []⟩
abbrev s_Log_records : Stmt := inClass (top 20) 5
abbrev d_Log_records : He.DefD := ⟨("Log", some "records"), "records", "Log.records", defArgs s_Log_records, defBody s_Log_records, defScope s_Log_records, [], []⟩
abbrev s_packs : Stmt := top 14
abbrev d_packs : He.DefD := ⟨("packs", none), "packs", "packs", defArgs s_packs, defBody s_packs, defScope s_packs, [], []⟩
abbrev s_Disk__count : Stmt := inClass (top 24) 6
abbrev d_Disk__count : He.DefD := ⟨("Disk", some "_count"), "_count", "Disk._count", defArgs s_Disk__count, defBody s_Disk__count, defScope s_Disk__count, [], []⟩
abbrev s_Disk_barrier : Stmt := inClass (top 24) 8
abbrev d_Disk_barrier : He.DefD := ⟨("Disk", some "barrier"), "barrier", "Disk.barrier", defArgs s_Disk_barrier, defBody s_Disk_barrier, defScope s_Disk_barrier, [], []⟩
abbrev s_Log_room : Stmt := inClass (top 20) 4
abbrev d_Log_room : He.DefD := ⟨("Log", some "room"), "room", "Log.room", defArgs s_Log_room, defBody s_Log_room, defScope s_Log_room, [], []⟩
abbrev s_as_tuples : Stmt := top 22
abbrev d_as_tuples : He.DefD := ⟨("as_tuples", none), "as_tuples", "as_tuples", defArgs s_as_tuples, defBody s_as_tuples, defScope s_as_tuples, [], []⟩
abbrev s_Disk_write : Stmt := inClass (top 24) 4
abbrev d_Disk_write : He.DefD := ⟨("Disk", some "write"), "write", "Disk.write", defArgs s_Disk_write, defBody s_Disk_write, defScope s_Disk_write, [], []⟩
abbrev s_packed : Stmt := top 15
abbrev d_packed : He.DefD := ⟨("packed", none), "packed", "packed", defArgs s_packed, defBody s_packed, defScope s_packed, [], []⟩
abbrev s_Log_flush : Stmt := inClass (top 20) 3
abbrev d_Log_flush : He.DefD := ⟨("Log", some "flush"), "flush", "Log.flush", defArgs s_Log_flush, defBody s_Log_flush, defScope s_Log_flush, [], []⟩
abbrev s_Disk_writes : Stmt := inClass (top 24) 7
abbrev d_Disk_writes : He.DefD := ⟨("Disk", some "writes"), "writes", "Disk.writes", defArgs s_Disk_writes, defBody s_Disk_writes, defScope s_Disk_writes, [], []⟩
abbrev s_Log_append : Stmt := inClass (top 20) 2
abbrev d_Log_append : He.DefD := ⟨("Log", some "append"), "append", "Log.append", defArgs s_Log_append, defBody s_Log_append, defScope s_Log_append, [], []⟩
abbrev s_Disk_loose : Stmt := inClass (top 24) 9
abbrev d_Disk_loose : He.DefD := ⟨("Disk", some "loose"), "loose", "Disk.loose", defArgs s_Disk_loose, defBody s_Disk_loose, defScope s_Disk_loose, [], []⟩
abbrev s_law_blocks_right : Stmt := top 30
abbrev d_law_blocks_right : He.DefD := ⟨("_law_blocks_right", none), "_law_blocks_right", "_law_blocks_right", defArgs s_law_blocks_right, defBody s_law_blocks_right, defScope s_law_blocks_right, [], []⟩
abbrev s_Disk_fail_after : Stmt := inClass (top 24) 10
abbrev d_Disk_fail_after : He.DefD := ⟨("Disk", some "fail_after"), "fail_after", "Disk.fail_after", defArgs s_Disk_fail_after, defBody s_Disk_fail_after, defScope s_Disk_fail_after, [], []⟩
abbrev s_Disk_crash : Stmt := inClass (top 24) 11
abbrev d_Disk_crash : He.DefD := ⟨("Disk", some "crash"), "crash", "Disk.crash", defArgs s_Disk_crash, defBody s_Disk_crash, defScope s_Disk_crash, [], []⟩
abbrev s_law_tail_right : Stmt := top 31
abbrev d_law_tail_right : He.DefD := ⟨("_law_tail_right", none), "_law_tail_right", "_law_tail_right", defArgs s_law_tail_right, defBody s_law_tail_right, defScope s_law_tail_right, [], []⟩
abbrev s_Log_cut : Stmt := inClass (top 20) 10
abbrev d_Log_cut : He.DefD := ⟨("Log", some "cut"), "cut", "Log.cut", defArgs s_Log_cut, defBody s_Log_cut, defScope s_Log_cut, [], []⟩
abbrev s_law_told : Stmt := top 29
abbrev d_law_told : He.DefD := ⟨("_law_told", none), "_law_told", "_law_told", defArgs s_law_told, defBody s_law_told, defScope s_law_told, [], []⟩
abbrev s_law_ring_right : Stmt := top 32
abbrev d_law_ring_right : He.DefD := ⟨("_law_ring_right", none), "_law_ring_right", "_law_ring_right", defArgs s_law_ring_right, defBody s_law_ring_right, defScope s_law_ring_right, [], []⟩
abbrev s_law : Stmt := top 33
abbrev d_law : He.DefD := ⟨("law", none), "law", "law", defArgs s_law, defBody s_law, defScope s_law, [], []⟩
abbrev s_NoBlock___init : Stmt := inClass (top 5) 0
abbrev d_NoBlock___init : He.DefD := ⟨("NoBlock", some "__init__"), "__init__", "NoBlock.__init__", defArgs s_NoBlock___init, defBody s_NoBlock___init, defScope s_NoBlock___init, [], []⟩
abbrev s_Gone___init : Stmt := inClass (top 6) 0
abbrev d_Gone___init : He.DefD := ⟨("Gone", some "__init__"), "__init__", "Gone.__init__", defArgs s_Gone___init, defBody s_Gone___init, defScope s_Gone___init, [], []⟩
abbrev s_Stopped___init : Stmt := inClass (top 7) 0
abbrev d_Stopped___init : He.DefD := ⟨("Stopped", some "__init__"), "__init__", "Stopped.__init__", defArgs s_Stopped___init, defBody s_Stopped___init, defScope s_Stopped___init, [], []⟩
abbrev s_Full___init : Stmt := inClass (top 8) 0
abbrev d_Full___init : He.DefD := ⟨("Full", some "__init__"), "__init__", "Full.__init__", defArgs s_Full___init, defBody s_Full___init, defScope s_Full___init, [], []⟩
abbrev s_NoLoose___init : Stmt := inClass (top 2) 0
abbrev d_NoLoose___init : He.DefD := ⟨("NoLoose", some "__init__"), "__init__", "NoLoose.__init__", defArgs s_NoLoose___init, defBody s_NoLoose___init, defScope s_NoLoose___init, [], []⟩
abbrev s_NoCut___init : Stmt := inClass (top 3) 0
abbrev d_NoCut___init : He.DefD := ⟨("NoCut", some "__init__"), "__init__", "NoCut.__init__", defArgs s_NoCut___init, defBody s_NoCut___init, defScope s_NoCut___init, [], []⟩
def fn : List He.DefD := [d_law_take, d_law_box, d_Disk_hold, d_Disk___init, d_Log__read, d_is_count, d_records_of, d_unpacked, d_Disk__check_place, d_Disk_read, d_Log___init, d_law_same, d_Log_many, d_Log_safe, d_Log_epoch, d_Log_next_block, d_Log_records, d_packs, d_Disk__count, d_Disk_barrier, d_Log_room, d_as_tuples, d_Disk_write, d_packed, d_Log_flush, d_Disk_writes, d_Log_append, d_Disk_loose, d_law_blocks_right, d_Disk_fail_after, d_Disk_crash, d_law_tail_right, d_Log_cut, d_law_told, d_law_ring_right, d_law, d_NoBlock___init, d_Gone___init, d_Stopped___init, d_Full___init, d_NoLoose___init, d_NoCut___init]
def fa : List He.Fa := [.glo "law", .free "abs", .free "int", .free "list", .cls "Disk", .noat "Disk" "_lasting", .noat "Disk" "_shown", .noat "Disk" "_loose", .glo "Disk", .meth "Disk" "hold", .noat "Disk" "_writes", .noat "Disk" "_left", .cls "Log", .noat "Log" "_count", .free "range", .noat "Log" "_next_block", .noat "Log" "_safe", .free "len", .noat "Log" "_records", .glo "Log", .free "isinstance", .glo "is_count", .int "LONGEST" 8, .free "tuple", .int "HEAD" 5, .str "KIND" "log", .free "all", .glo "records_of", .glo "NoBlock", .meth "Disk" "_check_place", .noat "Log" "_disk", .noat "Log" "_first", .noat "Log" "_low_block", .noat "Log" "_low", .glo "unpacked", .meth "Disk" "read", .meth "Log" "_read", .free "max", .noat "Log" "_epoch", .free "repr", .meth "Log" "many", .glo "Gone", .int "WIDTH" 24, .glo "Stopped", .meth "Disk" "_count", .free "reversed", .glo "as_tuples", .glo "packs", .meth "Log" "records", .meth "Log" "room", .glo "Full", .meth "Disk" "write", .glo "packed", .meth "Disk" "barrier", .mkr "Disk", .mkr "Log", .meth "Log" "safe", .meth "Log" "epoch", .meth "Log" "next_block", .meth "Log" "flush", .meth "Disk" "writes", .glo "_law_same", .meth "Log" "append", .meth "Disk" "loose", .glo "NoLoose", .meth "Disk" "fail_after", .meth "Disk" "crash", .glo "NoCut", .meth "Log" "cut", .glo "NoPlace", .free "OverflowError", .free "LookupError", .free "IndexError", .free "KeyError", .free "ValueError", .glo "_law_told", .glo "_law_take", .glo "_law_box", .glo "_law_blocks_right", .glo "_law_tail_right", .glo "_law_ring_right", .free "RuntimeError"]
def fc : List Fc := [.raw (exmB "NoLoose" ["Full", "Stopped"] false), .raw (exmB "NoCut" ["Full", "Stopped"] false), .raw (exmB "NoPlace" ["Full", "Stopped"] false), .raw (exmB "NoBlock" ["Full", "Stopped"] false), .raw (exmB "Gone" ["Full", "Stopped"] false), .raw (exmB "Stopped" ["Full", "Stopped"] true), .raw (exmB "Full" ["Full", "Stopped"] true), .raw (kit1B "NoLoose" (.inl "Stopped") false), .raw (exkB "NoLoose" 0), .raw (kit1B "NoCut" (.inl "Stopped") false), .raw (exkB "NoCut" 0), .raw (kit1B "NoPlace" (.inl "Stopped") false), .raw (exkB "NoPlace" 1), .raw (kit1B "NoBlock" (.inl "Stopped") false), .raw (exkB "NoBlock" 1), .raw (kit1B "Gone" (.inl "Stopped") false), .raw (exkB "Gone" 1), .raw (kit1B "Stopped" (.inl "Stopped") true), .raw (exkB "Stopped" 2), .raw (kit1B "Full" (.inl "Stopped") false), .raw (exkB "Full" 3), .raw (clsGB), .raw (exmB "NoLoose" ["Full", "Gone", "NoBlock", "NoCut", "NoPlace", "Stopped"] false), .raw (exmB "NoCut" ["Full", "Gone", "NoBlock", "NoCut", "NoPlace", "Stopped"] true), .raw (exmB "NoPlace" ["Full", "Gone", "NoBlock", "NoCut", "NoPlace", "Stopped"] true), .raw (exmB "NoBlock" ["Full", "Gone", "NoBlock", "NoCut", "NoPlace", "Stopped"] true), .raw (exmB "Gone" ["Full", "Gone", "NoBlock", "NoCut", "NoPlace", "Stopped"] true), .raw (exmB "Stopped" ["Full", "Gone", "NoBlock", "NoCut", "NoPlace", "Stopped"] true), .raw (exmB "Full" ["Full", "Gone", "NoBlock", "NoCut", "NoPlace", "Stopped"] true), .raw (kit1B "NoLoose" (.inl "Full") false), .raw (kit1B "NoCut" (.inl "Full") false), .raw (kit1B "NoPlace" (.inl "Full") false), .raw (kit1B "NoBlock" (.inl "Full") false), .raw (kit1B "Gone" (.inl "Full") false), .raw (kit1B "Stopped" (.inl "Full") false), .raw (kit1B "Full" (.inl "Full") true), .raw (kit1B "NoLoose" (.inr "OverflowError") false), .raw (kit1B "NoCut" (.inr "OverflowError") false), .raw (kit1B "NoPlace" (.inr "OverflowError") false), .raw (kit1B "NoBlock" (.inr "OverflowError") false), .raw (kit1B "Gone" (.inr "OverflowError") false), .raw (kit1B "Stopped" (.inr "OverflowError") false), .raw (kit1B "Full" (.inr "OverflowError") true), .raw (nofB "Full" "count"), .raw (kit1B "NoLoose" (.inl "Gone") false), .raw (kit1B "NoCut" (.inl "Gone") false), .raw (kit1B "NoPlace" (.inl "Gone") false), .raw (kit1B "NoBlock" (.inl "Gone") false), .raw (kit1B "Gone" (.inl "Gone") true), .raw (kit1B "Stopped" (.inl "Gone") false), .raw (kit1B "Full" (.inl "Gone") false), .raw (kit1B "NoLoose" (.inr "LookupError") false), .raw (kit1B "NoCut" (.inr "LookupError") false), .raw (kit1B "NoPlace" (.inr "LookupError") true), .raw (kit1B "NoBlock" (.inr "LookupError") true), .raw (kit1B "Gone" (.inr "LookupError") true), .raw (kit1B "Stopped" (.inr "LookupError") false), .raw (kit1B "Full" (.inr "LookupError") false), .raw (kitB "NoLoose" [.inl "NoBlock", .inl "NoPlace", .inr "KeyError", .inr "IndexError"] false), .raw (kitB "NoCut" [.inl "NoBlock", .inl "NoPlace", .inr "KeyError", .inr "IndexError"] false), .raw (kitB "NoPlace" [.inl "NoBlock", .inl "NoPlace", .inr "KeyError", .inr "IndexError"] true), .raw (kitB "NoBlock" [.inl "NoBlock", .inl "NoPlace", .inr "KeyError", .inr "IndexError"] true), .raw (kitB "Gone" [.inl "NoBlock", .inl "NoPlace", .inr "KeyError", .inr "IndexError"] false), .raw (kitB "Stopped" [.inl "NoBlock", .inl "NoPlace", .inr "KeyError", .inr "IndexError"] false), .raw (kitB "Full" [.inl "NoBlock", .inl "NoPlace", .inr "KeyError", .inr "IndexError"] false), .raw (nofB "Gone" "number"), .raw (nofB "NoLoose" "number"), .raw (kit1B "NoLoose" (.inl "NoCut") false), .raw (kit1B "NoCut" (.inl "NoCut") true), .raw (kit1B "NoPlace" (.inl "NoCut") false), .raw (kit1B "NoBlock" (.inl "NoCut") false), .raw (kit1B "Gone" (.inl "NoCut") false), .raw (kit1B "Stopped" (.inl "NoCut") false), .raw (kit1B "Full" (.inl "NoCut") false), .raw (kit1B "NoLoose" (.inr "ValueError") true), .raw (kit1B "NoCut" (.inr "ValueError") true), .raw (kit1B "NoPlace" (.inr "ValueError") false), .raw (kit1B "NoBlock" (.inr "ValueError") false), .raw (kit1B "Gone" (.inr "ValueError") false), .raw (kit1B "Stopped" (.inr "ValueError") false), .raw (kit1B "Full" (.inr "ValueError") false), .raw (nofB "NoCut" "block"), .raw (exiB "NoBlock" 1), .raw (nofB "NoBlock" "place"), .raw (exiB "Gone" 1), .raw (exiB "Stopped" 2), .raw (exiB "Full" 3), .raw (exiB "NoLoose" 0), .raw (exiB "NoCut" 0)]
def cn : Nat → Str
  | 0 => "Log"
  | 1 => "Disk"
  | 2 => "NoBlock"
  | 3 => "Gone"
  | 4 => "Stopped"
  | 5 => "Full"
  | 6 => "NoLoose"
  | 7 => "NoCut"
  | 8 => "NoPlace"
  | _ => "_"
abbrev tN (K : PySem.W.Frag) : Nat → Addr := fun i => He.ga K (cn i)
abbrev W (K : PySem.W.Frag) (mg : Str → Option Value) : Prop := Fx fa fn fc K mg
theorem n__lasting : ("_lasting" : Str) = nm 18375823401358583102693711332145945774615691359 := by decide +kernel
theorem n__shown : ("_shown" : Str) = nm 4462132414599151834275831881924703 := by decide +kernel
theorem n__loose : ("_loose" : Str) = nm 4097048964362169311339300488478815 := by decide +kernel
theorem n_hold : ("hold" : Str) = nm 922337678674733564008 := by decide +kernel
theorem n__writes : ("_writes" : Str) = nm 9783122146025964529499104918003653804127 := by decide +kernel
theorem n__left : ("_left" : Str) = nm 2243767261989143710365909087 := by decide +kernel
theorem n__count : ("_count" : Str) = nm 4705521155757709195119605160345695 := by decide +kernel
theorem n__next_block : ("_next_block" : Str) = nm 176069065312544551970550402127306593753578779473364670370858139743 := by decide +kernel
theorem n__safe : ("_safe" : Str) = nm 1953625065281615116265062495 := by decide +kernel
theorem n__records : ("_records" : Str) = nm 20516694089711970705211133144808195618838151263 := by decide +kernel
theorem n_place : ("place" : Str) = nm 1953625037611499005686055024 := by decide +kernel
theorem n__check_place : ("_check_place" : Str) = nm 348538353417950755963802525141600950949726012270321967488514151921221727 := by decide +kernel
theorem n__disk : ("_disk" : Str) = nm 2069682063868491180489572447 := by decide +kernel
theorem n__first : ("_first" : Str) = nm 4705521252471747094147440299737183 := by decide +kernel
theorem n__low_block : ("_low_block" : Str) = nm 83956272751114154801631165565160080792253879465911796105311 := by decide +kernel
theorem n__low : ("_low" : Str) = nm 1097581760569107546207 := by decide +kernel
theorem n_read : ("read" : Str) = nm 922337630296200970354 := by decide +kernel
theorem n__read : ("_read" : Str) = nm 1934282206050938457379831903 := by decide +kernel
theorem n__epoch : ("_epoch" : Str) = nm 4218743112499069512542313303244895 := by decide +kernel
theorem n_many : ("many" : Str) = nm 1116028500244747518061 := by decide +kernel
theorem n_number : ("number" : Str) = nm 4624391343257609244839718701498478 := by decide +kernel
theorem n_records : ("records" : Str) = nm 9783122105461106636624876568225953874034 := by decide +kernel
theorem n_room : ("room" : Str) = nm 1005348040200566079602 := by decide +kernel
theorem n_count : ("count" : Str) = nm 2243767335776190373954584675 := by decide +kernel
theorem n_write : ("write" : Str) = nm 1953625194408858816601915511 := by decide +kernel
theorem n_barrier : ("barrier" : Str) = nm 9698051554295517142772019439742610309218 := by decide +kernel
theorem n_safe : ("safe" : Str) = nm 931561024323279913075 := by decide +kernel
theorem n_epoch : ("epoch" : Str) = nm 2011653476953062778731495525 := by decide +kernel
theorem n_next_block : ("next_block" : Str) = nm 83956272751114154801631165565160080792226209389383635697774 := by decide +kernel
theorem n_flush : ("flush" : Str) = nm 2011653624527041756678586470 := by decide +kernel
theorem n_writes : ("writes" : Str) = nm 4664956162465078606366684397699191 := by decide +kernel
theorem n_append : ("append" : Str) = nm 4056484048440708167605101516554337 := by decide +kernel
theorem n_loose : ("loose" : Str) = nm 1953625185185513168019914860 := by decide +kernel
theorem n_fail_after : ("fail_after" : Str) = nm 89448737517867230812707293064732857783211392600279667966054 := by decide +kernel
theorem n_crash : ("crash" : Str) = nm 2011653624526953795760947299 := by decide +kernel
theorem n_block : ("block" : Str) = nm 2069681916294564979109003362 := by decide +kernel
theorem n_cut : ("cut" : Str) = nm 510173640654947 := by decide +kernel
section
variable {P : Program} {w : World} {K : PySem.W.Frag} {mg : Str → Option Value} {base : Heap}
theorem fk_Disk__lasting (F : W K mg) : FldOk K (tN K) [1] 18375823401358583102693711332145945774615691359 := fun c hc => by
  obtain rfl := List.mem_singleton.mp hc
  exact ⟨F.cls 4, by rw [← n__lasting]; exact F.noat 5⟩
theorem fk_Disk__shown (F : W K mg) : FldOk K (tN K) [1] 4462132414599151834275831881924703 := fun c hc => by
  obtain rfl := List.mem_singleton.mp hc
  exact ⟨F.cls 4, by rw [← n__shown]; exact F.noat 6⟩
theorem fk_Disk__loose (F : W K mg) : FldOk K (tN K) [1] 4097048964362169311339300488478815 := fun c hc => by
  obtain rfl := List.mem_singleton.mp hc
  exact ⟨F.cls 4, by rw [← n__loose]; exact F.noat 7⟩
theorem fk_Disk__writes (F : W K mg) : FldOk K (tN K) [1] 9783122146025964529499104918003653804127 := fun c hc => by
  obtain rfl := List.mem_singleton.mp hc
  exact ⟨F.cls 4, by rw [← n__writes]; exact F.noat 10⟩
theorem fk_Disk__left (F : W K mg) : FldOk K (tN K) [1] 2243767261989143710365909087 := fun c hc => by
  obtain rfl := List.mem_singleton.mp hc
  exact ⟨F.cls 4, by rw [← n__left]; exact F.noat 11⟩
theorem fk_Log__count (F : W K mg) : FldOk K (tN K) [0] 4705521155757709195119605160345695 := fun c hc => by
  obtain rfl := List.mem_singleton.mp hc
  exact ⟨F.cls 12, by rw [← n__count]; exact F.noat 13⟩
theorem fk_Log__next_block (F : W K mg) : FldOk K (tN K) [0] 176069065312544551970550402127306593753578779473364670370858139743 := fun c hc => by
  obtain rfl := List.mem_singleton.mp hc
  exact ⟨F.cls 12, by rw [← n__next_block]; exact F.noat 15⟩
theorem fk_Log__safe (F : W K mg) : FldOk K (tN K) [0] 1953625065281615116265062495 := fun c hc => by
  obtain rfl := List.mem_singleton.mp hc
  exact ⟨F.cls 12, by rw [← n__safe]; exact F.noat 16⟩
theorem fk_Log__records (F : W K mg) : FldOk K (tN K) [0] 20516694089711970705211133144808195618838151263 := fun c hc => by
  obtain rfl := List.mem_singleton.mp hc
  exact ⟨F.cls 12, by rw [← n__records]; exact F.noat 18⟩
theorem fk_Log__disk (F : W K mg) : FldOk K (tN K) [0] 2069682063868491180489572447 := fun c hc => by
  obtain rfl := List.mem_singleton.mp hc
  exact ⟨F.cls 12, by rw [← n__disk]; exact F.noat 30⟩
theorem fk_Log__first (F : W K mg) : FldOk K (tN K) [0] 4705521252471747094147440299737183 := fun c hc => by
  obtain rfl := List.mem_singleton.mp hc
  exact ⟨F.cls 12, by rw [← n__first]; exact F.noat 31⟩
theorem fk_Log__low_block (F : W K mg) : FldOk K (tN K) [0] 83956272751114154801631165565160080792253879465911796105311 := fun c hc => by
  obtain rfl := List.mem_singleton.mp hc
  exact ⟨F.cls 12, by rw [← n__low_block]; exact F.noat 32⟩
theorem fk_Log__low (F : W K mg) : FldOk K (tN K) [0] 1097581760569107546207 := fun c hc => by
  obtain rfl := List.mem_singleton.mp hc
  exact ⟨F.cls 12, by rw [← n__low]; exact F.noat 33⟩
theorem fk_Log__epoch (F : W K mg) : FldOk K (tN K) [0] 4218743112499069512542313303244895 := fun c hc => by
  obtain rfl := List.mem_singleton.mp hc
  exact ⟨F.cls 12, by rw [← n__epoch]; exact F.noat 38⟩
end
end K47
set_option Elab.async false
set_option linter.all false
set_option maxRecDepth 100000
set_option maxHeartbeats 8000000
namespace K47
open PySem PySem.Spec PyProof.Rows L2 JB MI
section
variable {P : Program} {w : World} {K : PySem.W.Frag} {mg : Str → Option Value} {base : Heap}
theorem er_NoBlock (F : W K mg) : ErK P w K mg base "NoBlock" (tN K 2) 1 (spE1 (tN K 2) "place") := by
  obtain ⟨fd, D⟩ := F.c.def_ 36 (d := d_NoBlock___init) rfl
  have iz := exi_of (k := 1) (F.extra 82 (f := .raw (exiB "NoBlock" 1)))
  have T := exk_of (k := 1) (F.extra 14 (f := .raw (exkB "NoBlock" 1)))
  have n0 := nof_of (F.extra 83 (f := .raw (nofB "NoBlock" "place")))
  refine ⟨⟨_, _, _, _, He.fAd K d_NoBlock___init.at_, fd, ["self", "place"], bB_ok 1, T, iz.1, iz.2.1, FnG.of (D.ok (CX := CX0) (k := 0) (N := ["self", "place"]) ⟨rfl, rfl, rfl, by decide +kernel, rfl, by decide +kernel, by decide +kernel⟩ (fun vs H Q E h => ?_) (fun cdv A outer s H vs Q E hr h => ?_)), D.bindsN (fun _ _ _ _ _ _ us hl => match us, hl with | [_, _], _ => rfl), rfl⟩, F.glo 28⟩
  · obtain ⟨a, v, rfl, _⟩ := h; rfl
  · obtain ⟨a, v, rfl, ha, hv, hq⟩ := h
    refine ⟨_, pss_cons (ps_expr (pe_bin (bB_ok 1) (by rfl) (F.free 71) (by decide +kernel) (tyErr 1) (stErr 1) iz.2.2 (hdErr 1) (pa_cons (pv 0) (pa_cons (pe_joined (.cons pe_str (.cons (pe_fmt (pv 1)) (.nil)))) pa_nil)))) (pss_one (ps_setE (pv 0) (pv 1))), ?_⟩
    refine ⟨_, rfl, ?_⟩
    have l0 := lenPlus lenNone (b := Str.ofString "the disk has no block ") (m := 400) (by decide +kernel)
    refine ⟨_, rfl, lenLine l0, ?_⟩
    refine ⟨_, rfl, show_shortV hv fun y1 z1 => ?_⟩
    have l1 := lenPlus l0 z1
    refine ⟨_, rfl, lenLine l1, ?_⟩
    refine ⟨a, _, _, rfl, (by show 1 ≤ 1000; decide), T, ha, ?_⟩
    refine ⟨_, rfl, _, rfl, a, _, rfl, isEx_of (k := 1) (F.extra 14 (f := .raw (exkB "NoBlock" 1))), n0, .inl ⟨ha, fun dx m1 m2 => ?_⟩⟩
    exact hq dx m1 m2
theorem er_Gone (F : W K mg) : ErK P w K mg base "Gone" (tN K 3) 1 (spE1 (tN K 3) "number") := by
  obtain ⟨fd, D⟩ := F.c.def_ 37 (d := d_Gone___init) rfl
  have iz := exi_of (k := 1) (F.extra 84 (f := .raw (exiB "Gone" 1)))
  have T := exk_of (k := 1) (F.extra 16 (f := .raw (exkB "Gone" 1)))
  have n0 := nof_of (F.extra 65 (f := .raw (nofB "Gone" "number")))
  refine ⟨⟨_, _, _, _, He.fAd K d_Gone___init.at_, fd, ["self", "number"], bB_ok 1, T, iz.1, iz.2.1, FnG.of (D.ok (CX := CX0) (k := 0) (N := ["self", "number"]) ⟨rfl, rfl, rfl, by decide +kernel, rfl, by decide +kernel, by decide +kernel⟩ (fun vs H Q E h => ?_) (fun cdv A outer s H vs Q E hr h => ?_)), D.bindsN (fun _ _ _ _ _ _ us hl => match us, hl with | [_, _], _ => rfl), rfl⟩, F.glo 41⟩
  · obtain ⟨a, v, rfl, _⟩ := h; rfl
  · obtain ⟨a, v, rfl, ha, hv, hq⟩ := h
    refine ⟨_, pss_cons (ps_expr (pe_bin (bB_ok 1) (by rfl) (F.free 71) (by decide +kernel) (tyErr 1) (stErr 1) iz.2.2 (hdErr 1) (pa_cons (pv 0) (pa_cons (pe_joined (.cons pe_str (.cons (pe_fmt (pv 1)) (.cons pe_str (.nil))))) pa_nil)))) (pss_one (ps_setE (pv 0) (pv 1))), ?_⟩
    refine ⟨_, rfl, ?_⟩
    have l0 := lenPlus lenNone (b := Str.ofString "the log does not have the RECORDs from ") (m := 400) (by decide +kernel)
    refine ⟨_, rfl, lenLine l0, ?_⟩
    refine ⟨_, rfl, show_shortV hv fun y1 z1 => ?_⟩
    have l1 := lenPlus l0 z1
    refine ⟨_, rfl, lenLine l1, ?_⟩
    have l2 := lenPlus l1 (b := Str.ofString " on") (m := 400) (by decide +kernel)
    refine ⟨_, rfl, lenLine l2, ?_⟩
    refine ⟨a, _, _, rfl, (by show 1 ≤ 1000; decide), T, ha, ?_⟩
    refine ⟨_, rfl, _, rfl, a, _, rfl, isEx_of (k := 1) (F.extra 16 (f := .raw (exkB "Gone" 1))), n0, .inl ⟨ha, fun dx m1 m2 => ?_⟩⟩
    exact hq dx m1 m2
theorem er_Stopped (F : W K mg) : ErK P w K mg base "Stopped" (tN K 4) 0 (spE0 (tN K 4)) := by
  obtain ⟨fd, D⟩ := F.c.def_ 38 (d := d_Stopped___init) rfl
  have iz := exi_of (k := 2) (F.extra 85 (f := .raw (exiB "Stopped" 2)))
  have T := exk_of (k := 2) (F.extra 18 (f := .raw (exkB "Stopped" 2)))
  refine ⟨⟨_, _, _, _, He.fAd K d_Stopped___init.at_, fd, ["self"], bB_ok 2, T, iz.1, iz.2.1, FnG.of (D.ok (CX := CX0) (k := 0) (N := ["self"]) ⟨rfl, rfl, rfl, by decide +kernel, rfl, by decide +kernel, by decide +kernel⟩ (fun vs H Q E h => ?_) (fun cdv A outer s H vs Q E hr h => ?_)), D.bindsN (fun _ _ _ _ _ _ us hl => match us, hl with | [_], _ => rfl), rfl⟩, F.glo 43⟩
  · obtain ⟨a, rfl, _⟩ := h; rfl
  · obtain ⟨a, rfl, ha, hq⟩ := h
    exact ⟨_, pss_one (ps_expr (pe_bin (bB_ok 2) (by rfl) (F.free 81) (by decide +kernel) (tyErr 2) (stErr 2) iz.2.2 (hdErr 2) (pa_cons (pv 0) (pa_cons pe_str pa_nil)))), ⟨_, rfl, a, _, _, rfl, (by show 1 ≤ 1000; decide), T, ha, hq⟩⟩
theorem er_Full (F : W K mg) : ErK P w K mg base "Full" (tN K 5) 1 (spE1 (tN K 5) "count") := by
  obtain ⟨fd, D⟩ := F.c.def_ 39 (d := d_Full___init) rfl
  have iz := exi_of (k := 3) (F.extra 86 (f := .raw (exiB "Full" 3)))
  have T := exk_of (k := 3) (F.extra 20 (f := .raw (exkB "Full" 3)))
  have n0 := nof_of (F.extra 43 (f := .raw (nofB "Full" "count")))
  refine ⟨⟨_, _, _, _, He.fAd K d_Full___init.at_, fd, ["self", "count"], bB_ok 3, T, iz.1, iz.2.1, FnG.of (D.ok (CX := CX0) (k := 0) (N := ["self", "count"]) ⟨rfl, rfl, rfl, by decide +kernel, rfl, by decide +kernel, by decide +kernel⟩ (fun vs H Q E h => ?_) (fun cdv A outer s H vs Q E hr h => ?_)), D.bindsN (fun _ _ _ _ _ _ us hl => match us, hl with | [_, _], _ => rfl), rfl⟩, F.glo 50⟩
  · obtain ⟨a, v, rfl, _⟩ := h; rfl
  · obtain ⟨a, v, rfl, ha, hv, hq⟩ := h
    refine ⟨_, pss_cons (ps_expr (pe_bin (bB_ok 3) (by rfl) (F.free 70) (by decide +kernel) (tyErr 3) (stErr 3) iz.2.2 (hdErr 3) (pa_cons (pv 0) (pa_cons (pe_joined (.cons (pe_fmt (pv 1)) (.cons pe_str (.nil)))) pa_nil)))) (pss_one (ps_setE (pv 0) (pv 1))), ?_⟩
    refine ⟨_, rfl, ?_⟩
    refine ⟨_, rfl, show_shortV hv fun y0 z0 => ?_⟩
    have l0 := lenPlus lenNone z0
    refine ⟨_, rfl, lenLine l0, ?_⟩
    have l1 := lenPlus l0 (b := Str.ofString " blocks are too few") (m := 400) (by decide +kernel)
    refine ⟨_, rfl, lenLine l1, ?_⟩
    refine ⟨a, _, _, rfl, (by show 1 ≤ 1000; decide), T, ha, ?_⟩
    refine ⟨_, rfl, _, rfl, a, _, rfl, isEx_of (k := 3) (F.extra 20 (f := .raw (exkB "Full" 3))), n0, .inl ⟨ha, fun dx m1 m2 => ?_⟩⟩
    exact hq dx m1 m2
theorem er_NoLoose (F : W K mg) : ErK P w K mg base "NoLoose" (tN K 6) 1 (spE1 (tN K 6) "number") := by
  obtain ⟨fd, D⟩ := F.c.def_ 40 (d := d_NoLoose___init) rfl
  have iz := exi_of (k := 0) (F.extra 87 (f := .raw (exiB "NoLoose" 0)))
  have T := exk_of (k := 0) (F.extra 8 (f := .raw (exkB "NoLoose" 0)))
  have n0 := nof_of (F.extra 66 (f := .raw (nofB "NoLoose" "number")))
  refine ⟨⟨_, _, _, _, He.fAd K d_NoLoose___init.at_, fd, ["self", "number"], bB_ok 0, T, iz.1, iz.2.1, FnG.of (D.ok (CX := CX0) (k := 0) (N := ["self", "number"]) ⟨rfl, rfl, rfl, by decide +kernel, rfl, by decide +kernel, by decide +kernel⟩ (fun vs H Q E h => ?_) (fun cdv A outer s H vs Q E hr h => ?_)), D.bindsN (fun _ _ _ _ _ _ us hl => match us, hl with | [_, _], _ => rfl), rfl⟩, F.glo 64⟩
  · obtain ⟨a, v, rfl, _⟩ := h; rfl
  · obtain ⟨a, v, rfl, ha, hv, hq⟩ := h
    refine ⟨_, pss_cons (ps_expr (pe_bin (bB_ok 0) (by rfl) (F.free 74) (by decide +kernel) (tyErr 0) (stErr 0) iz.2.2 (hdErr 0) (pa_cons (pv 0) (pa_cons (pe_joined (.cons pe_str (.cons (pe_fmt (pv 1)) (.nil)))) pa_nil)))) (pss_one (ps_setE (pv 0) (pv 1))), ?_⟩
    refine ⟨_, rfl, ?_⟩
    have l0 := lenPlus lenNone (b := Str.ofString "there is no loose write ") (m := 400) (by decide +kernel)
    refine ⟨_, rfl, lenLine l0, ?_⟩
    refine ⟨_, rfl, show_shortV hv fun y1 z1 => ?_⟩
    have l1 := lenPlus l0 z1
    refine ⟨_, rfl, lenLine l1, ?_⟩
    refine ⟨a, _, _, rfl, (by show 1 ≤ 1000; decide), T, ha, ?_⟩
    refine ⟨_, rfl, _, rfl, a, _, rfl, isEx_of (k := 0) (F.extra 8 (f := .raw (exkB "NoLoose" 0))), n0, .inl ⟨ha, fun dx m1 m2 => ?_⟩⟩
    exact hq dx m1 m2
theorem er_NoCut (F : W K mg) : ErK P w K mg base "NoCut" (tN K 7) 1 (spE1 (tN K 7) "block") := by
  obtain ⟨fd, D⟩ := F.c.def_ 41 (d := d_NoCut___init) rfl
  have iz := exi_of (k := 0) (F.extra 88 (f := .raw (exiB "NoCut" 0)))
  have T := exk_of (k := 0) (F.extra 10 (f := .raw (exkB "NoCut" 0)))
  have n0 := nof_of (F.extra 81 (f := .raw (nofB "NoCut" "block")))
  refine ⟨⟨_, _, _, _, He.fAd K d_NoCut___init.at_, fd, ["self", "block"], bB_ok 0, T, iz.1, iz.2.1, FnG.of (D.ok (CX := CX0) (k := 0) (N := ["self", "block"]) ⟨rfl, rfl, rfl, by decide +kernel, rfl, by decide +kernel, by decide +kernel⟩ (fun vs H Q E h => ?_) (fun cdv A outer s H vs Q E hr h => ?_)), D.bindsN (fun _ _ _ _ _ _ us hl => match us, hl with | [_, _], _ => rfl), rfl⟩, F.glo 67⟩
  · obtain ⟨a, v, rfl, _⟩ := h; rfl
  · obtain ⟨a, v, rfl, ha, hv, hq⟩ := h
    refine ⟨_, pss_cons (ps_expr (pe_bin (bB_ok 0) (by rfl) (F.free 74) (by decide +kernel) (tyErr 0) (stErr 0) iz.2.2 (hdErr 0) (pa_cons (pv 0) (pa_cons (pe_joined (.cons pe_str (.cons (pe_fmt (pv 1)) (.nil)))) pa_nil)))) (pss_one (ps_setE (pv 0) (pv 1))), ?_⟩
    refine ⟨_, rfl, ?_⟩
    have l0 := lenPlus lenNone (b := Str.ofString "the log cannot be cut at block ") (m := 400) (by decide +kernel)
    refine ⟨_, rfl, lenLine l0, ?_⟩
    refine ⟨_, rfl, show_shortV hv fun y1 z1 => ?_⟩
    have l1 := lenPlus l0 z1
    refine ⟨_, rfl, lenLine l1, ?_⟩
    refine ⟨a, _, _, rfl, (by show 1 ≤ 1000; decide), T, ha, ?_⟩
    refine ⟨_, rfl, _, rfl, a, _, rfl, isEx_of (k := 0) (F.extra 10 (f := .raw (exkB "NoCut" 0))), n0, .inl ⟨ha, fun dx m1 m2 => ?_⟩⟩
    exact hq dx m1 m2
def b_law_take : MS := gSeq (gIfS (gB (gBin mGtI (gBin mIx (gVar 0) (gC (.int 0))) (gC (.int 0)))) (gSeq (gAsg (gBin mMod (gBin mIx (gVar 0) (gC (.int 0))) (gVar 1)) (tgName 3)) (gSeq (gAsg (gBin mDiv (gBin mIx (gVar 0) (gC (.int 0))) (gVar 1)) (tgSub (gVar 0) (gC (.int 0)))) (gRet (gVar 3)))) (gNext)) (gSeq (gPar 5 2 (gCons (gBin mIx (gVar 0) (gC (.int 1))) (gCons (gBin mAdd (gBin mIx (gVar 0) (gC (.int 2))) (gC (.int 1))) (gNil)))) (gSeq (gAsg (gVar 2) (tgSub (gVar 0) (gC (.int 2)))) (gSeq (gAsg (gBin mMod (gBin mMulA (gBin mAdd (gVar 5) (gBin mMulA (gC (.int 48271)) (gVar 2))) (gBin mAdd (gC (.int 39373)) (gVar 2))) (gC (.int 2147483647))) (tgName 4)) (gSeq (gAsg (gBin mMod (gBin mMulA (gBin mAdd (gBin mAdd (gVar 4) (gVar 2)) (gBin mDiv (gVar 5) (gC (.int 1000003)))) (gBin mAdd (gBin mMod (gVar 4) (gC (.int 40009))) (gC (.int 7)))) (gC (.int 2147483629))) (tgName 6)) (gRet (gBin mMod (gBin mDiv (gBin mMod (gBin mAdd (gBin mMulA (gVar 6) (gC (.int 48271))) (gVar 4)) (gC (.int 2147483587))) (gC (.int 64))) (gVar 1)))))))
def m_law_take : MF := gBody 7 b_law_take
theorem sc_law_take : FnScope ["_law_box_here", "_law_below", "_law_far", "_law_found", "_law_once", "_law_seed", "_law_twice"] ["_law_box_here", "_law_below"] (defScope s_law_take) :=
  ⟨rfl, rfl, rfl, by decide +kernel, rfl, by decide +kernel, by decide +kernel⟩
theorem fn_law_take (F : W K mg) {fd : FuncData} (D : FunD K d_law_take.name d_law_take.qual d_law_take.params d_law_take.body d_law_take.scope (d_law_take.dvs K) (d_law_take.kws K) (He.fAd K d_law_take.at_) fd) :
    FnG P w K mg base (L2.CX P w) 1 (He.fAd K d_law_take.at_) fd ["_law_box_here", "_law_below"] (spM ⟨K, tN K⟩ 2 m_law_take) :=
  def_MD D sc_law_take b_law_take fun cdv A outer s H E hs hr => by
    have sc := sc_law_take
    exact js_cons (js_if (jt_gt (je_ix (hu_of hr) (je_var (pv 0)) (je_int)) (je_int)) (js_cons (js_set (i := 3) sc.nd rfl (Or.inl rfl) (je_mod (je_ix (hu_of hr) (je_var (pv 0)) (je_int)) (je_var (pv 1)))) (js_cons (js_asg (je_div (je_ix (hu_of hr) (je_var (pv 0)) (je_int)) (je_var (pv 1))) (jg_sub (hu_of hr) (je_var (pv 0)) (je_int))) (js_one (js_ret (je_var (pv 3)))))) (js_nil)) (js_cons (js_par (i := 5) (j := 2) rfl sc.nd rfl rfl (by decide) rfl rfl (ja_cons (je_ix (hu_of hr) (je_var (pv 0)) (je_int)) (ja_cons (je_add (je_ix (hu_of hr) (je_var (pv 0)) (je_int)) (je_int)) (ja_nil)))) (js_cons (js_asg (je_var (pv 2)) (jg_sub (hu_of hr) (je_var (pv 0)) (je_int))) (js_cons (js_set (i := 4) sc.nd rfl (Or.inl rfl) (je_mod (je_mulA (je_add (je_var (pv 5)) (je_mulA (je_int) (je_var (pv 2)))) (je_add (je_int) (je_var (pv 2)))) (je_int))) (js_cons (js_set (i := 6) sc.nd rfl (Or.inl rfl) (je_mod (je_mulA (je_add (je_add (je_var (pv 4)) (je_var (pv 2))) (je_div (je_var (pv 5)) (je_int))) (je_add (je_mod (je_var (pv 4)) (je_int)) (je_int))) (je_int))) (js_one (js_ret (je_mod (je_div (je_mod (je_add (je_mulA (je_var (pv 6)) (je_int)) (je_var (pv 4))) (je_int)) (je_int)) (je_var (pv 1)))))))))
theorem ok_law_take (F : W K mg) : FM P w K mg base (tN K) 1 (He.fAd K d_law_take.at_) 2 [] m_law_take := by
  obtain ⟨fd, D⟩ := F.c.def_ 0 (d := d_law_take) rfl
  exact FM.of0 (ps := ["_law_box_here", "_law_below"]) D (fn_law_take F D) rfl (fun _ _ _ _ _ _ us hl => match us, hl with | [_, _], _ => rfl)
def b_law_box : MS := gSeq (gAsg (gBin mIx (gVar 0) (gVar 1)) (tgName 2)) (gRet (gLst (gCons (gBin mMulA (gCB (f1 mAbs) (gCons (gVar 2) (gNil))) (gCB (f1 mInt) (gCons (gBin mGeI (gCB (f1 mAbs) (gCons (gVar 2) (gNil))) (gBin mPow (gC (.int 10)) (gC (.int 18)))) (gNil)))) (gCons (gBin mAdd (gBin mAdd (gBin mMod (gVar 2) (gC (.int 2305843009213693951))) (gBin mMulA (gC (.int 7919)) (gVar 1))) (gC (.int 61))) (gCons (gC (.int 0)) (gNil))))))
def m_law_box : MF := gBody 3 b_law_box
theorem sc_law_box : FnScope ["_law_cells", "_law_k", "_law_cell"] ["_law_cells", "_law_k"] (defScope s_law_box) :=
  ⟨rfl, rfl, rfl, by decide +kernel, rfl, by decide +kernel, by decide +kernel⟩
theorem fn_law_box (F : W K mg) {fd : FuncData} (D : FunD K d_law_box.name d_law_box.qual d_law_box.params d_law_box.body d_law_box.scope (d_law_box.dvs K) (d_law_box.kws K) (He.fAd K d_law_box.at_) fd) :
    FnG P w K mg base (L2.CX P w) 1 (He.fAd K d_law_box.at_) fd ["_law_cells", "_law_k"] (spM ⟨K, tN K⟩ 2 m_law_box) :=
  def_MD D sc_law_box b_law_box fun cdv A outer s H E hs hr => by
    have sc := sc_law_box
    exact js_cons (js_set (i := 2) sc.nd rfl (Or.inl rfl) (je_ix (hu_of hr) (je_var (pv 0)) (je_var (pv 1)))) (js_one (js_ret (je_lst (ja_cons (je_mulA (je_callB call_abs mc_abs (by rfl) (F.free 1) PyProof.Rows.boot_abs (ja_cons (je_var (pv 2)) (ja_nil))) (je_callT call_int1 mc_int (by rfl) (F.free 2) PyProof.Rows.boot_int (ja_cons (je_ge (je_callB call_abs mc_abs (by rfl) (F.free 1) PyProof.Rows.boot_abs (ja_cons (je_var (pv 2)) (ja_nil))) (je_pow (je_int) (je_int))) (ja_nil)))) (ja_cons (je_add (je_add (je_mod (je_var (pv 2)) (je_int)) (je_mulA (je_int) (je_var (pv 1)))) (je_int)) (ja_cons (je_int) (ja_nil)))))))
theorem ok_law_box (F : W K mg) : FM P w K mg base (tN K) 1 (He.fAd K d_law_box.at_) 2 [] m_law_box := by
  obtain ⟨fd, D⟩ := F.c.def_ 1 (d := d_law_box) rfl
  exact FM.of0 (ps := ["_law_cells", "_law_k"]) D (fn_law_box F D) rfl (fun _ _ _ _ _ _ us hl => match us, hl with | [_, _], _ => rfl)
def b_Disk_hold : MS := gSeq (gFldS [1] 18375823401358583102693711332145945774615691359 (gCB (f1 mList) (gCons (gVar 1) (gNil))) (gVar 0)) (gSeq (gFldS [1] 4462132414599151834275831881924703 (gCB (f1 mList) (gCons (gVar 1) (gNil))) (gVar 0)) (gFldS [1] 4097048964362169311339300488478815 (gLst (gNil)) (gVar 0)))
def m_Disk_hold : MF := gBody 2 b_Disk_hold
theorem sc_Disk_hold : FnScope ["self", "blocks"] ["self", "blocks"] (defScope s_Disk_hold) :=
  ⟨rfl, rfl, rfl, by decide +kernel, rfl, by decide +kernel, by decide +kernel⟩
theorem fn_Disk_hold (F : W K mg) {fd : FuncData} (D : FunD K d_Disk_hold.name d_Disk_hold.qual d_Disk_hold.params d_Disk_hold.body d_Disk_hold.scope (d_Disk_hold.dvs K) (d_Disk_hold.kws K) (He.fAd K d_Disk_hold.at_) fd) :
    FnG P w K mg base (L2.CX P w) 1 (He.fAd K d_Disk_hold.at_) fd ["self", "blocks"] (spM ⟨K, tN K⟩ 2 m_Disk_hold) :=
  def_MD D sc_Disk_hold b_Disk_hold fun cdv A outer s H E hs hr => by
    have sc := sc_Disk_hold
    exact js_cons (js_fld (je_var (pv 0)) (je_callT call_list_of mc_list (by rfl) (F.free 3) PyProof.Rows.boot_list (ja_cons (je_var (pv 1)) (ja_nil))) (fk_Disk__lasting F) n__lasting) (js_cons (js_fld (je_var (pv 0)) (je_callT call_list_of mc_list (by rfl) (F.free 3) PyProof.Rows.boot_list (ja_cons (je_var (pv 1)) (ja_nil))) (fk_Disk__shown F) n__shown) (js_one (js_fld (je_var (pv 0)) (je_lst (ja_nil)) (fk_Disk__loose F) n__loose)))
theorem ok_Disk_hold (F : W K mg) : FM P w K mg base (tN K) 1 (He.fAd K d_Disk_hold.at_) 2 [] m_Disk_hold := by
  obtain ⟨fd, D⟩ := F.c.def_ 2 (d := d_Disk_hold) rfl
  exact FM.of0 (ps := ["self", "blocks"]) D (fn_Disk_hold F D) rfl (fun _ _ _ _ _ _ us hl => match us, hl with | [_, _], _ => rfl)
def b_Disk___init : MS := gSeq (gExpr (gMeth 1 922337678674733564008 m_Disk_hold [] 2 (gVar 0) (gCons (gBin mMulA (gLst (gCons (gTup (gNil)) (gNil))) (gVar 1)) (gNil)))) (gSeq (gFldS [1] 9783122146025964529499104918003653804127 (gC (.int 0)) (gVar 0)) (gFldS [1] 2243767261989143710365909087 (gC .non) (gVar 0)))
def m_Disk___init : MF := gBody 2 b_Disk___init
theorem sc_Disk___init : FnScope ["self", "size"] ["self", "size"] (defScope s_Disk___init) :=
  ⟨rfl, rfl, rfl, by decide +kernel, rfl, by decide +kernel, by decide +kernel⟩
theorem fn_Disk___init (F : W K mg) {fd : FuncData} (D : FunD K d_Disk___init.name d_Disk___init.qual d_Disk___init.params d_Disk___init.body d_Disk___init.scope (d_Disk___init.dvs K) (d_Disk___init.kws K) (He.fAd K d_Disk___init.at_) fd) :
    FnG P w K mg base (L2.CX P w) 2 (He.fAd K d_Disk___init.at_) fd ["self", "size"] (spM ⟨K, tN K⟩ 2 m_Disk___init) :=
  def_MD D sc_Disk___init b_Disk___init fun cdv A outer s H E hs hr => by
    have sc := sc_Disk___init
    exact js_cons (js_expr (je_meth (c := 1) (ok_Disk_hold F) (F.cls 4) (F.meth 9) n_hold hs (hr.mono (by decide)) pass_M (je_var (pv 0)) (ja_cons (je_mulA (je_lst (ja_cons (je_tup (ja_nil)) (ja_nil))) (je_var (pv 1))) (ja_nil)))) (js_cons (js_fld (je_var (pv 0)) (je_int) (fk_Disk__writes F) n__writes) (js_one (js_fld (je_var (pv 0)) (je_non) (fk_Disk__left F) n__left)))
theorem ok_Disk___init (F : W K mg) : FM P w K mg base (tN K) 2 (He.fAd K d_Disk___init.at_) 2 [] m_Disk___init := by
  obtain ⟨fd, D⟩ := F.c.def_ 3 (d := d_Disk___init) rfl
  exact FM.of0 (ps := ["self", "size"]) D (fn_Disk___init F D) rfl (fun _ _ _ _ _ _ us hl => match us, hl with | [_, _], _ => rfl)
def b_Log__read : MS := gFor (gRng1 (gFld [0] 4705521155757709195119605160345695 (gVar 0))) (tgName 3) (gSeq (gAsg (gBin mIx (gVar 1) (gBin mMod (gFld [0] 176069065312544551970550402127306593753578779473364670370858139743 (gVar 0)) (gFld [0] 4705521155757709195119605160345695 (gVar 0)))) (tgName 7)) (gSeq (gIfS (gB (gIsN (gVar 7))) (gRetN) (gNext)) (gSeq (gAsg (gVar 7) (tgTup [6, 4, 5, 8])) (gSeq (gIfS (gOr (gB (gBin mNeX (gVar 6) (gFld [0] 176069065312544551970550402127306593753578779473364670370858139743 (gVar 0)))) (gOr (gB (gBin mNeX (gVar 5) (gFld [0] 1953625065281615116265062495 (gVar 0)))) (gB (gBin mLtI (gVar 4) (gVar 2))))) (gRetN) (gNext)) (gSeq (gAsg (gVar 4) (tgName 2)) (gSeq (gFldAug [0] 176069065312544551970550402127306593753578779473364670370858139743 (fun i j => i + j) (gVar 0) (gC (.int 1))) (gSeq (gFldAug [0] 1953625065281615116265062495 (fun i j => i + j) (gVar 0) (gCB (f1 mLenV) (gCons (gVar 8) (gNil)))) (gExpr (gBM "list" lExtA (gFld [0] 20516694089711970705211133144808195618838151263 (gVar 0)) (gCons (gVar 8) (gNil)))))))))))
def m_Log__read : MF := gBody 9 b_Log__read
theorem sc_Log__read : FnScope ["self", "ring", "floor", "_", "epoch", "first", "number", "parts", "records"] ["self", "ring", "floor"] (defScope s_Log__read) :=
  ⟨rfl, rfl, rfl, by decide +kernel, rfl, by decide +kernel, by decide +kernel⟩
theorem fn_Log__read (F : W K mg) {fd : FuncData} (D : FunD K d_Log__read.name d_Log__read.qual d_Log__read.params d_Log__read.body d_Log__read.scope (d_Log__read.dvs K) (d_Log__read.kws K) (He.fAd K d_Log__read.at_) fd) :
    FnG P w K mg base (L2.CX P w) 1 (He.fAd K d_Log__read.at_) fd ["self", "ring", "floor"] (spM ⟨K, tN K⟩ 3 m_Log__read) :=
  def_MD D sc_Log__read b_Log__read fun cdv A outer s H E hs hr => by
    have sc := sc_Log__read
    exact js_one (js_for own_M rfl (ji_range1 (by rfl) (F.free 14) (je_fld (je_var (pv 0)) (fk_Log__count F) n__count)) (jg_name (pg_name (i := 3) sc.nd rfl (Or.inl rfl))) (js_cons (js_set (i := 7) sc.nd rfl (Or.inl rfl) (je_ix (hu_of hr) (je_var (pv 1)) (je_mod (je_fld (je_var (pv 0)) (fk_Log__next_block F) n__next_block) (je_fld (je_var (pv 0)) (fk_Log__count F) n__count)))) (js_cons (js_if (jt_isN (je_var (pv 7))) (js_one (js_retN)) (js_nil)) (js_cons (js_asg (je_var (pv 7)) (jg_tup (is := [6, 4, 5, 8]) rfl (pgs_more (pg_name (i := 6) sc.nd rfl (Or.inl rfl)) (pgs_more (pg_name (i := 4) sc.nd rfl (Or.inl rfl)) (pgs_more (pg_name (i := 5) sc.nd rfl (Or.inl rfl)) (pgs_more (pg_name (i := 8) sc.nd rfl (Or.inl rfl)) (pgs_names))))))) (js_cons (js_if (PW.pt (jw_or (jt_neF hr.units (je_var (pv 6)) (je_fld (je_var (pv 0)) (fk_Log__next_block F) n__next_block)) (jw_or (jt_neF hr.units (je_var (pv 5)) (je_fld (je_var (pv 0)) (fk_Log__safe F) n__safe)) (jw_or1 (jt_lt (je_var (pv 4)) (je_var (pv 2))))))) (js_one (js_retN)) (js_nil)) (js_cons (js_set (i := 2) sc.nd rfl (Or.inl rfl) (je_var (pv 4))) (js_cons (js_fldaug (je_var (pv 0)) (je_int) (fk_Log__next_block F) n__next_block aug_add) (js_cons (js_fldaug (je_var (pv 0)) (je_callB call_lenM mc_len (by rfl) (F.free 17) PySem.boot_len (ja_cons (je_var (pv 8)) (ja_nil))) (fk_Log__safe F) n__safe aug_add) (js_one (js_expr (je_bm PySem.F.plainAttrs_list PySem.F.slot_list_extend PySem.F.type_list_extend mt_extA mm_extA (je_fld (je_var (pv 0)) (fk_Log__records F) n__records) (ja_cons (je_var (pv 8)) (ja_nil)))))))))))))
theorem ok_Log__read (F : W K mg) : FM P w K mg base (tN K) 1 (He.fAd K d_Log__read.at_) 3 [] m_Log__read := by
  obtain ⟨fd, D⟩ := F.c.def_ 4 (d := d_Log__read) rfl
  exact FM.of0 (ps := ["self", "ring", "floor"]) D (fn_Log__read F D) rfl (fun _ _ _ _ _ _ us hl => match us, hl with | [_, _, _], _ => rfl)
def b_is_count : MS := gRet (gAndT (gUn (mIsTy [("NoneType", false), ("bool", true), ("int", true), ("str", false), ("tuple", false), ("list", false), ("dict", false)]) (gVar 0)) (gBin mGeI (gVar 0) (gC (.int 0))))
def m_is_count : MF := gBody 1 b_is_count
theorem sc_is_count : FnScope ["atom"] ["atom"] (defScope s_is_count) :=
  ⟨rfl, rfl, rfl, by decide +kernel, rfl, by decide +kernel, by decide +kernel⟩
theorem fn_is_count (F : W K mg) {fd : FuncData} (D : FunD K d_is_count.name d_is_count.qual d_is_count.params d_is_count.body d_is_count.scope (d_is_count.dvs K) (d_is_count.kws K) (He.fAd K d_is_count.at_) fd) :
    FnG P w K mg base (L2.CX P w) 1 (He.fAd K d_is_count.at_) fd ["atom"] (spM ⟨K, tN K⟩ 1 m_is_count) :=
  def_MD D sc_is_count b_is_count fun cdv A outer s H E hs hr => by
    have sc := sc_is_count
    exact js_one (js_ret (je_andT (je_isTy (c := "int") (by rfl) (F.free 20) (by decide +kernel) (je_var (pv 0)) (pe_bltn (v := .ty "int") (by rfl) (F.free 2) (by decide +kernel) rfl)) (je_one (je_ge (je_var (pv 0)) (je_int)))))
theorem ok_is_count (F : W K mg) : FM P w K mg base (tN K) 1 (He.fAd K d_is_count.at_) 1 [] m_is_count := by
  obtain ⟨fd, D⟩ := F.c.def_ 5 (d := d_is_count) rfl
  exact FM.of0 (ps := ["atom"]) D (fn_is_count F D) rfl (fun _ _ _ _ _ _ us hl => match us, hl with | [_], _ => rfl)
def b_records_of : MS := gSeq (gAsg (gLst (gNil)) (tgName 3)) (gSeq (gAsg (gC (.int 0)) (tgName 1)) (gSeq (gWhile (gB (gBin mLtI (gVar 1) (gCB (f1 mLenV) (gCons (gVar 0) (gNil))))) (gSeq (gAsg (gBin mIx (gVar 0) (gVar 1)) (tgName 2)) (gSeq (gIfS (gOr (gNot (gTru (gCall m_is_count [] 1 (gCons (gVar 2) (gNil))))) (gOr (gB (gBin mLtI (gVar 2) (gC (.int 1)))) (gOr (gB (gBin mGtI (gVar 2) (gC (.int 8)))) (gB (gBin mGtI (gBin mAdd (gBin mAdd (gVar 1) (gC (.int 1))) (gVar 2)) (gCB (f1 mLenV) (gCons (gVar 0) (gNil)))))))) (gRet (gC .non)) (gNext)) (gSeq (gExpr (gBM "list" lApp (gVar 3) (gCons (gCB (f1 mTuple) (gCons (gSl (gVar 0) (gPs (gBin mAdd (gVar 1) (gC (.int 1)))) (gPs (gBin mAdd (gBin mAdd (gVar 1) (gC (.int 1))) (gVar 2)))) (gNil))) (gNil)))) (gAug 1 (fun i j => i + j) (gBin mAdd (gC (.int 1)) (gVar 2)))))) 100000) (gRet (gVar 3))))
def m_records_of : MF := gBody 4 b_records_of
theorem sc_records_of : FnScope ["atoms", "at", "many", "records"] ["atoms"] (defScope s_records_of) :=
  ⟨rfl, rfl, rfl, by decide +kernel, rfl, by decide +kernel, by decide +kernel⟩
theorem fn_records_of (F : W K mg) {fd : FuncData} (D : FunD K d_records_of.name d_records_of.qual d_records_of.params d_records_of.body d_records_of.scope (d_records_of.dvs K) (d_records_of.kws K) (He.fAd K d_records_of.at_) fd) :
    FnG P w K mg base (L2.CX P w) 2 (He.fAd K d_records_of.at_) fd ["atoms"] (spM ⟨K, tN K⟩ 1 m_records_of) :=
  def_MD D sc_records_of b_records_of fun cdv A outer s H E hs hr => by
    have sc := sc_records_of
    exact js_cons (js_set (i := 3) sc.nd rfl (Or.inl rfl) (je_lst (ja_nil))) (js_cons (js_set (i := 1) sc.nd rfl (Or.inl rfl) (je_int)) (js_cons (js_while 100000 own_M (jt_lt (je_var (pv 1)) (je_callB call_lenM mc_len (by rfl) (F.free 17) PySem.boot_len (ja_cons (je_var (pv 0)) (ja_nil)))) (js_cons (js_set (i := 2) sc.nd rfl (Or.inl rfl) (je_ix (hu_of hr) (je_var (pv 0)) (je_var (pv 1)))) (js_cons (js_if (PW.pt (jw_or (jt_not (jt_tru (je_call (ok_is_count F) hs (hr.mono (by decide)) pass_M (by rfl) (F.glo 21) (ja_cons (je_var (pv 2)) (ja_nil))))) (jw_or (jt_lt (je_var (pv 2)) (je_int)) (jw_or (jt_gt (je_var (pv 2)) (je_glI (by rfl) (F.int 22))) (jw_or1 (jt_gt (je_add (je_add (je_var (pv 1)) (je_int)) (je_var (pv 2))) (je_callB call_lenM mc_len (by rfl) (F.free 17) PySem.boot_len (ja_cons (je_var (pv 0)) (ja_nil))))))))) (js_one (js_ret (je_non))) (js_nil)) (js_cons (js_expr (je_bm PySem.F.plainAttrs_list PySem.F.slot_list_append PySem.F.type_list_append mt_append mm_app (je_var (pv 3)) (ja_cons (je_callT call_tuple_of mc_tuple (by rfl) (F.free 23) PyProof.Rows.boot_tuple (ja_cons (je_slice (je_var (pv 0)) (jp_some (je_add (je_var (pv 1)) (je_int))) (jp_some (je_add (je_add (je_var (pv 1)) (je_int)) (je_var (pv 2))))) (ja_nil))) (ja_nil)))) (js_one (js_aug ip_add sc.nd rfl (Or.inl rfl) (je_add (je_int) (je_var (pv 2))))))))) (js_one (js_ret (je_var (pv 3))))))
theorem ok_records_of (F : W K mg) : FM P w K mg base (tN K) 2 (He.fAd K d_records_of.at_) 1 [] m_records_of := by
  obtain ⟨fd, D⟩ := F.c.def_ 6 (d := d_records_of) rfl
  exact FM.of0 (ps := ["atoms"]) D (fn_records_of F D) rfl (fun _ _ _ _ _ _ us hl => match us, hl with | [_], _ => rfl)
abbrev sl_unpacked : List Str := ["block", "_", "epoch", "first", "many", "number", "records", "atom"]
def b_unpacked : MS := gSeq (gIfS (gOr (gB (gBin mLtI (gCB (f1 mLenV) (gCons (gVar 0) (gNil))) (gC (.int 5)))) (gB (gBin mNeX (gBin mIx (gVar 0) (gC (.int 0))) (gC (.str [108, 111, 103]))))) (gRet (gC .non)) (gNext)) (gSeq (gIfS (gNot (gTru (gCB (f1 mAll) (gCons (gLc (gIter (gSl (gVar 0) (gPs (gC (.int 1))) (gPs (gC (.int 5))))) (.one 7) (gYes) (gCall m_is_count [] 1 (gCons (gVar 7) (gNil))) [7]) (gNil))))) (gRet (gC .non)) (gNext)) (gSeq (gAsg (gSl (gVar 0) (gPn) (gPs (gC (.int 5)))) (tgTup [1, 5, 2, 3, 4])) (gSeq (gAsg (gCall m_records_of [] 1 (gCons (gSl (gVar 0) (gPs (gC (.int 5))) (gPn)) (gNil))) (tgName 6)) (gSeq (gIfS (gOr (gB (gIsN (gVar 6))) (gB (gBin mNeX (gCB (f1 mLenV) (gCons (gVar 6) (gNil))) (gVar 4)))) (gRet (gC .non)) (gNext)) (gRet (gTup (gCons (gVar 5) (gCons (gVar 2) (gCons (gVar 3) (gCons (gVar 6) (gNil)))))))))))
def m_unpacked : MF := gBody 8 b_unpacked
theorem sc_unpacked : FnScope ["block", "_", "epoch", "first", "many", "number", "records", "atom"] ["block"] (defScope s_unpacked) :=
  ⟨rfl, rfl, rfl, by decide +kernel, rfl, by decide +kernel, by decide +kernel⟩
theorem fn_unpacked (F : W K mg) {fd : FuncData} (D : FunD K d_unpacked.name d_unpacked.qual d_unpacked.params d_unpacked.body d_unpacked.scope (d_unpacked.dvs K) (d_unpacked.kws K) (He.fAd K d_unpacked.at_) fd) :
    FnG P w K mg base (L2.CX P w) 3 (He.fAd K d_unpacked.at_) fd ["block"] (spM ⟨K, tN K⟩ 1 m_unpacked) :=
  def_MD D sc_unpacked b_unpacked fun cdv A outer s H E hs hr => by
    have sc := sc_unpacked
    exact js_cons (js_if (PW.pt (jw_or (jt_lt (je_callB call_lenM mc_len (by rfl) (F.free 17) PySem.boot_len (ja_cons (je_var (pv 0)) (ja_nil))) (je_glI (by rfl) (F.int 24))) (jw_or1 (jt_neF hr.units (je_ix (hu_of hr) (je_var (pv 0)) (je_int)) (je_glS (l := [108, 111, 103]) (by rfl) (F.str 25)))))) (js_one (js_ret (je_non))) (js_nil)) (js_cons (js_if (jt_not (jt_tru (je_callB (cr_all rfl) mc_all (by rfl) (F.free 26) (by decide +kernel) (ja_cons (je_lcA (c := .one 7) [("atom", 7)] rfl rfl sc.nd (ji_seq (je_slice (je_var (pv 0)) (jp_some (je_int)) (jp_some (je_glI (by rfl) (F.int 24))))) (blkOk_by (own := [("atom", 7)]) (N := sl_unpacked) (sc := defScope s_unpacked) (by decide +kernel)) (fun _ _ _ _ _ => pg_name (i := 7) sc.nd rfl (Or.inl rfl)) (fun _ _ _ _ _ => jts_nil) (fun _ _ _ _ _ => je_call (ok_is_count F) hs (hr.mono (by decide)) pass_E00 (by rfl) (F.glo 21) (ja_cons (je_var (pv 7)) (ja_nil))) (by decide)) (ja_nil))))) (js_one (js_ret (je_non))) (js_nil)) (js_cons (js_asg (je_slice (je_var (pv 0)) (jp_none) (jp_some (je_glI (by rfl) (F.int 24)))) (jg_tup (is := [1, 5, 2, 3, 4]) rfl (pgs_more (pg_name (i := 1) sc.nd rfl (Or.inl rfl)) (pgs_more (pg_name (i := 5) sc.nd rfl (Or.inl rfl)) (pgs_more (pg_name (i := 2) sc.nd rfl (Or.inl rfl)) (pgs_more (pg_name (i := 3) sc.nd rfl (Or.inl rfl)) (pgs_more (pg_name (i := 4) sc.nd rfl (Or.inl rfl)) (pgs_names)))))))) (js_cons (js_set (i := 6) sc.nd rfl (Or.inl rfl) (je_call (ok_records_of F) hs (hr.mono (by decide)) pass_M (by rfl) (F.glo 27) (ja_cons (je_slice (je_var (pv 0)) (jp_some (je_glI (by rfl) (F.int 24))) (jp_none)) (ja_nil)))) (js_cons (js_if (PW.pt (jw_or (jt_isN (je_var (pv 6))) (jw_or1 (jt_neF hr.units (je_callB call_lenM mc_len (by rfl) (F.free 17) PySem.boot_len (ja_cons (je_var (pv 6)) (ja_nil))) (je_var (pv 4)))))) (js_one (js_ret (je_non))) (js_nil)) (js_one (js_ret (je_tup (ja_cons (je_var (pv 5)) (ja_cons (je_var (pv 2)) (ja_cons (je_var (pv 3)) (ja_cons (je_var (pv 6)) (ja_nil))))))))))))
theorem ok_unpacked (F : W K mg) : FM P w K mg base (tN K) 3 (He.fAd K d_unpacked.at_) 1 [] m_unpacked := by
  obtain ⟨fd, D⟩ := F.c.def_ 7 (d := d_unpacked) rfl
  exact FM.of0 (ps := ["block"]) D (fn_unpacked F D) rfl (fun _ _ _ _ _ _ us hl => match us, hl with | [_], _ => rfl)
end
end K47
set_option Elab.async false
set_option linter.all false
set_option maxRecDepth 100000
set_option maxHeartbeats 8000000
namespace K47
open PySem PySem.Spec PyProof.Rows L2 JB MI
section
variable {P : Program} {w : World} {K : PySem.W.Frag} {mg : Str → Option Value} {base : Heap}
def b_Disk__check_place : MS := gIfS (gOr (gB (gBin mLtI (gVar 1) (gC (.int 0)))) (gB (gBin mGeI (gVar 1) (gCB (f1 mLenV) (gCons (gFld [1] 4462132414599151834275831881924703 (gVar 0)) (gNil)))))) (gRaise1 2 1953625037611499005686055024 (gVar 1)) (gNext)
def m_Disk__check_place : MF := gBody 2 b_Disk__check_place
theorem sc_Disk__check_place : FnScope ["self", "place"] ["self", "place"] (defScope s_Disk__check_place) :=
  ⟨rfl, rfl, rfl, by decide +kernel, rfl, by decide +kernel, by decide +kernel⟩
theorem fn_Disk__check_place (F : W K mg) {fd : FuncData} (D : FunD K d_Disk__check_place.name d_Disk__check_place.qual d_Disk__check_place.params d_Disk__check_place.body d_Disk__check_place.scope (d_Disk__check_place.dvs K) (d_Disk__check_place.kws K) (He.fAd K d_Disk__check_place.at_) fd) :
    FnG P w K mg base (L2.CX P w) 3 (He.fAd K d_Disk__check_place.at_) fd ["self", "place"] (spM ⟨K, tN K⟩ 2 m_Disk__check_place) :=
  def_MD D sc_Disk__check_place b_Disk__check_place fun cdv A outer s H E hs hr => by
    have sc := sc_Disk__check_place
    exact js_one (js_if (PW.pt (jw_or (jt_lt (je_var (pv 1)) (je_int)) (jw_or1 (jt_ge (je_var (pv 1)) (je_callB call_lenM mc_len (by rfl) (F.free 17) PySem.boot_len (ja_cons (je_fld (je_var (pv 0)) (fk_Disk__shown F) n__shown) (ja_nil))))))) (js_one (js_raise1 (c := 2) n_place (takes_of rfl rfl rfl rfl) rfl rfl hs (hr.mono (by decide)) (er_NoBlock F) (by rfl) (je_var (pv 1)))) (js_nil))
theorem ok_Disk__check_place (F : W K mg) : FM P w K mg base (tN K) 3 (He.fAd K d_Disk__check_place.at_) 2 [] m_Disk__check_place := by
  obtain ⟨fd, D⟩ := F.c.def_ 8 (d := d_Disk__check_place) rfl
  exact FM.of0 (ps := ["self", "place"]) D (fn_Disk__check_place F D) rfl (fun _ _ _ _ _ _ us hl => match us, hl with | [_, _], _ => rfl)
def b_Disk_read : MS := gSeq (gExpr (gMeth 1 348538353417950755963802525141600950949726012270321967488514151921221727 m_Disk__check_place [] 2 (gVar 0) (gCons (gVar 1) (gNil)))) (gRet (gBin mIx (gFld [1] 4462132414599151834275831881924703 (gVar 0)) (gVar 1)))
def m_Disk_read : MF := gBody 2 b_Disk_read
theorem sc_Disk_read : FnScope ["self", "place"] ["self", "place"] (defScope s_Disk_read) :=
  ⟨rfl, rfl, rfl, by decide +kernel, rfl, by decide +kernel, by decide +kernel⟩
theorem fn_Disk_read (F : W K mg) {fd : FuncData} (D : FunD K d_Disk_read.name d_Disk_read.qual d_Disk_read.params d_Disk_read.body d_Disk_read.scope (d_Disk_read.dvs K) (d_Disk_read.kws K) (He.fAd K d_Disk_read.at_) fd) :
    FnG P w K mg base (L2.CX P w) 4 (He.fAd K d_Disk_read.at_) fd ["self", "place"] (spM ⟨K, tN K⟩ 2 m_Disk_read) :=
  def_MD D sc_Disk_read b_Disk_read fun cdv A outer s H E hs hr => by
    have sc := sc_Disk_read
    exact js_cons (js_expr (je_meth (c := 1) (ok_Disk__check_place F) (F.cls 4) (F.meth 29) n__check_place hs (hr.mono (by decide)) pass_M (je_var (pv 0)) (ja_cons (je_var (pv 1)) (ja_nil)))) (js_one (js_ret (je_ix (hu_of hr) (je_fld (je_var (pv 0)) (fk_Disk__shown F) n__shown) (je_var (pv 1)))))
theorem ok_Disk_read (F : W K mg) : FM P w K mg base (tN K) 4 (He.fAd K d_Disk_read.at_) 2 [] m_Disk_read := by
  obtain ⟨fd, D⟩ := F.c.def_ 9 (d := d_Disk_read) rfl
  exact FM.of0 (ps := ["self", "place"]) D (fn_Disk_read F D) rfl (fun _ _ _ _ _ _ us hl => match us, hl with | [_, _], _ => rfl)
abbrev sl_Log___init : List Str := ["self", "disk", "first", "count", "block", "record", "floor", "epochs", "ring", "place", "parts"]
def b_Log___init : MS := gSeq (gFldS [0] 2069682063868491180489572447 (gVar 1) (gVar 0)) (gSeq (gFldS [0] 4705521252471747094147440299737183 (gVar 2) (gVar 0)) (gSeq (gFldS [0] 4705521155757709195119605160345695 (gVar 3) (gVar 0)) (gSeq (gFldS [0] 83956272751114154801631165565160080792253879465911796105311 (gVar 4) (gVar 0)) (gSeq (gFldS [0] 1097581760569107546207 (gVar 5) (gVar 0)) (gSeq (gFldS [0] 176069065312544551970550402127306593753578779473364670370858139743 (gVar 4) (gVar 0)) (gSeq (gFldS [0] 20516694089711970705211133144808195618838151263 (gLst (gNil)) (gVar 0)) (gSeq (gFldS [0] 1953625065281615116265062495 (gVar 5) (gVar 0)) (gSeq (gAsg (gLc (gRng1 (gVar 3)) (.one 9) (gYes) (gCall m_unpacked [] 1 (gCons (gMeth 1 922337630296200970354 m_Disk_read [] 2 (gVar 1) (gCons (gBin mAdd (gVar 2) (gVar 9)) (gNil))) (gNil))) [9]) (tgName 8)) (gSeq (gExpr (gMeth 0 1934282206050938457379831903 m_Log__read [] 3 (gVar 0) (gCons (gVar 8) (gCons (gVar 6) (gNil))))) (gSeq (gAsg (gLc (gIter (gVar 8)) (.one 10) (gB (gNotN (gVar 10))) (gBin mIx (gVar 10) (gC (.int 1))) [10]) (tgName 7)) (gFldS [0] 4218743112499069512542313303244895 (gBin mAdd (gC (.int 1)) (gCB (f1 mMaxL) (gCons (gLst (gCons (gVar 6) (gStar (gVar 7) (gNil)))) (gNil)))) (gVar 0))))))))))))
def m_Log___init : MF := gBody 11 b_Log___init
theorem sc_Log___init : FnScope ["self", "disk", "first", "count", "block", "record", "floor", "epochs", "ring", "place", "parts"] ["self", "disk", "first", "count", "block", "record", "floor"] (defScope s_Log___init) :=
  ⟨rfl, rfl, rfl, by decide +kernel, rfl, by decide +kernel, by decide +kernel⟩
theorem fn_Log___init (F : W K mg) {fd : FuncData} (D : FunD K d_Log___init.name d_Log___init.qual d_Log___init.params d_Log___init.body d_Log___init.scope (d_Log___init.dvs K) (d_Log___init.kws K) (He.fAd K d_Log___init.at_) fd) :
    FnG P w K mg base (L2.CX P w) 5 (He.fAd K d_Log___init.at_) fd ["self", "disk", "first", "count", "block", "record", "floor"] (spM ⟨K, tN K⟩ 7 m_Log___init) :=
  def_MD D sc_Log___init b_Log___init fun cdv A outer s H E hs hr => by
    have sc := sc_Log___init
    exact js_cons (js_fld (je_var (pv 0)) (je_var (pv 1)) (fk_Log__disk F) n__disk) (js_cons (js_fld (je_var (pv 0)) (je_var (pv 2)) (fk_Log__first F) n__first) (js_cons (js_fld (je_var (pv 0)) (je_var (pv 3)) (fk_Log__count F) n__count) (js_cons (js_fld (je_var (pv 0)) (je_var (pv 4)) (fk_Log__low_block F) n__low_block) (js_cons (js_fld (je_var (pv 0)) (je_var (pv 5)) (fk_Log__low F) n__low) (js_cons (js_fld (je_var (pv 0)) (je_var (pv 4)) (fk_Log__next_block F) n__next_block) (js_cons (js_fld (je_var (pv 0)) (je_lst (ja_nil)) (fk_Log__records F) n__records) (js_cons (js_fld (je_var (pv 0)) (je_var (pv 5)) (fk_Log__safe F) n__safe) (js_cons (js_setLcA (c := .one 9) (i := 8) [("place", 9)] rfl rfl rfl rfl sc.nd (sw_true rfl rfl rfl (by decide +kernel)) (ji_range1 (by rfl) (F.free 14) (je_var (pv 3))) (blkOk_by (own := [("place", 9)]) (N := sl_Log___init) (sc := defScope s_Log___init) (by decide +kernel)) (fun _ _ _ _ _ => pg_name (i := 9) sc.nd rfl (Or.inl rfl)) (fun _ _ _ _ _ => jts_nil) (fun _ _ _ _ _ => je_call (ok_unpacked F) hs (hr.mono (by decide)) pass_E00 (by rfl) (F.glo 34) (ja_cons (je_meth (c := 1) (ok_Disk_read F) (F.cls 4) (F.meth 35) n_read hs (hr.mono (by decide)) pass_E00 (je_var (pv 1)) (ja_cons (je_add (je_var (pv 2)) (je_var (pv 9))) (ja_nil))) (ja_nil))) (by decide)) (js_cons (js_expr (je_meth (c := 0) (ok_Log__read F) (F.cls 12) (F.meth 36) n__read hs (hr.mono (by decide)) pass_M (je_var (pv 0)) (ja_cons (je_var (pv 8)) (ja_cons (je_var (pv 6)) (ja_nil))))) (js_cons (js_setLcA (c := .one 10) (i := 7) [("parts", 10)] rfl rfl rfl rfl sc.nd (sw_true rfl rfl rfl (by decide +kernel)) (ji_seq (je_var (pv 8))) (blkOk_by (own := [("parts", 10)]) (N := sl_Log___init) (sc := defScope s_Log___init) (by decide +kernel)) (fun _ _ _ _ _ => pg_name (i := 10) sc.nd rfl (Or.inl rfl)) (fun _ _ _ _ _ => jts_one (jt_notN (je_var (pv 10)))) (fun _ _ _ _ _ => je_ix (hu_of hr) (je_var (pv 10)) (je_int)) (by decide)) (js_one (js_fld (je_var (pv 0)) (je_add (je_int) (je_callB (cr_max rfl) mc_maxL (by rfl) (F.free 37) (by decide +kernel) (ja_cons (je_lst (ja_cons (je_var (pv 6)) (ja_star (je_var (pv 7)) (ja_nil)))) (ja_nil)))) (fk_Log__epoch F) n__epoch))))))))))))
theorem ok_Log___init_d0 (F : W K mg) : FM P w K mg base (tN K) 5 (He.fAd K d_Log___init.at_) 7 [] m_Log___init := by
  obtain ⟨fd, D⟩ := F.c.def_ 10 (d := d_Log___init) rfl
  exact FM.ofD (ps := ["self", "disk", "first", "count", "block", "record", "floor"]) (m := 7) (j := 3) D (fn_Log___init F D) rfl (by simp [He.DefD.dvs]) rfl (fun _ _ _ _ _ _ _ us its hl hi => match us, its, hl, hi with | [_, _, _, _, _, _, _], [_, _, _], _, _ => ⟨_, rfl, rfl⟩)
    fun ρ H => .nil
theorem ok_Log___init_d1 (F : W K mg) : FM P w K mg base (tN K) 5 (He.fAd K d_Log___init.at_) 7 [.int 0] m_Log___init := by
  obtain ⟨fd, D⟩ := F.c.def_ 10 (d := d_Log___init) rfl
  exact FM.ofD (ps := ["self", "disk", "first", "count", "block", "record", "floor"]) (m := 6) (j := 2) D (fn_Log___init F D) rfl (by simp [He.DefD.dvs]) rfl (fun _ _ _ _ _ _ _ us its hl hi => match us, its, hl, hi with | [_, _, _, _, _, _], [_, _, _], _, _ => ⟨_, rfl, rfl⟩)
    fun ρ H => .cons (.int _) (.nil)
theorem ok_Log___init_d3 (F : W K mg) : FM P w K mg base (tN K) 5 (He.fAd K d_Log___init.at_) 7 [.int 0, .int 0, .int 0] m_Log___init := by
  obtain ⟨fd, D⟩ := F.c.def_ 10 (d := d_Log___init) rfl
  exact FM.ofD (ps := ["self", "disk", "first", "count", "block", "record", "floor"]) (m := 4) (j := 0) D (fn_Log___init F D) rfl (by simp [He.DefD.dvs]) rfl (fun _ _ _ _ _ _ _ us its hl hi => match us, its, hl, hi with | [_, _, _, _], [_, _, _], _, _ => ⟨_, rfl, rfl⟩)
    fun ρ H => .cons (.int _) (.cons (.int _) (.cons (.int _) (.nil)))
theorem ok_Log___init_k0 (F : W K mg) : FK P w K mg base (tN K) 5 (He.fAd K d_Log___init.at_) 7 1 ["disk", "first", "count"] [(0, 0), (2, 0), (2, 1), (2, 2), (1, 0), (1, 1), (1, 2)] [.int 0, .int 0, .int 0] m_Log___init := by
  obtain ⟨fd, D⟩ := F.c.def_ 10 (d := d_Log___init) rfl
  exact FK.ofD (ps := ["self", "disk", "first", "count", "block", "record", "floor"]) D (fn_Log___init F D) rfl (by simp [He.DefD.dvs]) (fun _ _ _ _ _ _ _ us its ws hl hi hw => match us, its, ws, hl, hi, hw with | [_], [_, _, _], [_, _, _], _, _, _ => ⟨_, rfl, rfl⟩)
    fun ρ H => .cons (.int _) (.cons (.int _) (.cons (.int _) (.nil)))
theorem ok_Log___init_k1 (F : W K mg) : FK P w K mg base (tN K) 5 (He.fAd K d_Log___init.at_) 7 6 ["floor"] [(0, 0), (0, 1), (0, 2), (0, 3), (0, 4), (0, 5), (2, 0)] [.int 0, .int 0, .int 0] m_Log___init := by
  obtain ⟨fd, D⟩ := F.c.def_ 10 (d := d_Log___init) rfl
  exact FK.ofD (ps := ["self", "disk", "first", "count", "block", "record", "floor"]) D (fn_Log___init F D) rfl (by simp [He.DefD.dvs]) (fun _ _ _ _ _ _ _ us its ws hl hi hw => match us, its, ws, hl, hi, hw with | [_, _, _, _, _, _], [_, _, _], [_], _, _, _ => ⟨_, rfl, rfl⟩)
    fun ρ H => .cons (.int _) (.cons (.int _) (.cons (.int _) (.nil)))
def b_law_same : MS := gRet (gSameA (gVar 0) (gVar 1))
def m_law_same : MF := gBody 2 b_law_same
theorem sc_law_same : FnScope ["_law_found", "_law_due"] ["_law_found", "_law_due"] (defScope s_law_same) :=
  ⟨rfl, rfl, rfl, by decide +kernel, rfl, by decide +kernel, by decide +kernel⟩
theorem fn_law_same (F : W K mg) {fd : FuncData} (D : FunD K d_law_same.name d_law_same.qual d_law_same.params d_law_same.body d_law_same.scope (d_law_same.dvs K) (d_law_same.kws K) (He.fAd K d_law_same.at_) fd) :
    FnG P w K mg base (L2.CX P w) 1 (He.fAd K d_law_same.at_) fd ["_law_found", "_law_due"] (spM ⟨K, tN K⟩ 2 m_law_same) :=
  def_MD D sc_law_same b_law_same fun cdv A outer s H E hs hr => by
    have sc := sc_law_same
    exact js_one (js_ret (je_sameA hs hr.units (by rfl) (F.free 39) (je_var (pv 0)) (je_var (pv 1))))
theorem ok_law_same (F : W K mg) : FM P w K mg base (tN K) 1 (He.fAd K d_law_same.at_) 2 [] m_law_same := by
  obtain ⟨fd, D⟩ := F.c.def_ 11 (d := d_law_same) rfl
  exact FM.of0 (ps := ["_law_found", "_law_due"]) D (fn_law_same F D) rfl (fun _ _ _ _ _ _ us hl => match us, hl with | [_, _], _ => rfl)
def b_Log_many : MS := gRet (gBin mAdd (gFld [0] 1097581760569107546207 (gVar 0)) (gCB (f1 mLenV) (gCons (gFld [0] 20516694089711970705211133144808195618838151263 (gVar 0)) (gNil))))
def m_Log_many : MF := gBody 1 b_Log_many
theorem sc_Log_many : FnScope ["self"] ["self"] (defScope s_Log_many) :=
  ⟨rfl, rfl, rfl, by decide +kernel, rfl, by decide +kernel, by decide +kernel⟩
theorem fn_Log_many (F : W K mg) {fd : FuncData} (D : FunD K d_Log_many.name d_Log_many.qual d_Log_many.params d_Log_many.body d_Log_many.scope (d_Log_many.dvs K) (d_Log_many.kws K) (He.fAd K d_Log_many.at_) fd) :
    FnG P w K mg base (L2.CX P w) 1 (He.fAd K d_Log_many.at_) fd ["self"] (spM ⟨K, tN K⟩ 1 m_Log_many) :=
  def_MD D sc_Log_many b_Log_many fun cdv A outer s H E hs hr => by
    have sc := sc_Log_many
    exact js_one (js_ret (je_add (je_fld (je_var (pv 0)) (fk_Log__low F) n__low) (je_callB call_lenM mc_len (by rfl) (F.free 17) PySem.boot_len (ja_cons (je_fld (je_var (pv 0)) (fk_Log__records F) n__records) (ja_nil)))))
theorem ok_Log_many (F : W K mg) : FM P w K mg base (tN K) 1 (He.fAd K d_Log_many.at_) 1 [] m_Log_many := by
  obtain ⟨fd, D⟩ := F.c.def_ 12 (d := d_Log_many) rfl
  exact FM.of0 (ps := ["self"]) D (fn_Log_many F D) rfl (fun _ _ _ _ _ _ us hl => match us, hl with | [_], _ => rfl)
def b_Log_safe : MS := gRet (gFld [0] 1953625065281615116265062495 (gVar 0))
def m_Log_safe : MF := gBody 1 b_Log_safe
theorem sc_Log_safe : FnScope ["self"] ["self"] (defScope s_Log_safe) :=
  ⟨rfl, rfl, rfl, by decide +kernel, rfl, by decide +kernel, by decide +kernel⟩
theorem fn_Log_safe (F : W K mg) {fd : FuncData} (D : FunD K d_Log_safe.name d_Log_safe.qual d_Log_safe.params d_Log_safe.body d_Log_safe.scope (d_Log_safe.dvs K) (d_Log_safe.kws K) (He.fAd K d_Log_safe.at_) fd) :
    FnG P w K mg base (L2.CX P w) 1 (He.fAd K d_Log_safe.at_) fd ["self"] (spM ⟨K, tN K⟩ 1 m_Log_safe) :=
  def_MD D sc_Log_safe b_Log_safe fun cdv A outer s H E hs hr => by
    have sc := sc_Log_safe
    exact js_one (js_ret (je_fld (je_var (pv 0)) (fk_Log__safe F) n__safe))
theorem ok_Log_safe (F : W K mg) : FM P w K mg base (tN K) 1 (He.fAd K d_Log_safe.at_) 1 [] m_Log_safe := by
  obtain ⟨fd, D⟩ := F.c.def_ 13 (d := d_Log_safe) rfl
  exact FM.of0 (ps := ["self"]) D (fn_Log_safe F D) rfl (fun _ _ _ _ _ _ us hl => match us, hl with | [_], _ => rfl)
def b_Log_epoch : MS := gRet (gFld [0] 4218743112499069512542313303244895 (gVar 0))
def m_Log_epoch : MF := gBody 1 b_Log_epoch
theorem sc_Log_epoch : FnScope ["self"] ["self"] (defScope s_Log_epoch) :=
  ⟨rfl, rfl, rfl, by decide +kernel, rfl, by decide +kernel, by decide +kernel⟩
theorem fn_Log_epoch (F : W K mg) {fd : FuncData} (D : FunD K d_Log_epoch.name d_Log_epoch.qual d_Log_epoch.params d_Log_epoch.body d_Log_epoch.scope (d_Log_epoch.dvs K) (d_Log_epoch.kws K) (He.fAd K d_Log_epoch.at_) fd) :
    FnG P w K mg base (L2.CX P w) 1 (He.fAd K d_Log_epoch.at_) fd ["self"] (spM ⟨K, tN K⟩ 1 m_Log_epoch) :=
  def_MD D sc_Log_epoch b_Log_epoch fun cdv A outer s H E hs hr => by
    have sc := sc_Log_epoch
    exact js_one (js_ret (je_fld (je_var (pv 0)) (fk_Log__epoch F) n__epoch))
theorem ok_Log_epoch (F : W K mg) : FM P w K mg base (tN K) 1 (He.fAd K d_Log_epoch.at_) 1 [] m_Log_epoch := by
  obtain ⟨fd, D⟩ := F.c.def_ 14 (d := d_Log_epoch) rfl
  exact FM.of0 (ps := ["self"]) D (fn_Log_epoch F D) rfl (fun _ _ _ _ _ _ us hl => match us, hl with | [_], _ => rfl)
def b_Log_next_block : MS := gRet (gFld [0] 176069065312544551970550402127306593753578779473364670370858139743 (gVar 0))
def m_Log_next_block : MF := gBody 1 b_Log_next_block
theorem sc_Log_next_block : FnScope ["self"] ["self"] (defScope s_Log_next_block) :=
  ⟨rfl, rfl, rfl, by decide +kernel, rfl, by decide +kernel, by decide +kernel⟩
theorem fn_Log_next_block (F : W K mg) {fd : FuncData} (D : FunD K d_Log_next_block.name d_Log_next_block.qual d_Log_next_block.params d_Log_next_block.body d_Log_next_block.scope (d_Log_next_block.dvs K) (d_Log_next_block.kws K) (He.fAd K d_Log_next_block.at_) fd) :
    FnG P w K mg base (L2.CX P w) 1 (He.fAd K d_Log_next_block.at_) fd ["self"] (spM ⟨K, tN K⟩ 1 m_Log_next_block) :=
  def_MD D sc_Log_next_block b_Log_next_block fun cdv A outer s H E hs hr => by
    have sc := sc_Log_next_block
    exact js_one (js_ret (je_fld (je_var (pv 0)) (fk_Log__next_block F) n__next_block))
theorem ok_Log_next_block (F : W K mg) : FM P w K mg base (tN K) 1 (He.fAd K d_Log_next_block.at_) 1 [] m_Log_next_block := by
  obtain ⟨fd, D⟩ := F.c.def_ 15 (d := d_Log_next_block) rfl
  exact FM.of0 (ps := ["self"]) D (fn_Log_next_block F D) rfl (fun _ _ _ _ _ _ us hl => match us, hl with | [_], _ => rfl)
end
end K47
set_option Elab.async false
set_option linter.all false
set_option maxRecDepth 100000
set_option maxHeartbeats 8000000
namespace K47
open PySem PySem.Spec PyProof.Rows L2 JB MI
section
variable {P : Program} {w : World} {K : PySem.W.Frag} {mg : Str → Option Value} {base : Heap}
def b_Log_records : MS := gSeq (gIfS (gOr (gB (gBin mLtI (gVar 1) (gFld [0] 1097581760569107546207 (gVar 0)))) (gB (gBin mGtI (gVar 1) (gMeth 0 1116028500244747518061 m_Log_many [] 1 (gVar 0) gNil)))) (gRaise1 3 4624391343257609244839718701498478 (gVar 1)) (gNext)) (gRet (gSl (gFld [0] 20516694089711970705211133144808195618838151263 (gVar 0)) (gPs (gBin mSub (gVar 1) (gFld [0] 1097581760569107546207 (gVar 0)))) (gPn)))
def m_Log_records : MF := gBody 2 b_Log_records
theorem sc_Log_records : FnScope ["self", "number"] ["self", "number"] (defScope s_Log_records) :=
  ⟨rfl, rfl, rfl, by decide +kernel, rfl, by decide +kernel, by decide +kernel⟩
theorem fn_Log_records (F : W K mg) {fd : FuncData} (D : FunD K d_Log_records.name d_Log_records.qual d_Log_records.params d_Log_records.body d_Log_records.scope (d_Log_records.dvs K) (d_Log_records.kws K) (He.fAd K d_Log_records.at_) fd) :
    FnG P w K mg base (L2.CX P w) 3 (He.fAd K d_Log_records.at_) fd ["self", "number"] (spM ⟨K, tN K⟩ 2 m_Log_records) :=
  def_MD D sc_Log_records b_Log_records fun cdv A outer s H E hs hr => by
    have sc := sc_Log_records
    exact js_cons (js_if (PW.pt (jw_or (jt_lt (je_var (pv 1)) (je_fld (je_var (pv 0)) (fk_Log__low F) n__low)) (jw_or1 (jt_gt (je_var (pv 1)) (je_meth0 (c := 0) (ok_Log_many F) (F.cls 12) (F.meth 40) n_many hs (hr.mono (by decide)) pass_M (je_var (pv 0))))))) (js_one (js_raise1 (c := 3) n_number (takes_of rfl rfl rfl rfl) rfl rfl hs (hr.mono (by decide)) (er_Gone F) (by rfl) (je_var (pv 1)))) (js_nil)) (js_one (js_ret (je_slice (je_fld (je_var (pv 0)) (fk_Log__records F) n__records) (jp_some (je_sub (je_var (pv 1)) (je_fld (je_var (pv 0)) (fk_Log__low F) n__low))) (jp_none))))
theorem ok_Log_records (F : W K mg) : FM P w K mg base (tN K) 3 (He.fAd K d_Log_records.at_) 2 [] m_Log_records := by
  obtain ⟨fd, D⟩ := F.c.def_ 16 (d := d_Log_records) rfl
  exact FM.of0 (ps := ["self", "number"]) D (fn_Log_records F D) rfl (fun _ _ _ _ _ _ us hl => match us, hl with | [_, _], _ => rfl)
theorem ok_Log_records_k0 (F : W K mg) : FK P w K mg base (tN K) 3 (He.fAd K d_Log_records.at_) 2 1 ["number"] [(0, 0), (2, 0)] [] m_Log_records := by
  obtain ⟨fd, D⟩ := F.c.def_ 16 (d := d_Log_records) rfl
  exact FK.of0 (ps := ["self", "number"]) D (fn_Log_records F D) rfl (fun _ _ _ _ _ _ us ws hl hw => match us, ws, hl, hw with | [_], [_], _, _ => rfl)
def b_packs : MS := gSeq (gAsg (gLst (gNil)) (tgName 4)) (gSeq (gAsg (gC (.int 0)) (tgName 1)) (gSeq (gFor (gIter (gVar 0)) (tgName 3) (gSeq (gAsg (gBin mAdd (gC (.int 1)) (gCB (f1 mLenV) (gCons (gVar 3) (gNil)))) (tgName 2)) (gSeq (gIfS (gB (gBin mGtI (gVar 2) (gVar 1))) (gSeq (gExpr (gBM "list" lApp (gVar 4) (gCons (gLst (gNil)) (gNil)))) (gAsg (gBin mSub (gC (.int 24)) (gC (.int 5))) (tgName 1))) (gNext)) (gSeq (gExpr (gBM "list" lApp (gBin mIx (gVar 4) (gUn mNeg (gC (.int 1)))) (gCons (gVar 3) (gNil)))) (gAug 1 (fun i j => i - j) (gVar 2)))))) (gRet (gVar 4))))
def m_packs : MF := gBody 5 b_packs
theorem sc_packs : FnScope ["records", "left", "need", "record", "rows"] ["records"] (defScope s_packs) :=
  ⟨rfl, rfl, rfl, by decide +kernel, rfl, by decide +kernel, by decide +kernel⟩
theorem fn_packs (F : W K mg) {fd : FuncData} (D : FunD K d_packs.name d_packs.qual d_packs.params d_packs.body d_packs.scope (d_packs.dvs K) (d_packs.kws K) (He.fAd K d_packs.at_) fd) :
    FnG P w K mg base (L2.CX P w) 1 (He.fAd K d_packs.at_) fd ["records"] (spM ⟨K, tN K⟩ 1 m_packs) :=
  def_MD D sc_packs b_packs fun cdv A outer s H E hs hr => by
    have sc := sc_packs
    exact js_cons (js_set (i := 4) sc.nd rfl (Or.inl rfl) (je_lst (ja_nil))) (js_cons (js_set (i := 1) sc.nd rfl (Or.inl rfl) (je_int)) (js_cons (js_for own_M rfl (ji_seq (je_var (pv 0))) (jg_name (pg_name (i := 3) sc.nd rfl (Or.inl rfl))) (js_cons (js_set (i := 2) sc.nd rfl (Or.inl rfl) (je_add (je_int) (je_callB call_lenM mc_len (by rfl) (F.free 17) PySem.boot_len (ja_cons (je_var (pv 3)) (ja_nil))))) (js_cons (js_if (jt_gt (je_var (pv 2)) (je_var (pv 1))) (js_cons (js_expr (je_bm PySem.F.plainAttrs_list PySem.F.slot_list_append PySem.F.type_list_append mt_append mm_app (je_var (pv 4)) (ja_cons (je_lst (ja_nil)) (ja_nil)))) (js_one (js_set (i := 1) sc.nd rfl (Or.inl rfl) (je_sub (je_glI (by rfl) (F.int 42)) (je_glI (by rfl) (F.int 24)))))) (js_nil)) (js_cons (js_expr (je_bm PySem.F.plainAttrs_list PySem.F.slot_list_append PySem.F.type_list_append mt_append mm_app (je_ix (hu_of hr) (je_var (pv 4)) (je_neg (je_int))) (ja_cons (je_var (pv 3)) (ja_nil)))) (js_one (js_aug ip_sub sc.nd rfl (Or.inl rfl) (je_var (pv 2)))))))) (js_one (js_ret (je_var (pv 4))))))
theorem ok_packs (F : W K mg) : FM P w K mg base (tN K) 1 (He.fAd K d_packs.at_) 1 [] m_packs := by
  obtain ⟨fd, D⟩ := F.c.def_ 17 (d := d_packs) rfl
  exact FM.of0 (ps := ["records"]) D (fn_packs F D) rfl (fun _ _ _ _ _ _ us hl => match us, hl with | [_], _ => rfl)
def b_Disk__count : MS := gIfS (gB (gNotN (gFld [1] 2243767261989143710365909087 (gVar 0)))) (gSeq (gIfS (gB (gBin mLeI (gFld [1] 2243767261989143710365909087 (gVar 0)) (gC (.int 0)))) (gRaise0 4) (gNext)) (gFldAug [1] 2243767261989143710365909087 (fun i j => i - j) (gVar 0) (gC (.int 1)))) (gNext)
def m_Disk__count : MF := gBody 1 b_Disk__count
theorem sc_Disk__count : FnScope ["self"] ["self"] (defScope s_Disk__count) :=
  ⟨rfl, rfl, rfl, by decide +kernel, rfl, by decide +kernel, by decide +kernel⟩
theorem fn_Disk__count (F : W K mg) {fd : FuncData} (D : FunD K d_Disk__count.name d_Disk__count.qual d_Disk__count.params d_Disk__count.body d_Disk__count.scope (d_Disk__count.dvs K) (d_Disk__count.kws K) (He.fAd K d_Disk__count.at_) fd) :
    FnG P w K mg base (L2.CX P w) 3 (He.fAd K d_Disk__count.at_) fd ["self"] (spM ⟨K, tN K⟩ 1 m_Disk__count) :=
  def_MD D sc_Disk__count b_Disk__count fun cdv A outer s H E hs hr => by
    have sc := sc_Disk__count
    exact js_one (js_if (jt_notN (je_fld (je_var (pv 0)) (fk_Disk__left F) n__left)) (js_cons (js_if (jt_le (je_fld (je_var (pv 0)) (fk_Disk__left F) n__left) (je_int)) (js_one (js_raise0 (c := 4) (takes_of rfl rfl rfl rfl) rfl rfl hs (hr.mono (by decide)) (er_Stopped F) (by rfl))) (js_nil)) (js_one (js_fldaug (je_var (pv 0)) (je_int) (fk_Disk__left F) n__left aug_sub))) (js_nil))
theorem ok_Disk__count (F : W K mg) : FM P w K mg base (tN K) 3 (He.fAd K d_Disk__count.at_) 1 [] m_Disk__count := by
  obtain ⟨fd, D⟩ := F.c.def_ 18 (d := d_Disk__count) rfl
  exact FM.of0 (ps := ["self"]) D (fn_Disk__count F D) rfl (fun _ _ _ _ _ _ us hl => match us, hl with | [_], _ => rfl)
def b_Disk_barrier : MS := gSeq (gExpr (gMeth 1 4705521155757709195119605160345695 m_Disk__count [] 1 (gVar 0) gNil)) (gExpr (gMeth 1 922337678674733564008 m_Disk_hold [] 2 (gVar 0) (gCons (gFld [1] 4462132414599151834275831881924703 (gVar 0)) (gNil))))
def m_Disk_barrier : MF := gBody 1 b_Disk_barrier
theorem sc_Disk_barrier : FnScope ["self"] ["self"] (defScope s_Disk_barrier) :=
  ⟨rfl, rfl, rfl, by decide +kernel, rfl, by decide +kernel, by decide +kernel⟩
theorem fn_Disk_barrier (F : W K mg) {fd : FuncData} (D : FunD K d_Disk_barrier.name d_Disk_barrier.qual d_Disk_barrier.params d_Disk_barrier.body d_Disk_barrier.scope (d_Disk_barrier.dvs K) (d_Disk_barrier.kws K) (He.fAd K d_Disk_barrier.at_) fd) :
    FnG P w K mg base (L2.CX P w) 4 (He.fAd K d_Disk_barrier.at_) fd ["self"] (spM ⟨K, tN K⟩ 1 m_Disk_barrier) :=
  def_MD D sc_Disk_barrier b_Disk_barrier fun cdv A outer s H E hs hr => by
    have sc := sc_Disk_barrier
    exact js_cons (js_expr (je_meth0 (c := 1) (ok_Disk__count F) (F.cls 4) (F.meth 44) n__count hs (hr.mono (by decide)) pass_M (je_var (pv 0)))) (js_one (js_expr (je_meth (c := 1) (ok_Disk_hold F) (F.cls 4) (F.meth 9) n_hold hs (hr.mono (by decide)) pass_M (je_var (pv 0)) (ja_cons (je_fld (je_var (pv 0)) (fk_Disk__shown F) n__shown) (ja_nil)))))
theorem ok_Disk_barrier (F : W K mg) : FM P w K mg base (tN K) 4 (He.fAd K d_Disk_barrier.at_) 1 [] m_Disk_barrier := by
  obtain ⟨fd, D⟩ := F.c.def_ 19 (d := d_Disk_barrier) rfl
  exact FM.of0 (ps := ["self"]) D (fn_Disk_barrier F D) rfl (fun _ _ _ _ _ _ us hl => match us, hl with | [_], _ => rfl)
def b_Log_room : MS := gRet (gBin mSub (gFld [0] 4705521155757709195119605160345695 (gVar 0)) (gBin mSub (gFld [0] 176069065312544551970550402127306593753578779473364670370858139743 (gVar 0)) (gFld [0] 83956272751114154801631165565160080792253879465911796105311 (gVar 0))))
def m_Log_room : MF := gBody 1 b_Log_room
theorem sc_Log_room : FnScope ["self"] ["self"] (defScope s_Log_room) :=
  ⟨rfl, rfl, rfl, by decide +kernel, rfl, by decide +kernel, by decide +kernel⟩
theorem fn_Log_room (F : W K mg) {fd : FuncData} (D : FunD K d_Log_room.name d_Log_room.qual d_Log_room.params d_Log_room.body d_Log_room.scope (d_Log_room.dvs K) (d_Log_room.kws K) (He.fAd K d_Log_room.at_) fd) :
    FnG P w K mg base (L2.CX P w) 1 (He.fAd K d_Log_room.at_) fd ["self"] (spM ⟨K, tN K⟩ 1 m_Log_room) :=
  def_MD D sc_Log_room b_Log_room fun cdv A outer s H E hs hr => by
    have sc := sc_Log_room
    exact js_one (js_ret (je_sub (je_fld (je_var (pv 0)) (fk_Log__count F) n__count) (je_sub (je_fld (je_var (pv 0)) (fk_Log__next_block F) n__next_block) (je_fld (je_var (pv 0)) (fk_Log__low_block F) n__low_block))))
theorem ok_Log_room (F : W K mg) : FM P w K mg base (tN K) 1 (He.fAd K d_Log_room.at_) 1 [] m_Log_room := by
  obtain ⟨fd, D⟩ := F.c.def_ 20 (d := d_Log_room) rfl
  exact FM.of0 (ps := ["self"]) D (fn_Log_room F D) rfl (fun _ _ _ _ _ _ us hl => match us, hl with | [_], _ => rfl)
abbrev sl_as_tuples : List Str := ["tree", "done", "finished", "low", "part", "rest", "inner"]
def b_as_tuples : MS := gSeq (gAsg (gLst (gCons (gTup (gCons (gVar 0) (gCons (gC (.bl false)) (gNil)))) (gNil))) (tgName 5)) (gSeq (gAsg (gLst (gNil)) (tgName 1)) (gSeq (gWhile (gTru (gVar 5)) (gSeq (gAsg (gBM "list" lPop (gVar 5) gNil) (tgTup [4, 2])) (gIfS (gTru (gVar 2)) (gSeq (gAsg (gBin mSub (gCB (f1 mLenV) (gCons (gVar 1) (gNil))) (gCB (f1 mLenV) (gCons (gVar 4) (gNil)))) (tgName 3)) (gAsg (gLst (gCons (gCB (f1 mTuple) (gCons (gSl (gVar 1) (gPs (gVar 3)) (gPn)) (gNil))) (gNil))) (tgTail (gVar 1) (gVar 3)))) (gIfS (gTru (gUn (mIsTy [("NoneType", false), ("bool", false), ("int", false), ("str", false), ("tuple", true), ("list", true), ("dict", false)]) (gVar 4))) (gSeq (gExpr (gBM "list" lApp (gVar 5) (gCons (gTup (gCons (gVar 4) (gCons (gC (.bl true)) (gNil)))) (gNil)))) (gExpr (gBM "list" lExtA (gVar 5) (gCons (gLc (gRev (gVar 4)) (.one 6) (gYes) (gTup (gCons (gVar 6) (gCons (gC (.bl false)) (gNil)))) [6]) (gNil))))) (gExpr (gBM "list" lApp (gVar 1) (gCons (gVar 4) (gNil))))))) 100000) (gRet (gBin mIx (gVar 1) (gC (.int 0))))))
def m_as_tuples : MF := gBody 7 b_as_tuples
theorem sc_as_tuples : FnScope ["tree", "done", "finished", "low", "part", "rest", "inner"] ["tree"] (defScope s_as_tuples) :=
  ⟨rfl, rfl, rfl, by decide +kernel, rfl, by decide +kernel, by decide +kernel⟩
theorem fn_as_tuples (F : W K mg) {fd : FuncData} (D : FunD K d_as_tuples.name d_as_tuples.qual d_as_tuples.params d_as_tuples.body d_as_tuples.scope (d_as_tuples.dvs K) (d_as_tuples.kws K) (He.fAd K d_as_tuples.at_) fd) :
    FnG P w K mg base (L2.CX P w) 1 (He.fAd K d_as_tuples.at_) fd ["tree"] (spM ⟨K, tN K⟩ 1 m_as_tuples) :=
  def_MD D sc_as_tuples b_as_tuples fun cdv A outer s H E hs hr => by
    have sc := sc_as_tuples
    exact js_cons (js_set (i := 5) sc.nd rfl (Or.inl rfl) (je_lst (ja_cons (je_tup (ja_cons (je_var (pv 0)) (ja_cons (je_bl) (ja_nil)))) (ja_nil)))) (js_cons (js_set (i := 1) sc.nd rfl (Or.inl rfl) (je_lst (ja_nil))) (js_cons (js_while 100000 own_M (jt_tru (je_var (pv 5))) (js_cons (js_asg (je_bm0 PySem.F.plainAttrs_list PySem.F.slot_list_pop PySem.F.type_list_pop mt_pop mm_pop (je_var (pv 5))) (jg_tup (is := [4, 2]) rfl (pgs_more (pg_name (i := 4) sc.nd rfl (Or.inl rfl)) (pgs_more (pg_name (i := 2) sc.nd rfl (Or.inl rfl)) (pgs_names))))) (js_one (js_if (jt_tru (je_var (pv 2))) (js_cons (js_set (i := 3) sc.nd rfl (Or.inl rfl) (je_sub (je_callB call_lenM mc_len (by rfl) (F.free 17) PySem.boot_len (ja_cons (je_var (pv 1)) (ja_nil))) (je_callB call_lenM mc_len (by rfl) (F.free 17) PySem.boot_len (ja_cons (je_var (pv 4)) (ja_nil))))) (js_one (js_asg (je_lst (ja_cons (je_callT call_tuple_of mc_tuple (by rfl) (F.free 23) PyProof.Rows.boot_tuple (ja_cons (je_slice (je_var (pv 1)) (jp_some (je_var (pv 3))) (jp_none)) (ja_nil))) (ja_nil))) (jg_tail (je_var (pv 1)) (je_var (pv 3)))))) (js_one (js_if (jt_tru (je_isTyT (cs := ["list", "tuple"]) (by rfl) (F.free 20) (by decide +kernel) (je_var (pv 4)) (pa_cons (pe_bltn (v := .ty "list") (by rfl) (F.free 3) (by decide +kernel) rfl) (pa_cons (pe_bltn (v := .ty "tuple") (by rfl) (F.free 23) (by decide +kernel) rfl) (pa_nil))) (by simp))) (js_cons (js_expr (je_bm PySem.F.plainAttrs_list PySem.F.slot_list_append PySem.F.type_list_append mt_append mm_app (je_var (pv 5)) (ja_cons (je_tup (ja_cons (je_var (pv 4)) (ja_cons (je_bl) (ja_nil)))) (ja_nil)))) (js_one (js_expr (je_bm PySem.F.plainAttrs_list PySem.F.slot_list_extend PySem.F.type_list_extend mt_extA mm_extA (je_var (pv 5)) (ja_cons (je_lcA (c := .one 6) [("inner", 6)] rfl rfl sc.nd (ji_rev (by rfl) (F.free 45) (je_var (pv 4))) (blkOk_by (own := [("inner", 6)]) (N := sl_as_tuples) (sc := defScope s_as_tuples) (by decide +kernel)) (fun _ _ _ _ _ => pg_name (i := 6) sc.nd rfl (Or.inl rfl)) (fun _ _ _ _ _ => jts_nil) (fun _ _ _ _ _ => je_tup (ja_cons (je_var (pv 6)) (ja_cons (je_bl) (ja_nil)))) (by decide)) (ja_nil)))))) (js_one (js_expr (je_bm PySem.F.plainAttrs_list PySem.F.slot_list_append PySem.F.type_list_append mt_append mm_app (je_var (pv 1)) (ja_cons (je_var (pv 4)) (ja_nil))))))))))) (js_one (js_ret (je_ix (hu_of hr) (je_var (pv 1)) (je_int))))))
theorem ok_as_tuples (F : W K mg) : FM P w K mg base (tN K) 1 (He.fAd K d_as_tuples.at_) 1 [] m_as_tuples := by
  obtain ⟨fd, D⟩ := F.c.def_ 21 (d := d_as_tuples) rfl
  exact FM.of0 (ps := ["tree"]) D (fn_as_tuples F D) rfl (fun _ _ _ _ _ _ us hl => match us, hl with | [_], _ => rfl)
def b_Disk_write : MS := gSeq (gExpr (gMeth 1 348538353417950755963802525141600950949726012270321967488514151921221727 m_Disk__check_place [] 2 (gVar 0) (gCons (gVar 1) (gNil)))) (gSeq (gExpr (gMeth 1 4705521155757709195119605160345695 m_Disk__count [] 1 (gVar 0) gNil)) (gSeq (gAsg (gCall m_as_tuples [] 1 (gCons (gVar 2) (gNil))) (tgName 3)) (gSeq (gAsg (gVar 3) (tgSub (gFld [1] 4462132414599151834275831881924703 (gVar 0)) (gVar 1))) (gSeq (gExpr (gBM "list" lApp (gFld [1] 4097048964362169311339300488478815 (gVar 0)) (gCons (gTup (gCons (gVar 1) (gCons (gVar 3) (gNil)))) (gNil)))) (gFldAug [1] 9783122146025964529499104918003653804127 (fun i j => i + j) (gVar 0) (gC (.int 1)))))))
def m_Disk_write : MF := gBody 4 b_Disk_write
theorem sc_Disk_write : FnScope ["self", "place", "block", "copied"] ["self", "place", "block"] (defScope s_Disk_write) :=
  ⟨rfl, rfl, rfl, by decide +kernel, rfl, by decide +kernel, by decide +kernel⟩
theorem fn_Disk_write (F : W K mg) {fd : FuncData} (D : FunD K d_Disk_write.name d_Disk_write.qual d_Disk_write.params d_Disk_write.body d_Disk_write.scope (d_Disk_write.dvs K) (d_Disk_write.kws K) (He.fAd K d_Disk_write.at_) fd) :
    FnG P w K mg base (L2.CX P w) 4 (He.fAd K d_Disk_write.at_) fd ["self", "place", "block"] (spM ⟨K, tN K⟩ 3 m_Disk_write) :=
  def_MD D sc_Disk_write b_Disk_write fun cdv A outer s H E hs hr => by
    have sc := sc_Disk_write
    exact js_cons (js_expr (je_meth (c := 1) (ok_Disk__check_place F) (F.cls 4) (F.meth 29) n__check_place hs (hr.mono (by decide)) pass_M (je_var (pv 0)) (ja_cons (je_var (pv 1)) (ja_nil)))) (js_cons (js_expr (je_meth0 (c := 1) (ok_Disk__count F) (F.cls 4) (F.meth 44) n__count hs (hr.mono (by decide)) pass_M (je_var (pv 0)))) (js_cons (js_set (i := 3) sc.nd rfl (Or.inl rfl) (je_call (ok_as_tuples F) hs (hr.mono (by decide)) pass_M (by rfl) (F.glo 46) (ja_cons (je_var (pv 2)) (ja_nil)))) (js_cons (js_asg (je_var (pv 3)) (jg_sub (hu_of hr) (je_fld (je_var (pv 0)) (fk_Disk__shown F) n__shown) (je_var (pv 1)))) (js_cons (js_expr (je_bm PySem.F.plainAttrs_list PySem.F.slot_list_append PySem.F.type_list_append mt_append mm_app (je_fld (je_var (pv 0)) (fk_Disk__loose F) n__loose) (ja_cons (je_tup (ja_cons (je_var (pv 1)) (ja_cons (je_var (pv 3)) (ja_nil)))) (ja_nil)))) (js_one (js_fldaug (je_var (pv 0)) (je_int) (fk_Disk__writes F) n__writes aug_add))))))
theorem ok_Disk_write (F : W K mg) : FM P w K mg base (tN K) 4 (He.fAd K d_Disk_write.at_) 3 [] m_Disk_write := by
  obtain ⟨fd, D⟩ := F.c.def_ 22 (d := d_Disk_write) rfl
  exact FM.of0 (ps := ["self", "place", "block"]) D (fn_Disk_write F D) rfl (fun _ _ _ _ _ _ us hl => match us, hl with | [_, _, _], _ => rfl)
def b_packed : MS := gSeq (gAsg (gLst (gCons (gC (.str [108, 111, 103])) (gCons (gVar 0) (gCons (gVar 1) (gCons (gVar 2) (gCons (gCB (f1 mLenV) (gCons (gVar 3) (gNil))) (gNil))))))) (tgName 4)) (gSeq (gFor (gIter (gVar 3)) (tgName 5) (gSeq (gExpr (gBM "list" lApp (gVar 4) (gCons (gCB (f1 mLenV) (gCons (gVar 5) (gNil))) (gNil)))) (gExpr (gBM "list" lExtA (gVar 4) (gCons (gVar 5) (gNil)))))) (gRet (gCB (f1 mTuple) (gCons (gVar 4) (gNil)))))
def m_packed : MF := gBody 6 b_packed
theorem sc_packed : FnScope ["number", "epoch", "first", "records", "atoms", "record"] ["number", "epoch", "first", "records"] (defScope s_packed) :=
  ⟨rfl, rfl, rfl, by decide +kernel, rfl, by decide +kernel, by decide +kernel⟩
theorem fn_packed (F : W K mg) {fd : FuncData} (D : FunD K d_packed.name d_packed.qual d_packed.params d_packed.body d_packed.scope (d_packed.dvs K) (d_packed.kws K) (He.fAd K d_packed.at_) fd) :
    FnG P w K mg base (L2.CX P w) 1 (He.fAd K d_packed.at_) fd ["number", "epoch", "first", "records"] (spM ⟨K, tN K⟩ 4 m_packed) :=
  def_MD D sc_packed b_packed fun cdv A outer s H E hs hr => by
    have sc := sc_packed
    exact js_cons (js_set (i := 4) sc.nd rfl (Or.inl rfl) (je_lst (ja_cons (je_glS (l := [108, 111, 103]) (by rfl) (F.str 25)) (ja_cons (je_var (pv 0)) (ja_cons (je_var (pv 1)) (ja_cons (je_var (pv 2)) (ja_cons (je_callB call_lenM mc_len (by rfl) (F.free 17) PySem.boot_len (ja_cons (je_var (pv 3)) (ja_nil))) (ja_nil)))))))) (js_cons (js_for own_M rfl (ji_seq (je_var (pv 3))) (jg_name (pg_name (i := 5) sc.nd rfl (Or.inl rfl))) (js_cons (js_expr (je_bm PySem.F.plainAttrs_list PySem.F.slot_list_append PySem.F.type_list_append mt_append mm_app (je_var (pv 4)) (ja_cons (je_callB call_lenM mc_len (by rfl) (F.free 17) PySem.boot_len (ja_cons (je_var (pv 5)) (ja_nil))) (ja_nil)))) (js_one (js_expr (je_bm PySem.F.plainAttrs_list PySem.F.slot_list_extend PySem.F.type_list_extend mt_extA mm_extA (je_var (pv 4)) (ja_cons (je_var (pv 5)) (ja_nil))))))) (js_one (js_ret (je_callT call_tuple_of mc_tuple (by rfl) (F.free 23) PyProof.Rows.boot_tuple (ja_cons (je_var (pv 4)) (ja_nil))))))
theorem ok_packed (F : W K mg) : FM P w K mg base (tN K) 1 (He.fAd K d_packed.at_) 4 [] m_packed := by
  obtain ⟨fd, D⟩ := F.c.def_ 23 (d := d_packed) rfl
  exact FM.of0 (ps := ["number", "epoch", "first", "records"]) D (fn_packed F D) rfl (fun _ _ _ _ _ _ us hl => match us, hl with | [_, _, _, _], _ => rfl)
end
end K47
set_option Elab.async false
set_option linter.all false
set_option maxRecDepth 100000
set_option maxHeartbeats 8000000
namespace K47
open PySem PySem.Spec PyProof.Rows L2 JB MI
section
variable {P : Program} {w : World} {K : PySem.W.Frag} {mg : Str → Option Value} {base : Heap}
def b_Log_flush : MS := gSeq (gAsg (gCall m_packs [] 1 (gCons (gMeth 0 9783122105461106636624876568225953874034 m_Log_records [] 2 (gVar 0) (gCons (gFld [0] 1953625065281615116265062495 (gVar 0)) (gNil))) (gNil))) (tgName 3)) (gSeq (gIfS (gNot (gTru (gVar 3))) (gRetN) (gNext)) (gSeq (gIfS (gB (gBin mGtI (gCB (f1 mLenV) (gCons (gVar 3) (gNil))) (gMeth 0 1005348040200566079602 m_Log_room [] 1 (gVar 0) gNil))) (gRaise1 5 2243767335776190373954584675 (gFld [0] 4705521155757709195119605160345695 (gVar 0))) (gNext)) (gSeq (gFor (gIter (gVar 3)) (tgName 2) (gSeq (gAsg (gBin mAdd (gFld [0] 4705521252471747094147440299737183 (gVar 0)) (gBin mMod (gFld [0] 176069065312544551970550402127306593753578779473364670370858139743 (gVar 0)) (gFld [0] 4705521155757709195119605160345695 (gVar 0)))) (tgName 1)) (gSeq (gExpr (gMeth 1 1953625194408858816601915511 m_Disk_write [] 3 (gFld [0] 2069682063868491180489572447 (gVar 0)) (gCons (gVar 1) (gCons (gCall m_packed [] 4 (gCons (gFld [0] 176069065312544551970550402127306593753578779473364670370858139743 (gVar 0)) (gCons (gFld [0] 4218743112499069512542313303244895 (gVar 0)) (gCons (gFld [0] 1953625065281615116265062495 (gVar 0)) (gCons (gVar 2) (gNil)))))) (gNil))))) (gSeq (gFldAug [0] 176069065312544551970550402127306593753578779473364670370858139743 (fun i j => i + j) (gVar 0) (gC (.int 1))) (gFldAug [0] 1953625065281615116265062495 (fun i j => i + j) (gVar 0) (gCB (f1 mLenV) (gCons (gVar 2) (gNil)))))))) (gExpr (gMeth 1 9698051554295517142772019439742610309218 m_Disk_barrier [] 1 (gFld [0] 2069682063868491180489572447 (gVar 0)) gNil)))))
def m_Log_flush : MF := gBody 4 b_Log_flush
theorem sc_Log_flush : FnScope ["self", "place", "records", "rows"] ["self"] (defScope s_Log_flush) :=
  ⟨rfl, rfl, rfl, by decide +kernel, rfl, by decide +kernel, by decide +kernel⟩
theorem fn_Log_flush (F : W K mg) {fd : FuncData} (D : FunD K d_Log_flush.name d_Log_flush.qual d_Log_flush.params d_Log_flush.body d_Log_flush.scope (d_Log_flush.dvs K) (d_Log_flush.kws K) (He.fAd K d_Log_flush.at_) fd) :
    FnG P w K mg base (L2.CX P w) 5 (He.fAd K d_Log_flush.at_) fd ["self"] (spM ⟨K, tN K⟩ 1 m_Log_flush) :=
  def_MD D sc_Log_flush b_Log_flush fun cdv A outer s H E hs hr => by
    have sc := sc_Log_flush
    exact js_cons (js_set (i := 3) sc.nd rfl (Or.inl rfl) (je_call (ok_packs F) hs (hr.mono (by decide)) pass_M (by rfl) (F.glo 47) (ja_cons (je_meth (c := 0) (ok_Log_records F) (F.cls 12) (F.meth 48) n_records hs (hr.mono (by decide)) pass_M (je_var (pv 0)) (ja_cons (je_fld (je_var (pv 0)) (fk_Log__safe F) n__safe) (ja_nil))) (ja_nil)))) (js_cons (js_if (jt_not (jt_tru (je_var (pv 3)))) (js_one (js_retN)) (js_nil)) (js_cons (js_if (jt_gt (je_callB call_lenM mc_len (by rfl) (F.free 17) PySem.boot_len (ja_cons (je_var (pv 3)) (ja_nil))) (je_meth0 (c := 0) (ok_Log_room F) (F.cls 12) (F.meth 49) n_room hs (hr.mono (by decide)) pass_M (je_var (pv 0)))) (js_one (js_raise1 (c := 5) n_count (takes_of rfl rfl rfl rfl) rfl rfl hs (hr.mono (by decide)) (er_Full F) (by rfl) (je_fld (je_var (pv 0)) (fk_Log__count F) n__count))) (js_nil)) (js_cons (js_for own_M rfl (ji_seq (je_var (pv 3))) (jg_name (pg_name (i := 2) sc.nd rfl (Or.inl rfl))) (js_cons (js_set (i := 1) sc.nd rfl (Or.inl rfl) (je_add (je_fld (je_var (pv 0)) (fk_Log__first F) n__first) (je_mod (je_fld (je_var (pv 0)) (fk_Log__next_block F) n__next_block) (je_fld (je_var (pv 0)) (fk_Log__count F) n__count)))) (js_cons (js_expr (je_meth (c := 1) (ok_Disk_write F) (F.cls 4) (F.meth 51) n_write hs (hr.mono (by decide)) pass_M (je_fld (je_var (pv 0)) (fk_Log__disk F) n__disk) (ja_cons (je_var (pv 1)) (ja_cons (je_call (ok_packed F) hs (hr.mono (by decide)) pass_M (by rfl) (F.glo 52) (ja_cons (je_fld (je_var (pv 0)) (fk_Log__next_block F) n__next_block) (ja_cons (je_fld (je_var (pv 0)) (fk_Log__epoch F) n__epoch) (ja_cons (je_fld (je_var (pv 0)) (fk_Log__safe F) n__safe) (ja_cons (je_var (pv 2)) (ja_nil)))))) (ja_nil))))) (js_cons (js_fldaug (je_var (pv 0)) (je_int) (fk_Log__next_block F) n__next_block aug_add) (js_one (js_fldaug (je_var (pv 0)) (je_callB call_lenM mc_len (by rfl) (F.free 17) PySem.boot_len (ja_cons (je_var (pv 2)) (ja_nil))) (fk_Log__safe F) n__safe aug_add)))))) (js_one (js_expr (je_meth0 (c := 1) (ok_Disk_barrier F) (F.cls 4) (F.meth 53) n_barrier hs (hr.mono (by decide)) pass_M (je_fld (je_var (pv 0)) (fk_Log__disk F) n__disk)))))))
theorem ok_Log_flush (F : W K mg) : FM P w K mg base (tN K) 5 (He.fAd K d_Log_flush.at_) 1 [] m_Log_flush := by
  obtain ⟨fd, D⟩ := F.c.def_ 24 (d := d_Log_flush) rfl
  exact FM.of0 (ps := ["self"]) D (fn_Log_flush F D) rfl (fun _ _ _ _ _ _ us hl => match us, hl with | [_], _ => rfl)
def b_Disk_writes : MS := gRet (gFld [1] 9783122146025964529499104918003653804127 (gVar 0))
def m_Disk_writes : MF := gBody 1 b_Disk_writes
theorem sc_Disk_writes : FnScope ["self"] ["self"] (defScope s_Disk_writes) :=
  ⟨rfl, rfl, rfl, by decide +kernel, rfl, by decide +kernel, by decide +kernel⟩
theorem fn_Disk_writes (F : W K mg) {fd : FuncData} (D : FunD K d_Disk_writes.name d_Disk_writes.qual d_Disk_writes.params d_Disk_writes.body d_Disk_writes.scope (d_Disk_writes.dvs K) (d_Disk_writes.kws K) (He.fAd K d_Disk_writes.at_) fd) :
    FnG P w K mg base (L2.CX P w) 1 (He.fAd K d_Disk_writes.at_) fd ["self"] (spM ⟨K, tN K⟩ 1 m_Disk_writes) :=
  def_MD D sc_Disk_writes b_Disk_writes fun cdv A outer s H E hs hr => by
    have sc := sc_Disk_writes
    exact js_one (js_ret (je_fld (je_var (pv 0)) (fk_Disk__writes F) n__writes))
theorem ok_Disk_writes (F : W K mg) : FM P w K mg base (tN K) 1 (He.fAd K d_Disk_writes.at_) 1 [] m_Disk_writes := by
  obtain ⟨fd, D⟩ := F.c.def_ 25 (d := d_Disk_writes) rfl
  exact FM.of0 (ps := ["self"]) D (fn_Disk_writes F D) rfl (fun _ _ _ _ _ _ us hl => match us, hl with | [_], _ => rfl)
def b_Log_append : MS := gSeq (gExpr (gBM "list" lApp (gFld [0] 20516694089711970705211133144808195618838151263 (gVar 0)) (gCons (gCB (f1 mTuple) (gCons (gVar 1) (gNil))) (gNil)))) (gRet (gBin mSub (gMeth 0 1116028500244747518061 m_Log_many [] 1 (gVar 0) gNil) (gC (.int 1))))
def m_Log_append : MF := gBody 2 b_Log_append
theorem sc_Log_append : FnScope ["self", "record"] ["self", "record"] (defScope s_Log_append) :=
  ⟨rfl, rfl, rfl, by decide +kernel, rfl, by decide +kernel, by decide +kernel⟩
theorem fn_Log_append (F : W K mg) {fd : FuncData} (D : FunD K d_Log_append.name d_Log_append.qual d_Log_append.params d_Log_append.body d_Log_append.scope (d_Log_append.dvs K) (d_Log_append.kws K) (He.fAd K d_Log_append.at_) fd) :
    FnG P w K mg base (L2.CX P w) 2 (He.fAd K d_Log_append.at_) fd ["self", "record"] (spM ⟨K, tN K⟩ 2 m_Log_append) :=
  def_MD D sc_Log_append b_Log_append fun cdv A outer s H E hs hr => by
    have sc := sc_Log_append
    exact js_cons (js_expr (je_bm PySem.F.plainAttrs_list PySem.F.slot_list_append PySem.F.type_list_append mt_append mm_app (je_fld (je_var (pv 0)) (fk_Log__records F) n__records) (ja_cons (je_callT call_tuple_of mc_tuple (by rfl) (F.free 23) PyProof.Rows.boot_tuple (ja_cons (je_var (pv 1)) (ja_nil))) (ja_nil)))) (js_one (js_ret (je_sub (je_meth0 (c := 0) (ok_Log_many F) (F.cls 12) (F.meth 40) n_many hs (hr.mono (by decide)) pass_M (je_var (pv 0))) (je_int))))
theorem ok_Log_append (F : W K mg) : FM P w K mg base (tN K) 2 (He.fAd K d_Log_append.at_) 2 [] m_Log_append := by
  obtain ⟨fd, D⟩ := F.c.def_ 26 (d := d_Log_append) rfl
  exact FM.of0 (ps := ["self", "record"]) D (fn_Log_append F D) rfl (fun _ _ _ _ _ _ us hl => match us, hl with | [_, _], _ => rfl)
def b_Disk_loose : MS := gRet (gCB (f1 mList) (gCons (gFld [1] 4097048964362169311339300488478815 (gVar 0)) (gNil)))
def m_Disk_loose : MF := gBody 1 b_Disk_loose
theorem sc_Disk_loose : FnScope ["self"] ["self"] (defScope s_Disk_loose) :=
  ⟨rfl, rfl, rfl, by decide +kernel, rfl, by decide +kernel, by decide +kernel⟩
theorem fn_Disk_loose (F : W K mg) {fd : FuncData} (D : FunD K d_Disk_loose.name d_Disk_loose.qual d_Disk_loose.params d_Disk_loose.body d_Disk_loose.scope (d_Disk_loose.dvs K) (d_Disk_loose.kws K) (He.fAd K d_Disk_loose.at_) fd) :
    FnG P w K mg base (L2.CX P w) 1 (He.fAd K d_Disk_loose.at_) fd ["self"] (spM ⟨K, tN K⟩ 1 m_Disk_loose) :=
  def_MD D sc_Disk_loose b_Disk_loose fun cdv A outer s H E hs hr => by
    have sc := sc_Disk_loose
    exact js_one (js_ret (je_callT call_list_of mc_list (by rfl) (F.free 3) PyProof.Rows.boot_list (ja_cons (je_fld (je_var (pv 0)) (fk_Disk__loose F) n__loose) (ja_nil))))
theorem ok_Disk_loose (F : W K mg) : FM P w K mg base (tN K) 1 (He.fAd K d_Disk_loose.at_) 1 [] m_Disk_loose := by
  obtain ⟨fd, D⟩ := F.c.def_ 27 (d := d_Disk_loose) rfl
  exact FM.of0 (ps := ["self"]) D (fn_Disk_loose F D) rfl (fun _ _ _ _ _ _ us hl => match us, hl with | [_], _ => rfl)
abbrev sl_law_blocks_right : List Str := ["_law_own", "_law_again", "_law_due", "_law_eight", "_law_plate", "_law_roll", "_law_told_here", "_law_spot"]
def b_law_blocks_right : MS := gSeq (gAsg (gMake 1 m_Disk___init [] 2 (gCons (gC (.int 7)) (gNil))) (tgName 4)) (gSeq (gAsg (gMake 0 m_Log___init [.int 0, .int 0, .int 0] 7 (gCons (gVar 4) (gCons (gC (.int 2)) (gCons (gC (.int 4)) (gNil))))) (tgName 5)) (gSeq (gAsg (gLst (gCons (gMeth 0 1116028500244747518061 m_Log_many [] 1 (gVar 5) gNil) (gCons (gMeth 0 931561024323279913075 m_Log_safe [] 1 (gVar 5) gNil) (gCons (gMeth 0 2011653476953062778731495525 m_Log_epoch [] 1 (gVar 5) gNil) (gCons (gMeth 0 83956272751114154801631165565160080792226209389383635697774 m_Log_next_block [] 1 (gVar 5) gNil) (gCons (gMeth 0 9783122105461106636624876568225953874034 m_Log_records [] 2 (gVar 5) (gCons (gC (.int 0)) (gNil))) (gCons (gMeth 0 2011653624527041756678586470 m_Log_flush [] 1 (gVar 5) gNil) (gCons (gMeth 1 4664956162465078606366684397699191 m_Disk_writes [] 1 (gVar 4) gNil) (gNil))))))))) (tgName 6)) (gSeq (gIfS (gNot (gTru (gCall m_law_same [] 2 (gCons (gVar 6) (gCons (gLst (gCons (gC (.int 0)) (gCons (gC (.int 0)) (gCons (gC (.int 1)) (gCons (gC (.int 0)) (gCons (gLst (gNil)) (gCons (gC .non) (gCons (gC (.int 0)) (gNil))))))))) (gNil)))))) (gRet (gC (.bl false))) (gNext)) (gSeq (gAsg (gLst (gCons (gMeth 0 4056484048440708167605101516554337 m_Log_append [] 2 (gVar 5) (gCons (gTup (gCons (gC (.str [105, 110])) (gCons (gVar 0) (gNil)))) (gNil))) (gCons (gMeth 0 4056484048440708167605101516554337 m_Log_append [] 2 (gVar 5) (gCons (gLst (gCons (gC .non) (gNil))) (gNil))) (gCons (gMeth 0 2011653624527041756678586470 m_Log_flush [] 1 (gVar 5) gNil) (gCons (gMeth 1 922337630296200970354 m_Disk_read [] 2 (gVar 4) (gCons (gC (.int 2)) (gNil))) (gCons (gMeth 1 1953625185185513168019914860 m_Disk_loose [] 1 (gVar 4) gNil) (gCons (gMeth 0 931561024323279913075 m_Log_safe [] 1 (gVar 5) gNil) (gNil)))))))) (tgName 6)) (gSeq (gIfS (gNot (gTru (gCall m_law_same [] 2 (gCons (gVar 6) (gCons (gLst (gCons (gC (.int 0)) (gCons (gC (.int 1)) (gCons (gC .non) (gCons (gTup (gCons (gC (.str [108, 111, 103])) (gCons (gC (.int 0)) (gCons (gC (.int 1)) (gCons (gC (.int 0)) (gCons (gC (.int 2)) (gCons (gC (.int 2)) (gCons (gC (.str [105, 110])) (gCons (gVar 0) (gCons (gC (.int 1)) (gCons (gC .non) (gNil)))))))))))) (gCons (gLst (gNil)) (gCons (gC (.int 2)) (gNil)))))))) (gNil)))))) (gRet (gC (.bl false))) (gNext)) (gSeq (gAsg (gTup (gCons (gC (.int 1)) (gCons (gC (.int 2)) (gCons (gC (.int 3)) (gCons (gC (.int 4)) (gCons (gC (.int 5)) (gCons (gC (.int 6)) (gCons (gC (.int 7)) (gCons (gVar 0) (gNil)))))))))) (tgName 3)) (gSeq (gAsg (gLst (gCons (gMeth 0 4056484048440708167605101516554337 m_Log_append [] 2 (gVar 5) (gCons (gVar 3) (gNil))) (gCons (gMeth 0 4056484048440708167605101516554337 m_Log_append [] 2 (gVar 5) (gCons (gBin mMulA (gTup (gCons (gC (.str [98])) (gNil))) (gC (.int 8))) (gNil))) (gCons (gMeth 0 4056484048440708167605101516554337 m_Log_append [] 2 (gVar 5) (gCons (gTup (gCons (gC (.str [99])) (gNil))) (gNil))) (gCons (gMeth 0 2011653624527041756678586470 m_Log_flush [] 1 (gVar 5) gNil) (gCons (gMeth 0 83956272751114154801631165565160080792226209389383635697774 m_Log_next_block [] 1 (gVar 5) gNil) (gNil))))))) (tgName 6)) (gSeq (gIfS (gNot (gTru (gCall m_law_same [] 2 (gCons (gVar 6) (gCons (gLst (gCons (gC (.int 2)) (gCons (gC (.int 3)) (gCons (gC (.int 4)) (gCons (gC .non) (gCons (gC (.int 3)) (gNil))))))) (gNil)))))) (gRet (gC (.bl false))) (gNext)) (gSeq (gAsg (gLst (gCons (gBin mAdd (gBin mAdd (gBin mAdd (gTup (gCons (gC (.str [108, 111, 103])) (gCons (gC (.int 1)) (gCons (gC (.int 1)) (gCons (gC (.int 2)) (gCons (gC (.int 2)) (gCons (gC (.int 8)) (gNil)))))))) (gVar 3)) (gTup (gCons (gC (.int 8)) (gNil)))) (gBin mMulA (gTup (gCons (gC (.str [98])) (gNil))) (gC (.int 8)))) (gCons (gTup (gCons (gC (.str [108, 111, 103])) (gCons (gC (.int 2)) (gCons (gC (.int 1)) (gCons (gC (.int 4)) (gCons (gC (.int 1)) (gCons (gC (.int 1)) (gCons (gC (.str [99])) (gNil))))))))) (gCons (gTup (gNil)) (gCons (gTup (gNil)) (gNil)))))) (tgName 2)) (gSeq (gIfS (gNot (gTru (gCall m_law_same [] 2 (gCons (gLc (gIter (gTup (gCons (gC (.int 3)) (gCons (gC (.int 4)) (gCons (gC (.int 5)) (gCons (gC (.int 6)) (gNil))))))) (.one 7) (gYes) (gMeth 1 922337630296200970354 m_Disk_read [] 2 (gVar 4) (gCons (gVar 7) (gNil))) [7]) (gCons (gVar 2) (gNil)))))) (gRet (gC (.bl false))) (gNext)) (gSeq (gAsg (gMakeK 0 m_Log___init [.int 0, .int 0, .int 0] 7 1 3 [(0, 0), (2, 0), (2, 1), (2, 2), (1, 0), (1, 1), (1, 2)] (gNil) (gCons (gVar 4) (gCons (gC (.int 2)) (gCons (gC (.int 4)) (gNil))))) (tgName 1)) (gSeq (gAsg (gLst (gCons (gMeth 0 1116028500244747518061 m_Log_many [] 1 (gVar 1) gNil) (gCons (gMeth 0 931561024323279913075 m_Log_safe [] 1 (gVar 1) gNil) (gCons (gMeth 0 2011653476953062778731495525 m_Log_epoch [] 1 (gVar 1) gNil) (gCons (gMeth 0 83956272751114154801631165565160080792226209389383635697774 m_Log_next_block [] 1 (gVar 1) gNil) (gCons (gMeth 0 9783122105461106636624876568225953874034 m_Log_records [] 2 (gVar 1) (gCons (gC (.int 3)) (gNil))) (gNil))))))) (tgName 6)) (gRet (gCall m_law_same [] 2 (gCons (gVar 6) (gCons (gLst (gCons (gC (.int 5)) (gCons (gC (.int 5)) (gCons (gC (.int 2)) (gCons (gC (.int 3)) (gCons (gLst (gCons (gBin mMulA (gTup (gCons (gC (.str [98])) (gNil))) (gC (.int 8))) (gCons (gTup (gCons (gC (.str [99])) (gNil))) (gNil)))) (gNil))))))) (gNil)))))))))))))))))
def m_law_blocks_right : MF := gBody 8 b_law_blocks_right
theorem sc_law_blocks_right : FnScope ["_law_own", "_law_again", "_law_due", "_law_eight", "_law_plate", "_law_roll", "_law_told_here", "_law_spot"] ["_law_own"] (defScope s_law_blocks_right) :=
  ⟨rfl, rfl, rfl, by decide +kernel, rfl, by decide +kernel, by decide +kernel⟩
theorem fn_law_blocks_right (F : W K mg) {fd : FuncData} (D : FunD K d_law_blocks_right.name d_law_blocks_right.qual d_law_blocks_right.params d_law_blocks_right.body d_law_blocks_right.scope (d_law_blocks_right.dvs K) (d_law_blocks_right.kws K) (He.fAd K d_law_blocks_right.at_) fd) :
    FnG P w K mg base (L2.CX P w) 7 (He.fAd K d_law_blocks_right.at_) fd ["_law_own"] (spM ⟨K, tN K⟩ 1 m_law_blocks_right) :=
  def_MD D sc_law_blocks_right b_law_blocks_right fun cdv A outer s H E hs hr => by
    have sc := sc_law_blocks_right
    exact js_cons (js_set (i := 4) sc.nd rfl (Or.inr rfl) (je_make (c := 1) (ok_Disk___init F) (F.mkr 54) hs (hr.mono (by decide)) pass_M (by rfl) (F.glo 8) (ja_cons (je_int) (ja_nil)))) (js_cons (js_set (i := 5) sc.nd rfl (Or.inl rfl) (je_make (c := 0) (ok_Log___init_d3 F) (F.mkr 55) hs (hr.mono (by decide)) pass_M (by rfl) (F.glo 19) (ja_cons (je_var (pv 4)) (ja_cons (je_int) (ja_cons (je_int) (ja_nil)))))) (js_cons (js_set (i := 6) sc.nd rfl (Or.inl rfl) (je_lst (ja_cons (je_meth0 (c := 0) (ok_Log_many F) (F.cls 12) (F.meth 40) n_many hs (hr.mono (by decide)) pass_M (je_var (pv 5))) (ja_cons (je_meth0 (c := 0) (ok_Log_safe F) (F.cls 12) (F.meth 56) n_safe hs (hr.mono (by decide)) pass_M (je_var (pv 5))) (ja_cons (je_meth0 (c := 0) (ok_Log_epoch F) (F.cls 12) (F.meth 57) n_epoch hs (hr.mono (by decide)) pass_M (je_var (pv 5))) (ja_cons (je_meth0 (c := 0) (ok_Log_next_block F) (F.cls 12) (F.meth 58) n_next_block hs (hr.mono (by decide)) pass_M (je_var (pv 5))) (ja_cons (je_meth (c := 0) (ok_Log_records F) (F.cls 12) (F.meth 48) n_records hs (hr.mono (by decide)) pass_M (je_var (pv 5)) (ja_cons (je_int) (ja_nil))) (ja_cons (je_meth0 (c := 0) (ok_Log_flush F) (F.cls 12) (F.meth 59) n_flush hs (hr.mono (by decide)) pass_M (je_var (pv 5))) (ja_cons (je_meth0 (c := 1) (ok_Disk_writes F) (F.cls 4) (F.meth 60) n_writes hs (hr.mono (by decide)) pass_M (je_var (pv 4))) (ja_nil)))))))))) (js_cons (js_if (jt_not (jt_tru (je_call (ok_law_same F) hs (hr.mono (by decide)) pass_M (by rfl) (F.glo 61) (ja_cons (je_var (pv 6)) (ja_cons (je_lst (ja_cons (je_int) (ja_cons (je_int) (ja_cons (je_int) (ja_cons (je_int) (ja_cons (je_lst (ja_nil)) (ja_cons (je_non) (ja_cons (je_int) (ja_nil))))))))) (ja_nil)))))) (js_one (js_ret (je_bl))) (js_nil)) (js_cons (js_set (i := 6) sc.nd rfl (Or.inl rfl) (je_lst (ja_cons (je_meth (c := 0) (ok_Log_append F) (F.cls 12) (F.meth 62) n_append hs (hr.mono (by decide)) pass_M (je_var (pv 5)) (ja_cons (je_tup (ja_cons (je_str (l := [105, 110])) (ja_cons (je_var (pv 0)) (ja_nil)))) (ja_nil))) (ja_cons (je_meth (c := 0) (ok_Log_append F) (F.cls 12) (F.meth 62) n_append hs (hr.mono (by decide)) pass_M (je_var (pv 5)) (ja_cons (je_lst (ja_cons (je_non) (ja_nil))) (ja_nil))) (ja_cons (je_meth0 (c := 0) (ok_Log_flush F) (F.cls 12) (F.meth 59) n_flush hs (hr.mono (by decide)) pass_M (je_var (pv 5))) (ja_cons (je_meth (c := 1) (ok_Disk_read F) (F.cls 4) (F.meth 35) n_read hs (hr.mono (by decide)) pass_M (je_var (pv 4)) (ja_cons (je_int) (ja_nil))) (ja_cons (je_meth0 (c := 1) (ok_Disk_loose F) (F.cls 4) (F.meth 63) n_loose hs (hr.mono (by decide)) pass_M (je_var (pv 4))) (ja_cons (je_meth0 (c := 0) (ok_Log_safe F) (F.cls 12) (F.meth 56) n_safe hs (hr.mono (by decide)) pass_M (je_var (pv 5))) (ja_nil))))))))) (js_cons (js_if (jt_not (jt_tru (je_call (ok_law_same F) hs (hr.mono (by decide)) pass_M (by rfl) (F.glo 61) (ja_cons (je_var (pv 6)) (ja_cons (je_lst (ja_cons (je_int) (ja_cons (je_int) (ja_cons (je_non) (ja_cons (je_tup (ja_cons (je_str (l := [108, 111, 103])) (ja_cons (je_int) (ja_cons (je_int) (ja_cons (je_int) (ja_cons (je_int) (ja_cons (je_int) (ja_cons (je_str (l := [105, 110])) (ja_cons (je_var (pv 0)) (ja_cons (je_int) (ja_cons (je_non) (ja_nil)))))))))))) (ja_cons (je_lst (ja_nil)) (ja_cons (je_int) (ja_nil)))))))) (ja_nil)))))) (js_one (js_ret (je_bl))) (js_nil)) (js_cons (js_set (i := 3) sc.nd rfl (Or.inl rfl) (je_tup (ja_cons (je_int) (ja_cons (je_int) (ja_cons (je_int) (ja_cons (je_int) (ja_cons (je_int) (ja_cons (je_int) (ja_cons (je_int) (ja_cons (je_var (pv 0)) (ja_nil))))))))))) (js_cons (js_set (i := 6) sc.nd rfl (Or.inl rfl) (je_lst (ja_cons (je_meth (c := 0) (ok_Log_append F) (F.cls 12) (F.meth 62) n_append hs (hr.mono (by decide)) pass_M (je_var (pv 5)) (ja_cons (je_var (pv 3)) (ja_nil))) (ja_cons (je_meth (c := 0) (ok_Log_append F) (F.cls 12) (F.meth 62) n_append hs (hr.mono (by decide)) pass_M (je_var (pv 5)) (ja_cons (je_mulA (je_tup (ja_cons (je_str (l := [98])) (ja_nil))) (je_int)) (ja_nil))) (ja_cons (je_meth (c := 0) (ok_Log_append F) (F.cls 12) (F.meth 62) n_append hs (hr.mono (by decide)) pass_M (je_var (pv 5)) (ja_cons (je_tup (ja_cons (je_str (l := [99])) (ja_nil))) (ja_nil))) (ja_cons (je_meth0 (c := 0) (ok_Log_flush F) (F.cls 12) (F.meth 59) n_flush hs (hr.mono (by decide)) pass_M (je_var (pv 5))) (ja_cons (je_meth0 (c := 0) (ok_Log_next_block F) (F.cls 12) (F.meth 58) n_next_block hs (hr.mono (by decide)) pass_M (je_var (pv 5))) (ja_nil)))))))) (js_cons (js_if (jt_not (jt_tru (je_call (ok_law_same F) hs (hr.mono (by decide)) pass_M (by rfl) (F.glo 61) (ja_cons (je_var (pv 6)) (ja_cons (je_lst (ja_cons (je_int) (ja_cons (je_int) (ja_cons (je_int) (ja_cons (je_non) (ja_cons (je_int) (ja_nil))))))) (ja_nil)))))) (js_one (js_ret (je_bl))) (js_nil)) (js_cons (js_set (i := 2) sc.nd rfl (Or.inl rfl) (je_lst (ja_cons (je_add (je_add (je_add (je_tup (ja_cons (je_str (l := [108, 111, 103])) (ja_cons (je_int) (ja_cons (je_int) (ja_cons (je_int) (ja_cons (je_int) (ja_cons (je_int) (ja_nil)))))))) (je_var (pv 3))) (je_tup (ja_cons (je_int) (ja_nil)))) (je_mulA (je_tup (ja_cons (je_str (l := [98])) (ja_nil))) (je_int))) (ja_cons (je_tup (ja_cons (je_str (l := [108, 111, 103])) (ja_cons (je_int) (ja_cons (je_int) (ja_cons (je_int) (ja_cons (je_int) (ja_cons (je_int) (ja_cons (je_str (l := [99])) (ja_nil))))))))) (ja_cons (je_tup (ja_nil)) (ja_cons (je_tup (ja_nil)) (ja_nil))))))) (js_cons (js_if (jt_not (jt_tru (je_call (ok_law_same F) hs (hr.mono (by decide)) pass_M (by rfl) (F.glo 61) (ja_cons (je_lcA (c := .one 7) [("_law_spot", 7)] rfl rfl sc.nd (ji_seq (je_tup (ja_cons (je_int) (ja_cons (je_int) (ja_cons (je_int) (ja_cons (je_int) (ja_nil))))))) (blkOk_by (own := [("_law_spot", 7)]) (N := sl_law_blocks_right) (sc := defScope s_law_blocks_right) (by decide +kernel)) (fun _ _ _ _ _ => pg_name (i := 7) sc.nd rfl (Or.inl rfl)) (fun _ _ _ _ _ => jts_nil) (fun _ _ _ _ _ => je_meth (c := 1) (ok_Disk_read F) (F.cls 4) (F.meth 35) n_read hs (hr.mono (by decide)) pass_E00 (je_var (pv 4)) (ja_cons (je_var (pv 7)) (ja_nil))) (by decide)) (ja_cons (je_var (pv 2)) (ja_nil)))))) (js_one (js_ret (je_bl))) (js_nil)) (js_cons (js_set (i := 1) sc.nd rfl (Or.inl rfl) (je_makeK0 (c := 0) (ok_Log___init_k0 F) (F.mkr 55) hs (hr.mono (by decide)) pass_M (by rfl) (F.glo 19) (jk_cons (je_var (pv 4)) (jk_cons (je_int) (jk_cons (je_int) (jk_nil)))))) (js_cons (js_set (i := 6) sc.nd rfl (Or.inl rfl) (je_lst (ja_cons (je_meth0 (c := 0) (ok_Log_many F) (F.cls 12) (F.meth 40) n_many hs (hr.mono (by decide)) pass_M (je_var (pv 1))) (ja_cons (je_meth0 (c := 0) (ok_Log_safe F) (F.cls 12) (F.meth 56) n_safe hs (hr.mono (by decide)) pass_M (je_var (pv 1))) (ja_cons (je_meth0 (c := 0) (ok_Log_epoch F) (F.cls 12) (F.meth 57) n_epoch hs (hr.mono (by decide)) pass_M (je_var (pv 1))) (ja_cons (je_meth0 (c := 0) (ok_Log_next_block F) (F.cls 12) (F.meth 58) n_next_block hs (hr.mono (by decide)) pass_M (je_var (pv 1))) (ja_cons (je_meth (c := 0) (ok_Log_records F) (F.cls 12) (F.meth 48) n_records hs (hr.mono (by decide)) pass_M (je_var (pv 1)) (ja_cons (je_int) (ja_nil))) (ja_nil)))))))) (js_one (js_ret (je_call (ok_law_same F) hs (hr.mono (by decide)) pass_M (by rfl) (F.glo 61) (ja_cons (je_var (pv 6)) (ja_cons (je_lst (ja_cons (je_int) (ja_cons (je_int) (ja_cons (je_int) (ja_cons (je_int) (ja_cons (je_lst (ja_cons (je_mulA (je_tup (ja_cons (je_str (l := [98])) (ja_nil))) (je_int)) (ja_cons (je_tup (ja_cons (je_str (l := [99])) (ja_nil))) (ja_nil)))) (ja_nil))))))) (ja_nil))))))))))))))))))
theorem ok_law_blocks_right (F : W K mg) : FM P w K mg base (tN K) 7 (He.fAd K d_law_blocks_right.at_) 1 [] m_law_blocks_right := by
  obtain ⟨fd, D⟩ := F.c.def_ 28 (d := d_law_blocks_right) rfl
  exact FM.of0 (ps := ["_law_own"]) D (fn_law_blocks_right F D) rfl (fun _ _ _ _ _ _ us hl => match us, hl with | [_], _ => rfl)
def b_Disk_fail_after : MS := gFldS [1] 2243767261989143710365909087 (gVar 1) (gVar 0)
def m_Disk_fail_after : MF := gBody 2 b_Disk_fail_after
theorem sc_Disk_fail_after : FnScope ["self", "many"] ["self", "many"] (defScope s_Disk_fail_after) :=
  ⟨rfl, rfl, rfl, by decide +kernel, rfl, by decide +kernel, by decide +kernel⟩
theorem fn_Disk_fail_after (F : W K mg) {fd : FuncData} (D : FunD K d_Disk_fail_after.name d_Disk_fail_after.qual d_Disk_fail_after.params d_Disk_fail_after.body d_Disk_fail_after.scope (d_Disk_fail_after.dvs K) (d_Disk_fail_after.kws K) (He.fAd K d_Disk_fail_after.at_) fd) :
    FnG P w K mg base (L2.CX P w) 1 (He.fAd K d_Disk_fail_after.at_) fd ["self", "many"] (spM ⟨K, tN K⟩ 2 m_Disk_fail_after) :=
  def_MD D sc_Disk_fail_after b_Disk_fail_after fun cdv A outer s H E hs hr => by
    have sc := sc_Disk_fail_after
    exact js_one (js_fld (je_var (pv 0)) (je_var (pv 1)) (fk_Disk__left F) n__left)
theorem ok_Disk_fail_after (F : W K mg) : FM P w K mg base (tN K) 1 (He.fAd K d_Disk_fail_after.at_) 2 [] m_Disk_fail_after := by
  obtain ⟨fd, D⟩ := F.c.def_ 29 (d := d_Disk_fail_after) rfl
  exact FM.of0 (ps := ["self", "many"]) D (fn_Disk_fail_after F D) rfl (fun _ _ _ _ _ _ us hl => match us, hl with | [_, _], _ => rfl)
def b_Disk_crash : MS := gSeq (gFor (gIter (gVar 1)) (tgName 3) (gIfS (gOr (gB (gBin mLtI (gVar 3) (gC (.int 0)))) (gB (gBin mGeI (gVar 3) (gCB (f1 mLenV) (gCons (gFld [1] 4097048964362169311339300488478815 (gVar 0)) (gNil)))))) (gRaise1 6 4624391343257609244839718701498478 (gVar 3)) (gNext))) (gSeq (gFor (gIter (gVar 1)) (tgName 3) (gSeq (gAsg (gBin mIx (gFld [1] 4097048964362169311339300488478815 (gVar 0)) (gVar 3)) (tgTup [4, 2])) (gAsg (gVar 2) (tgSub (gFld [1] 18375823401358583102693711332145945774615691359 (gVar 0)) (gVar 4))))) (gSeq (gExpr (gMeth 1 922337678674733564008 m_Disk_hold [] 2 (gVar 0) (gCons (gFld [1] 18375823401358583102693711332145945774615691359 (gVar 0)) (gNil)))) (gFldS [1] 2243767261989143710365909087 (gC .non) (gVar 0))))
def m_Disk_crash : MF := gBody 5 b_Disk_crash
theorem sc_Disk_crash : FnScope ["self", "kept", "block", "index", "place"] ["self", "kept"] (defScope s_Disk_crash) :=
  ⟨rfl, rfl, rfl, by decide +kernel, rfl, by decide +kernel, by decide +kernel⟩
theorem fn_Disk_crash (F : W K mg) {fd : FuncData} (D : FunD K d_Disk_crash.name d_Disk_crash.qual d_Disk_crash.params d_Disk_crash.body d_Disk_crash.scope (d_Disk_crash.dvs K) (d_Disk_crash.kws K) (He.fAd K d_Disk_crash.at_) fd) :
    FnG P w K mg base (L2.CX P w) 3 (He.fAd K d_Disk_crash.at_) fd ["self", "kept"] (spM ⟨K, tN K⟩ 2 m_Disk_crash) :=
  def_MD D sc_Disk_crash b_Disk_crash fun cdv A outer s H E hs hr => by
    have sc := sc_Disk_crash
    exact js_cons (js_for own_M rfl (ji_seq (je_var (pv 1))) (jg_name (pg_name (i := 3) sc.nd rfl (Or.inl rfl))) (js_one (js_if (PW.pt (jw_or (jt_lt (je_var (pv 3)) (je_int)) (jw_or1 (jt_ge (je_var (pv 3)) (je_callB call_lenM mc_len (by rfl) (F.free 17) PySem.boot_len (ja_cons (je_fld (je_var (pv 0)) (fk_Disk__loose F) n__loose) (ja_nil))))))) (js_one (js_raise1 (c := 6) n_number (takes_of rfl rfl rfl rfl) rfl rfl hs (hr.mono (by decide)) (er_NoLoose F) (by rfl) (je_var (pv 3)))) (js_nil)))) (js_cons (js_for own_M rfl (ji_seq (je_var (pv 1))) (jg_name (pg_name (i := 3) sc.nd rfl (Or.inl rfl))) (js_cons (js_asg (je_ix (hu_of hr) (je_fld (je_var (pv 0)) (fk_Disk__loose F) n__loose) (je_var (pv 3))) (jg_tup (is := [4, 2]) rfl (pgs_more (pg_name (i := 4) sc.nd rfl (Or.inl rfl)) (pgs_more (pg_name (i := 2) sc.nd rfl (Or.inl rfl)) (pgs_names))))) (js_one (js_asg (je_var (pv 2)) (jg_sub (hu_of hr) (je_fld (je_var (pv 0)) (fk_Disk__lasting F) n__lasting) (je_var (pv 4))))))) (js_cons (js_expr (je_meth (c := 1) (ok_Disk_hold F) (F.cls 4) (F.meth 9) n_hold hs (hr.mono (by decide)) pass_M (je_var (pv 0)) (ja_cons (je_fld (je_var (pv 0)) (fk_Disk__lasting F) n__lasting) (ja_nil)))) (js_one (js_fld (je_var (pv 0)) (je_non) (fk_Disk__left F) n__left))))
theorem ok_Disk_crash (F : W K mg) : FM P w K mg base (tN K) 3 (He.fAd K d_Disk_crash.at_) 2 [] m_Disk_crash := by
  obtain ⟨fd, D⟩ := F.c.def_ 30 (d := d_Disk_crash) rfl
  exact FM.of0 (ps := ["self", "kept"]) D (fn_Disk_crash F D) rfl (fun _ _ _ _ _ _ us hl => match us, hl with | [_, _], _ => rfl)
def b_law_tail_right : MS := gSeq (gAsg (gMake 1 m_Disk___init [] 2 (gCons (gC (.int 4)) (gNil))) (tgName 3)) (gSeq (gAsg (gMake 0 m_Log___init [.int 0, .int 0, .int 0] 7 (gCons (gVar 3) (gCons (gC (.int 0)) (gCons (gC (.int 4)) (gNil))))) (tgName 4)) (gSeq (gExpr (gMeth 0 4056484048440708167605101516554337 m_Log_append [] 2 (gVar 4) (gCons (gTup (gCons (gC (.str [97])) (gCons (gVar 0) (gNil)))) (gNil)))) (gSeq (gExpr (gMeth 0 2011653624527041756678586470 m_Log_flush [] 1 (gVar 4) gNil)) (gSeq (gFor (gIter (gTup (gCons (gC (.str [98])) (gCons (gC (.str [99])) (gNil))))) (tgName 5) (gSeq (gExpr (gMeth 0 4056484048440708167605101516554337 m_Log_append [] 2 (gVar 4) (gCons (gBin mMulA (gTup (gCons (gVar 5) (gNil))) (gC (.int 8))) (gNil)))) (gExpr (gMeth 0 4056484048440708167605101516554337 m_Log_append [] 2 (gVar 4) (gCons (gBin mMulA (gTup (gCons (gVar 5) (gNil))) (gC (.int 8))) (gNil)))))) (gSeq (gExpr (gMeth 1 89448737517867230812707293064732857783211392600279667966054 m_Disk_fail_after [] 2 (gVar 3) (gCons (gC (.int 2)) (gNil)))) (gSeq (gAsg (gC .non) (tgName 1)) (gSeq (gTryK (List.lookup · [(6, false), (7, false), (8, false), (2, false), (3, false), (4, true), (5, true)]) 6 (gMeth 0 2011653624527041756678586470 m_Log_flush [] 1 (gVar 4) gNil) (gAsg (gVar 6) (tgName 1))) (gSeq (gIfS (gOr (gNot (gTru (gUn (mIsE (List.lookup · [(6, false), (7, false), (8, false), (2, false), (3, false), (4, true), (5, false)])) (gVar 1)))) (gB (gBin mNeX (gCB (f1 mLenV) (gCons (gMeth 1 1953625185185513168019914860 m_Disk_loose [] 1 (gVar 3) gNil) (gNil))) (gC (.int 2))))) (gRet (gC (.bl false))) (gNext)) (gSeq (gExpr (gMeth 1 2011653624526953795760947299 m_Disk_crash [] 2 (gVar 3) (gCons (gLst (gCons (gC (.int 1)) (gNil))) (gNil)))) (gSeq (gAsg (gMake 0 m_Log___init [.int 0, .int 0, .int 0] 7 (gCons (gVar 3) (gCons (gC (.int 0)) (gCons (gC (.int 4)) (gNil))))) (tgName 4)) (gSeq (gIfS (gNot (gTru (gCall m_law_same [] 2 (gCons (gLst (gCons (gMeth 0 9783122105461106636624876568225953874034 m_Log_records [] 2 (gVar 4) (gCons (gC (.int 0)) (gNil))) (gCons (gMeth 0 2011653476953062778731495525 m_Log_epoch [] 1 (gVar 4) gNil) (gCons (gMeth 0 83956272751114154801631165565160080792226209389383635697774 m_Log_next_block [] 1 (gVar 4) gNil) (gNil))))) (gCons (gLst (gCons (gLst (gCons (gTup (gCons (gC (.str [97])) (gCons (gVar 0) (gNil)))) (gNil))) (gCons (gC (.int 2)) (gCons (gC (.int 1)) (gNil))))) (gNil)))))) (gRet (gC (.bl false))) (gNext)) (gSeq (gExpr (gMeth 0 4056484048440708167605101516554337 m_Log_append [] 2 (gVar 4) (gCons (gBin mMulA (gTup (gCons (gC (.str [100])) (gNil))) (gC (.int 8))) (gNil)))) (gSeq (gExpr (gMeth 0 4056484048440708167605101516554337 m_Log_append [] 2 (gVar 4) (gCons (gBin mMulA (gTup (gCons (gC (.str [101])) (gNil))) (gC (.int 8))) (gNil)))) (gSeq (gExpr (gMeth 0 2011653624527041756678586470 m_Log_flush [] 1 (gVar 4) gNil)) (gSeq (gExpr (gMeth 1 2011653624526953795760947299 m_Disk_crash [] 2 (gVar 3) (gCons (gTup (gNil)) (gNil)))) (gSeq (gAsg (gMake 0 m_Log___init [.int 0, .int 0, .int 0] 7 (gCons (gVar 3) (gCons (gC (.int 0)) (gCons (gC (.int 4)) (gNil))))) (tgName 4)) (gSeq (gAsg (gLst (gCons (gLst (gCons (gTup (gCons (gC (.str [97])) (gCons (gVar 0) (gNil)))) (gCons (gBin mMulA (gTup (gCons (gC (.str [100])) (gNil))) (gC (.int 8))) (gCons (gBin mMulA (gTup (gCons (gC (.str [101])) (gNil))) (gC (.int 8))) (gNil))))) (gCons (gC (.int 3)) (gCons (gC (.int 2)) (gCons (gBin mAdd (gBin mAdd (gBin mAdd (gTup (gCons (gC (.str [108, 111, 103])) (gCons (gC (.int 2)) (gCons (gC (.int 1)) (gCons (gC (.int 3)) (gCons (gC (.int 2)) (gCons (gC (.int 8)) (gNil)))))))) (gBin mMulA (gTup (gCons (gC (.str [99])) (gNil))) (gC (.int 8)))) (gTup (gCons (gC (.int 8)) (gNil)))) (gBin mMulA (gTup (gCons (gC (.str [99])) (gNil))) (gC (.int 8)))) (gNil)))))) (tgName 2)) (gRet (gCall m_law_same [] 2 (gCons (gLst (gCons (gMeth 0 9783122105461106636624876568225953874034 m_Log_records [] 2 (gVar 4) (gCons (gC (.int 0)) (gNil))) (gCons (gMeth 0 2011653476953062778731495525 m_Log_epoch [] 1 (gVar 4) gNil) (gCons (gMeth 0 83956272751114154801631165565160080792226209389383635697774 m_Log_next_block [] 1 (gVar 4) gNil) (gCons (gMeth 1 922337630296200970354 m_Disk_read [] 2 (gVar 3) (gCons (gC (.int 2)) (gNil))) (gNil)))))) (gCons (gVar 2) (gNil))))))))))))))))))))))
def m_law_tail_right : MF := gBody 7 b_law_tail_right
theorem sc_law_tail_right : FnScope ["_law_own", "_law_caught", "_law_due", "_law_plate", "_law_roll", "_law_text_so", "error"] ["_law_own"] (defScope s_law_tail_right) :=
  ⟨rfl, rfl, rfl, by decide +kernel, rfl, by decide +kernel, by decide +kernel⟩
theorem fn_law_tail_right (F : W K mg) {fd : FuncData} (D : FunD K d_law_tail_right.name d_law_tail_right.qual d_law_tail_right.params d_law_tail_right.body d_law_tail_right.scope (d_law_tail_right.dvs K) (d_law_tail_right.kws K) (He.fAd K d_law_tail_right.at_) fd) :
    FnG P w K mg base (L2.CX P w) 7 (He.fAd K d_law_tail_right.at_) fd ["_law_own"] (spM ⟨K, tN K⟩ 1 m_law_tail_right) :=
  def_MD D sc_law_tail_right b_law_tail_right fun cdv A outer s H E hs hr => by
    have sc := sc_law_tail_right
    exact js_cons (js_set (i := 3) sc.nd rfl (Or.inl rfl) (je_make (c := 1) (ok_Disk___init F) (F.mkr 54) hs (hr.mono (by decide)) pass_M (by rfl) (F.glo 8) (ja_cons (je_int) (ja_nil)))) (js_cons (js_set (i := 4) sc.nd rfl (Or.inl rfl) (je_make (c := 0) (ok_Log___init_d3 F) (F.mkr 55) hs (hr.mono (by decide)) pass_M (by rfl) (F.glo 19) (ja_cons (je_var (pv 3)) (ja_cons (je_int) (ja_cons (je_int) (ja_nil)))))) (js_cons (js_expr (je_meth (c := 0) (ok_Log_append F) (F.cls 12) (F.meth 62) n_append hs (hr.mono (by decide)) pass_M (je_var (pv 4)) (ja_cons (je_tup (ja_cons (je_str (l := [97])) (ja_cons (je_var (pv 0)) (ja_nil)))) (ja_nil)))) (js_cons (js_expr (je_meth0 (c := 0) (ok_Log_flush F) (F.cls 12) (F.meth 59) n_flush hs (hr.mono (by decide)) pass_M (je_var (pv 4)))) (js_cons (js_for own_M rfl (ji_seq (je_tup (ja_cons (je_str (l := [98])) (ja_cons (je_str (l := [99])) (ja_nil))))) (jg_name (pg_name (i := 5) sc.nd rfl (Or.inl rfl))) (js_cons (js_expr (je_meth (c := 0) (ok_Log_append F) (F.cls 12) (F.meth 62) n_append hs (hr.mono (by decide)) pass_M (je_var (pv 4)) (ja_cons (je_mulA (je_tup (ja_cons (je_var (pv 5)) (ja_nil))) (je_int)) (ja_nil)))) (js_one (js_expr (je_meth (c := 0) (ok_Log_append F) (F.cls 12) (F.meth 62) n_append hs (hr.mono (by decide)) pass_M (je_var (pv 4)) (ja_cons (je_mulA (je_tup (ja_cons (je_var (pv 5)) (ja_nil))) (je_int)) (ja_nil))))))) (js_cons (js_expr (je_meth (c := 1) (ok_Disk_fail_after F) (F.cls 4) (F.meth 65) n_fail_after hs (hr.mono (by decide)) pass_M (je_var (pv 3)) (ja_cons (je_int) (ja_nil)))) (js_cons (js_set (i := 1) sc.nd rfl (Or.inl rfl) (je_non)) (js_cons (js_tryK (tb := (List.lookup · [(6, false), (7, false), (8, false), (2, false), (3, false), (4, true), (5, true)])) (i := 6) rfl rfl rfl sc.nd rfl rfl (test_t2 (by rfl) (F.glo 50) (by rfl) (F.glo 43)) (Tab.at (l := [(6, false), (7, false), (8, false), (2, false), (3, false), (4, true), (5, true)]) (.cons (exm_of (F.extra 0 (f := .raw (exmB "NoLoose" ["Full", "Stopped"] false)))) (.cons (exm_of (F.extra 1 (f := .raw (exmB "NoCut" ["Full", "Stopped"] false)))) (.cons (exm_of (F.extra 2 (f := .raw (exmB "NoPlace" ["Full", "Stopped"] false)))) (.cons (exm_of (F.extra 3 (f := .raw (exmB "NoBlock" ["Full", "Stopped"] false)))) (.cons (exm_of (F.extra 4 (f := .raw (exmB "Gone" ["Full", "Stopped"] false)))) (.cons (exm_of (F.extra 5 (f := .raw (exmB "Stopped" ["Full", "Stopped"] true)))) (.cons (exm_of (F.extra 6 (f := .raw (exmB "Full" ["Full", "Stopped"] true)))) (.nil))))))))) (takes_of rfl rfl rfl rfl) (fun pn xe => je_meth0W (c := 0) (ok_Log_flush F) (F.cls 12) (F.meth 59) n_flush hs (hr.mono (by decide)) (fun E => je_var (pv 4))) (fun a pn => js_one (js_set (i := 1) sc.nd rfl (Or.inl rfl) (je_var (pv 6))))) (js_cons (js_if (PW.pt (jw_or (jt_not (jt_tru (je_isE (tb := (List.lookup · [(6, false), (7, false), (8, false), (2, false), (3, false), (4, true), (5, false)])) (clsG_ok (F.extra 21 (f := .raw (clsGB)))) (by rfl) (F.free 20) (Tab.at (l := [(6, false), (7, false), (8, false), (2, false), (3, false), (4, true), (5, false)]) (.cons ⟨(isEx_of (k := 0) (F.extra 8 (f := .raw (exkB "NoLoose" 0)))), (kit1_of (F.extra 7 (f := .raw (kit1B "NoLoose" (.inl "Stopped") false))))⟩ (.cons ⟨(isEx_of (k := 0) (F.extra 10 (f := .raw (exkB "NoCut" 0)))), (kit1_of (F.extra 9 (f := .raw (kit1B "NoCut" (.inl "Stopped") false))))⟩ (.cons ⟨(isEx_of (k := 1) (F.extra 12 (f := .raw (exkB "NoPlace" 1)))), (kit1_of (F.extra 11 (f := .raw (kit1B "NoPlace" (.inl "Stopped") false))))⟩ (.cons ⟨(isEx_of (k := 1) (F.extra 14 (f := .raw (exkB "NoBlock" 1)))), (kit1_of (F.extra 13 (f := .raw (kit1B "NoBlock" (.inl "Stopped") false))))⟩ (.cons ⟨(isEx_of (k := 1) (F.extra 16 (f := .raw (exkB "Gone" 1)))), (kit1_of (F.extra 15 (f := .raw (kit1B "Gone" (.inl "Stopped") false))))⟩ (.cons ⟨(isEx_of (k := 2) (F.extra 18 (f := .raw (exkB "Stopped" 2)))), (kit1_of (F.extra 17 (f := .raw (kit1B "Stopped" (.inl "Stopped") true))))⟩ (.cons ⟨(isEx_of (k := 3) (F.extra 20 (f := .raw (exkB "Full" 3)))), (kit1_of (F.extra 19 (f := .raw (kit1B "Full" (.inl "Stopped") false))))⟩ (.nil))))))))) (je_var (pv 1)) (pe_glob (v := .ref (He.ga K "Stopped")) (by rfl) (F.glo 43) rfl) (.own _)))) (jw_or1 (jt_neF hr.units (je_callB call_lenM mc_len (by rfl) (F.free 17) PySem.boot_len (ja_cons (je_meth0 (c := 1) (ok_Disk_loose F) (F.cls 4) (F.meth 63) n_loose hs (hr.mono (by decide)) pass_M (je_var (pv 3))) (ja_nil))) (je_int))))) (js_one (js_ret (je_bl))) (js_nil)) (js_cons (js_expr (je_meth (c := 1) (ok_Disk_crash F) (F.cls 4) (F.meth 66) n_crash hs (hr.mono (by decide)) pass_M (je_var (pv 3)) (ja_cons (je_lst (ja_cons (je_int) (ja_nil))) (ja_nil)))) (js_cons (js_set (i := 4) sc.nd rfl (Or.inl rfl) (je_make (c := 0) (ok_Log___init_d3 F) (F.mkr 55) hs (hr.mono (by decide)) pass_M (by rfl) (F.glo 19) (ja_cons (je_var (pv 3)) (ja_cons (je_int) (ja_cons (je_int) (ja_nil)))))) (js_cons (js_if (jt_not (jt_tru (je_call (ok_law_same F) hs (hr.mono (by decide)) pass_M (by rfl) (F.glo 61) (ja_cons (je_lst (ja_cons (je_meth (c := 0) (ok_Log_records F) (F.cls 12) (F.meth 48) n_records hs (hr.mono (by decide)) pass_M (je_var (pv 4)) (ja_cons (je_int) (ja_nil))) (ja_cons (je_meth0 (c := 0) (ok_Log_epoch F) (F.cls 12) (F.meth 57) n_epoch hs (hr.mono (by decide)) pass_M (je_var (pv 4))) (ja_cons (je_meth0 (c := 0) (ok_Log_next_block F) (F.cls 12) (F.meth 58) n_next_block hs (hr.mono (by decide)) pass_M (je_var (pv 4))) (ja_nil))))) (ja_cons (je_lst (ja_cons (je_lst (ja_cons (je_tup (ja_cons (je_str (l := [97])) (ja_cons (je_var (pv 0)) (ja_nil)))) (ja_nil))) (ja_cons (je_int) (ja_cons (je_int) (ja_nil))))) (ja_nil)))))) (js_one (js_ret (je_bl))) (js_nil)) (js_cons (js_expr (je_meth (c := 0) (ok_Log_append F) (F.cls 12) (F.meth 62) n_append hs (hr.mono (by decide)) pass_M (je_var (pv 4)) (ja_cons (je_mulA (je_tup (ja_cons (je_str (l := [100])) (ja_nil))) (je_int)) (ja_nil)))) (js_cons (js_expr (je_meth (c := 0) (ok_Log_append F) (F.cls 12) (F.meth 62) n_append hs (hr.mono (by decide)) pass_M (je_var (pv 4)) (ja_cons (je_mulA (je_tup (ja_cons (je_str (l := [101])) (ja_nil))) (je_int)) (ja_nil)))) (js_cons (js_expr (je_meth0 (c := 0) (ok_Log_flush F) (F.cls 12) (F.meth 59) n_flush hs (hr.mono (by decide)) pass_M (je_var (pv 4)))) (js_cons (js_expr (je_meth (c := 1) (ok_Disk_crash F) (F.cls 4) (F.meth 66) n_crash hs (hr.mono (by decide)) pass_M (je_var (pv 3)) (ja_cons (je_tup (ja_nil)) (ja_nil)))) (js_cons (js_set (i := 4) sc.nd rfl (Or.inl rfl) (je_make (c := 0) (ok_Log___init_d3 F) (F.mkr 55) hs (hr.mono (by decide)) pass_M (by rfl) (F.glo 19) (ja_cons (je_var (pv 3)) (ja_cons (je_int) (ja_cons (je_int) (ja_nil)))))) (js_cons (js_set (i := 2) sc.nd rfl (Or.inl rfl) (je_lst (ja_cons (je_lst (ja_cons (je_tup (ja_cons (je_str (l := [97])) (ja_cons (je_var (pv 0)) (ja_nil)))) (ja_cons (je_mulA (je_tup (ja_cons (je_str (l := [100])) (ja_nil))) (je_int)) (ja_cons (je_mulA (je_tup (ja_cons (je_str (l := [101])) (ja_nil))) (je_int)) (ja_nil))))) (ja_cons (je_int) (ja_cons (je_int) (ja_cons (je_add (je_add (je_add (je_tup (ja_cons (je_str (l := [108, 111, 103])) (ja_cons (je_int) (ja_cons (je_int) (ja_cons (je_int) (ja_cons (je_int) (ja_cons (je_int) (ja_nil)))))))) (je_mulA (je_tup (ja_cons (je_str (l := [99])) (ja_nil))) (je_int))) (je_tup (ja_cons (je_int) (ja_nil)))) (je_mulA (je_tup (ja_cons (je_str (l := [99])) (ja_nil))) (je_int))) (ja_nil))))))) (js_one (js_ret (je_call (ok_law_same F) hs (hr.mono (by decide)) pass_M (by rfl) (F.glo 61) (ja_cons (je_lst (ja_cons (je_meth (c := 0) (ok_Log_records F) (F.cls 12) (F.meth 48) n_records hs (hr.mono (by decide)) pass_M (je_var (pv 4)) (ja_cons (je_int) (ja_nil))) (ja_cons (je_meth0 (c := 0) (ok_Log_epoch F) (F.cls 12) (F.meth 57) n_epoch hs (hr.mono (by decide)) pass_M (je_var (pv 4))) (ja_cons (je_meth0 (c := 0) (ok_Log_next_block F) (F.cls 12) (F.meth 58) n_next_block hs (hr.mono (by decide)) pass_M (je_var (pv 4))) (ja_cons (je_meth (c := 1) (ok_Disk_read F) (F.cls 4) (F.meth 35) n_read hs (hr.mono (by decide)) pass_M (je_var (pv 3)) (ja_cons (je_int) (ja_nil))) (ja_nil)))))) (ja_cons (je_var (pv 2)) (ja_nil)))))))))))))))))))))))
theorem ok_law_tail_right (F : W K mg) : FM P w K mg base (tN K) 7 (He.fAd K d_law_tail_right.at_) 1 [] m_law_tail_right := by
  obtain ⟨fd, D⟩ := F.c.def_ 31 (d := d_law_tail_right) rfl
  exact FM.of0 (ps := ["_law_own"]) D (fn_law_tail_right F D) rfl (fun _ _ _ _ _ _ us hl => match us, hl with | [_], _ => rfl)
end
end K47
set_option Elab.async false
set_option linter.all false
set_option maxRecDepth 100000
set_option maxHeartbeats 8000000
namespace K47
open PySem PySem.Spec PyProof.Rows L2 JB MI
section
variable {P : Program} {w : World} {K : PySem.W.Frag} {mg : Str → Option Value} {base : Heap}
def b_Log_cut : MS := gSeq (gIfS (gOr (gB (gBin mLtI (gVar 1) (gFld [0] 83956272751114154801631165565160080792253879465911796105311 (gVar 0)))) (gB (gBin mGtI (gVar 1) (gFld [0] 176069065312544551970550402127306593753578779473364670370858139743 (gVar 0))))) (gRaise1 7 2069681916294564979109003362 (gVar 1)) (gNext)) (gSeq (gFldS [0] 20516694089711970705211133144808195618838151263 (gMeth 0 9783122105461106636624876568225953874034 m_Log_records [] 2 (gVar 0) (gCons (gVar 2) (gNil))) (gVar 0)) (gSeq (gFldS [0] 83956272751114154801631165565160080792253879465911796105311 (gVar 1) (gVar 0)) (gFldS [0] 1097581760569107546207 (gVar 2) (gVar 0))))
def m_Log_cut : MF := gBody 3 b_Log_cut
theorem sc_Log_cut : FnScope ["self", "block", "record"] ["self", "block", "record"] (defScope s_Log_cut) :=
  ⟨rfl, rfl, rfl, by decide +kernel, rfl, by decide +kernel, by decide +kernel⟩
theorem fn_Log_cut (F : W K mg) {fd : FuncData} (D : FunD K d_Log_cut.name d_Log_cut.qual d_Log_cut.params d_Log_cut.body d_Log_cut.scope (d_Log_cut.dvs K) (d_Log_cut.kws K) (He.fAd K d_Log_cut.at_) fd) :
    FnG P w K mg base (L2.CX P w) 4 (He.fAd K d_Log_cut.at_) fd ["self", "block", "record"] (spM ⟨K, tN K⟩ 3 m_Log_cut) :=
  def_MD D sc_Log_cut b_Log_cut fun cdv A outer s H E hs hr => by
    have sc := sc_Log_cut
    exact js_cons (js_if (PW.pt (jw_or (jt_lt (je_var (pv 1)) (je_fld (je_var (pv 0)) (fk_Log__low_block F) n__low_block)) (jw_or1 (jt_gt (je_var (pv 1)) (je_fld (je_var (pv 0)) (fk_Log__next_block F) n__next_block))))) (js_one (js_raise1 (c := 7) n_block (takes_of rfl rfl rfl rfl) rfl rfl hs (hr.mono (by decide)) (er_NoCut F) (by rfl) (je_var (pv 1)))) (js_nil)) (js_cons (js_fld (je_var (pv 0)) (je_meth (c := 0) (ok_Log_records F) (F.cls 12) (F.meth 48) n_records hs (hr.mono (by decide)) pass_M (je_var (pv 0)) (ja_cons (je_var (pv 2)) (ja_nil))) (fk_Log__records F) n__records) (js_cons (js_fld (je_var (pv 0)) (je_var (pv 1)) (fk_Log__low_block F) n__low_block) (js_one (js_fld (je_var (pv 0)) (je_var (pv 2)) (fk_Log__low F) n__low))))
theorem ok_Log_cut (F : W K mg) : FM P w K mg base (tN K) 4 (He.fAd K d_Log_cut.at_) 3 [] m_Log_cut := by
  obtain ⟨fd, D⟩ := F.c.def_ 32 (d := d_Log_cut) rfl
  exact FM.of0 (ps := ["self", "block", "record"]) D (fn_Log_cut F D) rfl (fun _ _ _ _ _ _ us hl => match us, hl with | [_, _, _], _ => rfl)
theorem ok_Log_cut_k0 (F : W K mg) : FK P w K mg base (tN K) 4 (He.fAd K d_Log_cut.at_) 3 1 ["block", "record"] [(0, 0), (2, 0), (2, 1)] [] m_Log_cut := by
  obtain ⟨fd, D⟩ := F.c.def_ 32 (d := d_Log_cut) rfl
  exact FK.of0 (ps := ["self", "block", "record"]) D (fn_Log_cut F D) rfl (fun _ _ _ _ _ _ us ws hl hw => match us, ws, hl, hw with | [_], [_, _], _, _ => rfl)
def b_law_told : MS := gSeq (gAsg (gC .non) (tgName 2)) (gSeq (gTry (List.lookup · [(6, false), (7, true), (8, true), (2, true), (3, true), (4, true), (5, true)]) 4 (gIfS (gB (gBin mEqX (gBin mIx (gVar 1) (gC (.int 0))) (gC (.str [102, 108, 117, 115, 104])))) (gExpr (gMeth 0 2011653624527041756678586470 m_Log_flush [] 1 (gVar 0) gNil)) (gIfS (gB (gBin mEqX (gBin mIx (gVar 1) (gC (.int 0))) (gC (.str [114, 101, 99, 111, 114, 100, 115])))) (gExpr (gMethK 0 9783122105461106636624876568225953874034 m_Log_records [] 2 1 1 [(0, 0), (2, 0)] (gVar 0) (gNil) (gCons (gBin mIx (gVar 1) (gC (.int 1))) (gNil)))) (gExpr (gMethK 0 510173640654947 m_Log_cut [] 3 1 2 [(0, 0), (2, 0), (2, 1)] (gVar 0) (gNil) (gCons (gBin mIx (gVar 1) (gC (.int 1))) (gCons (gBin mIx (gVar 1) (gC (.int 2))) (gNil))))))) (gAsg (gVar 4) (tgName 2))) (gSeq (gIfS (gTru (gUn (mIsE (List.lookup · [(6, false), (7, false), (8, false), (2, false), (3, false), (4, false), (5, true)])) (gVar 2))) (gRet (gIf (gTru (gUn (mIsE (List.lookup · [(6, false), (7, false), (8, false), (2, false), (3, false), (4, false), (5, true)])) (gVar 2))) (gTup (gCons (gC (.str [70, 117, 108, 108])) (gCons (gUn (mGetE [5] 2243767335776190373954584675) (gVar 2)) (gNil)))) (gC (.str [111, 116, 104, 101, 114])))) (gNext)) (gSeq (gIfS (gTru (gUn (mIsE (List.lookup · [(6, false), (7, false), (8, false), (2, false), (3, true), (4, false), (5, false)])) (gVar 2))) (gSeq (gAsg (gAndT (gUn (mIsE (List.lookup · [(6, false), (7, false), (8, true), (2, true), (3, true), (4, false), (5, false)])) (gVar 2)) (gNotV (gUn (mIsE (List.lookup · [(6, false), (7, false), (8, true), (2, true), (3, false), (4, false), (5, false)])) (gVar 2)))) (tgName 3)) (gRet (gIf (gTru (gVar 3)) (gTup (gCons (gC (.str [71, 111, 110, 101])) (gCons (gUn (mGetE [6, 3] 4624391343257609244839718701498478) (gVar 2)) (gNil)))) (gC (.str [111, 116, 104, 101, 114]))))) (gNext)) (gRet (gIf (gAnd (gTru (gUn (mIsE (List.lookup · [(6, false), (7, true), (8, false), (2, false), (3, false), (4, false), (5, false)])) (gVar 2))) (gTru (gUn (mIsE (List.lookup · [(6, true), (7, true), (8, false), (2, false), (3, false), (4, false), (5, false)])) (gVar 2)))) (gTup (gCons (gC (.str [78, 111, 67, 117, 116])) (gCons (gUn (mGetE [7] 2069681916294564979109003362) (gVar 2)) (gNil)))) (gVar 2))))))
def m_law_told : MF := gBody 5 b_law_told
theorem sc_law_told : FnScope ["_law_roll", "_law_deed", "_law_caught", "_law_fine", "error"] ["_law_roll", "_law_deed"] (defScope s_law_told) :=
  ⟨rfl, rfl, rfl, by decide +kernel, rfl, by decide +kernel, by decide +kernel⟩
theorem fn_law_told (F : W K mg) {fd : FuncData} (D : FunD K d_law_told.name d_law_told.qual d_law_told.params d_law_told.body d_law_told.scope (d_law_told.dvs K) (d_law_told.kws K) (He.fAd K d_law_told.at_) fd) :
    FnG P w K mg base (L2.CX P w) 6 (He.fAd K d_law_told.at_) fd ["_law_roll", "_law_deed"] (spM ⟨K, tN K⟩ 2 m_law_told) :=
  def_MD D sc_law_told b_law_told fun cdv A outer s H E hs hr => by
    have sc := sc_law_told
    exact js_cons (js_set (i := 2) sc.nd rfl (Or.inl rfl) (je_non)) (js_cons (js_try (tb := (List.lookup · [(6, false), (7, true), (8, true), (2, true), (3, true), (4, true), (5, true)])) (i := 4) rfl rfl rfl sc.nd rfl rfl (test_t6 (by rfl) (F.glo 50) (by rfl) (F.glo 41) (by rfl) (F.glo 28) (by rfl) (F.glo 67) (by rfl) (F.glo 69) (by rfl) (F.glo 43)) (Tab.at (l := [(6, false), (7, true), (8, true), (2, true), (3, true), (4, true), (5, true)]) (.cons (exm_of (F.extra 22 (f := .raw (exmB "NoLoose" ["Full", "Gone", "NoBlock", "NoCut", "NoPlace", "Stopped"] false)))) (.cons (exm_of (F.extra 23 (f := .raw (exmB "NoCut" ["Full", "Gone", "NoBlock", "NoCut", "NoPlace", "Stopped"] true)))) (.cons (exm_of (F.extra 24 (f := .raw (exmB "NoPlace" ["Full", "Gone", "NoBlock", "NoCut", "NoPlace", "Stopped"] true)))) (.cons (exm_of (F.extra 25 (f := .raw (exmB "NoBlock" ["Full", "Gone", "NoBlock", "NoCut", "NoPlace", "Stopped"] true)))) (.cons (exm_of (F.extra 26 (f := .raw (exmB "Gone" ["Full", "Gone", "NoBlock", "NoCut", "NoPlace", "Stopped"] true)))) (.cons (exm_of (F.extra 27 (f := .raw (exmB "Stopped" ["Full", "Gone", "NoBlock", "NoCut", "NoPlace", "Stopped"] true)))) (.cons (exm_of (F.extra 28 (f := .raw (exmB "Full" ["Full", "Gone", "NoBlock", "NoCut", "NoPlace", "Stopped"] true)))) (.nil))))))))) (takes_of rfl rfl rfl rfl) (fun E2 pn xe tk2 px2 ow2 => js_one (js_if (jt_eqF hr.units (je_ix (hu_of hr) (je_var (pv 1)) (je_int)) (je_str (l := [102, 108, 117, 115, 104]))) (js_one (js_expr (je_meth0 (c := 0) (ok_Log_flush F) (F.cls 12) (F.meth 59) n_flush hs (hr.mono (by decide)) px2 (je_var (pv 0))))) (js_one (js_if (jt_eqF hr.units (je_ix (hu_of hr) (je_var (pv 1)) (je_int)) (je_str (l := [114, 101, 99, 111, 114, 100, 115]))) (js_one (js_expr (je_methK0 (c := 0) (ok_Log_records_k0 F) (F.cls 12) (F.meth 48) n_records hs (hr.mono (by decide)) px2 (je_var (pv 0)) (jk_cons (je_ix (hu_of hr) (je_var (pv 1)) (je_int)) (jk_nil))))) (js_one (js_expr (je_methK0 (c := 0) (ok_Log_cut_k0 F) (F.cls 12) (F.meth 68) n_cut hs (hr.mono (by decide)) px2 (je_var (pv 0)) (jk_cons (je_ix (hu_of hr) (je_var (pv 1)) (je_int)) (jk_cons (je_ix (hu_of hr) (je_var (pv 1)) (je_int)) (jk_nil)))))))))) (fun a pn => js_one (js_set (i := 2) sc.nd rfl (Or.inl rfl) (je_var (pv 4))))) (js_cons (js_if (jt_tru (je_isE (tb := (List.lookup · [(6, false), (7, false), (8, false), (2, false), (3, false), (4, false), (5, true)])) (clsG_ok (F.extra 21 (f := .raw (clsGB)))) (by rfl) (F.free 20) (Tab.at (l := [(6, false), (7, false), (8, false), (2, false), (3, false), (4, false), (5, true)]) (.cons ⟨(isEx_of (k := 0) (F.extra 8 (f := .raw (exkB "NoLoose" 0)))), (kit1_of (F.extra 29 (f := .raw (kit1B "NoLoose" (.inl "Full") false))))⟩ (.cons ⟨(isEx_of (k := 0) (F.extra 10 (f := .raw (exkB "NoCut" 0)))), (kit1_of (F.extra 30 (f := .raw (kit1B "NoCut" (.inl "Full") false))))⟩ (.cons ⟨(isEx_of (k := 1) (F.extra 12 (f := .raw (exkB "NoPlace" 1)))), (kit1_of (F.extra 31 (f := .raw (kit1B "NoPlace" (.inl "Full") false))))⟩ (.cons ⟨(isEx_of (k := 1) (F.extra 14 (f := .raw (exkB "NoBlock" 1)))), (kit1_of (F.extra 32 (f := .raw (kit1B "NoBlock" (.inl "Full") false))))⟩ (.cons ⟨(isEx_of (k := 1) (F.extra 16 (f := .raw (exkB "Gone" 1)))), (kit1_of (F.extra 33 (f := .raw (kit1B "Gone" (.inl "Full") false))))⟩ (.cons ⟨(isEx_of (k := 2) (F.extra 18 (f := .raw (exkB "Stopped" 2)))), (kit1_of (F.extra 34 (f := .raw (kit1B "Stopped" (.inl "Full") false))))⟩ (.cons ⟨(isEx_of (k := 3) (F.extra 20 (f := .raw (exkB "Full" 3)))), (kit1_of (F.extra 35 (f := .raw (kit1B "Full" (.inl "Full") true))))⟩ (.nil))))))))) (je_var (pv 2)) (pe_glob (v := .ref (He.ga K "Full")) (by rfl) (F.glo 50) rfl) (.own _))) (js_one (js_ret (je_if (jt_tru (je_isE (tb := (List.lookup · [(6, false), (7, false), (8, false), (2, false), (3, false), (4, false), (5, true)])) (clsG_ok (F.extra 21 (f := .raw (clsGB)))) (by rfl) (F.free 20) (Tab.at (l := [(6, false), (7, false), (8, false), (2, false), (3, false), (4, false), (5, true)]) (.cons ⟨(isEx_of (k := 0) (F.extra 8 (f := .raw (exkB "NoLoose" 0)))), (kit1_of (F.extra 36 (f := .raw (kit1B "NoLoose" (.inr "OverflowError") false))))⟩ (.cons ⟨(isEx_of (k := 0) (F.extra 10 (f := .raw (exkB "NoCut" 0)))), (kit1_of (F.extra 37 (f := .raw (kit1B "NoCut" (.inr "OverflowError") false))))⟩ (.cons ⟨(isEx_of (k := 1) (F.extra 12 (f := .raw (exkB "NoPlace" 1)))), (kit1_of (F.extra 38 (f := .raw (kit1B "NoPlace" (.inr "OverflowError") false))))⟩ (.cons ⟨(isEx_of (k := 1) (F.extra 14 (f := .raw (exkB "NoBlock" 1)))), (kit1_of (F.extra 39 (f := .raw (kit1B "NoBlock" (.inr "OverflowError") false))))⟩ (.cons ⟨(isEx_of (k := 1) (F.extra 16 (f := .raw (exkB "Gone" 1)))), (kit1_of (F.extra 40 (f := .raw (kit1B "Gone" (.inr "OverflowError") false))))⟩ (.cons ⟨(isEx_of (k := 2) (F.extra 18 (f := .raw (exkB "Stopped" 2)))), (kit1_of (F.extra 41 (f := .raw (kit1B "Stopped" (.inr "OverflowError") false))))⟩ (.cons ⟨(isEx_of (k := 3) (F.extra 20 (f := .raw (exkB "Full" 3)))), (kit1_of (F.extra 42 (f := .raw (kit1B "Full" (.inr "OverflowError") true))))⟩ (.nil))))))))) (je_var (pv 2)) (pe_bltn (v := .ty "OverflowError") (by rfl) (F.free 70) (by decide +kernel) rfl) (.ty _))) (je_tup (ja_cons (je_str (l := [70, 117, 108, 108])) (ja_cons (je_getE (cl := [5]) n_count (AllN.at (l := [5]) (.cons ⟨(isEx_of (k := 3) (F.extra 20 (f := .raw (exkB "Full" 3)))), nof_of (F.extra 43 (f := .raw (nofB "Full" "count")))⟩ (.nil))) (je_var (pv 2))) (ja_nil)))) (je_str (l := [111, 116, 104, 101, 114]))))) (js_nil)) (js_cons (js_if (jt_tru (je_isE (tb := (List.lookup · [(6, false), (7, false), (8, false), (2, false), (3, true), (4, false), (5, false)])) (clsG_ok (F.extra 21 (f := .raw (clsGB)))) (by rfl) (F.free 20) (Tab.at (l := [(6, false), (7, false), (8, false), (2, false), (3, true), (4, false), (5, false)]) (.cons ⟨(isEx_of (k := 0) (F.extra 8 (f := .raw (exkB "NoLoose" 0)))), (kit1_of (F.extra 44 (f := .raw (kit1B "NoLoose" (.inl "Gone") false))))⟩ (.cons ⟨(isEx_of (k := 0) (F.extra 10 (f := .raw (exkB "NoCut" 0)))), (kit1_of (F.extra 45 (f := .raw (kit1B "NoCut" (.inl "Gone") false))))⟩ (.cons ⟨(isEx_of (k := 1) (F.extra 12 (f := .raw (exkB "NoPlace" 1)))), (kit1_of (F.extra 46 (f := .raw (kit1B "NoPlace" (.inl "Gone") false))))⟩ (.cons ⟨(isEx_of (k := 1) (F.extra 14 (f := .raw (exkB "NoBlock" 1)))), (kit1_of (F.extra 47 (f := .raw (kit1B "NoBlock" (.inl "Gone") false))))⟩ (.cons ⟨(isEx_of (k := 1) (F.extra 16 (f := .raw (exkB "Gone" 1)))), (kit1_of (F.extra 48 (f := .raw (kit1B "Gone" (.inl "Gone") true))))⟩ (.cons ⟨(isEx_of (k := 2) (F.extra 18 (f := .raw (exkB "Stopped" 2)))), (kit1_of (F.extra 49 (f := .raw (kit1B "Stopped" (.inl "Gone") false))))⟩ (.cons ⟨(isEx_of (k := 3) (F.extra 20 (f := .raw (exkB "Full" 3)))), (kit1_of (F.extra 50 (f := .raw (kit1B "Full" (.inl "Gone") false))))⟩ (.nil))))))))) (je_var (pv 2)) (pe_glob (v := .ref (He.ga K "Gone")) (by rfl) (F.glo 41) rfl) (.own _))) (js_cons (js_set (i := 3) sc.nd rfl (Or.inl rfl) (je_andT (je_isE (tb := (List.lookup · [(6, false), (7, false), (8, true), (2, true), (3, true), (4, false), (5, false)])) (clsG_ok (F.extra 21 (f := .raw (clsGB)))) (by rfl) (F.free 20) (Tab.at (l := [(6, false), (7, false), (8, true), (2, true), (3, true), (4, false), (5, false)]) (.cons ⟨(isEx_of (k := 0) (F.extra 8 (f := .raw (exkB "NoLoose" 0)))), (kit1_of (F.extra 51 (f := .raw (kit1B "NoLoose" (.inr "LookupError") false))))⟩ (.cons ⟨(isEx_of (k := 0) (F.extra 10 (f := .raw (exkB "NoCut" 0)))), (kit1_of (F.extra 52 (f := .raw (kit1B "NoCut" (.inr "LookupError") false))))⟩ (.cons ⟨(isEx_of (k := 1) (F.extra 12 (f := .raw (exkB "NoPlace" 1)))), (kit1_of (F.extra 53 (f := .raw (kit1B "NoPlace" (.inr "LookupError") true))))⟩ (.cons ⟨(isEx_of (k := 1) (F.extra 14 (f := .raw (exkB "NoBlock" 1)))), (kit1_of (F.extra 54 (f := .raw (kit1B "NoBlock" (.inr "LookupError") true))))⟩ (.cons ⟨(isEx_of (k := 1) (F.extra 16 (f := .raw (exkB "Gone" 1)))), (kit1_of (F.extra 55 (f := .raw (kit1B "Gone" (.inr "LookupError") true))))⟩ (.cons ⟨(isEx_of (k := 2) (F.extra 18 (f := .raw (exkB "Stopped" 2)))), (kit1_of (F.extra 56 (f := .raw (kit1B "Stopped" (.inr "LookupError") false))))⟩ (.cons ⟨(isEx_of (k := 3) (F.extra 20 (f := .raw (exkB "Full" 3)))), (kit1_of (F.extra 57 (f := .raw (kit1B "Full" (.inr "LookupError") false))))⟩ (.nil))))))))) (je_var (pv 2)) (pe_bltn (v := .ty "LookupError") (by rfl) (F.free 71) (by decide +kernel) rfl) (.ty _)) (je_one (je_not (je_isET (tb := (List.lookup · [(6, false), (7, false), (8, true), (2, true), (3, false), (4, false), (5, false)])) (clsG_ok (F.extra 21 (f := .raw (clsGB)))) (by rfl) (F.free 20) (Tab.at (l := [(6, false), (7, false), (8, true), (2, true), (3, false), (4, false), (5, false)]) (.cons ⟨(isEx_of (k := 0) (F.extra 8 (f := .raw (exkB "NoLoose" 0)))), (kit_of (F.extra 58 (f := .raw (kitB "NoLoose" [.inl "NoBlock", .inl "NoPlace", .inr "KeyError", .inr "IndexError"] false))))⟩ (.cons ⟨(isEx_of (k := 0) (F.extra 10 (f := .raw (exkB "NoCut" 0)))), (kit_of (F.extra 59 (f := .raw (kitB "NoCut" [.inl "NoBlock", .inl "NoPlace", .inr "KeyError", .inr "IndexError"] false))))⟩ (.cons ⟨(isEx_of (k := 1) (F.extra 12 (f := .raw (exkB "NoPlace" 1)))), (kit_of (F.extra 60 (f := .raw (kitB "NoPlace" [.inl "NoBlock", .inl "NoPlace", .inr "KeyError", .inr "IndexError"] true))))⟩ (.cons ⟨(isEx_of (k := 1) (F.extra 14 (f := .raw (exkB "NoBlock" 1)))), (kit_of (F.extra 61 (f := .raw (kitB "NoBlock" [.inl "NoBlock", .inl "NoPlace", .inr "KeyError", .inr "IndexError"] true))))⟩ (.cons ⟨(isEx_of (k := 1) (F.extra 16 (f := .raw (exkB "Gone" 1)))), (kit_of (F.extra 62 (f := .raw (kitB "Gone" [.inl "NoBlock", .inl "NoPlace", .inr "KeyError", .inr "IndexError"] false))))⟩ (.cons ⟨(isEx_of (k := 2) (F.extra 18 (f := .raw (exkB "Stopped" 2)))), (kit_of (F.extra 63 (f := .raw (kitB "Stopped" [.inl "NoBlock", .inl "NoPlace", .inr "KeyError", .inr "IndexError"] false))))⟩ (.cons ⟨(isEx_of (k := 3) (F.extra 20 (f := .raw (exkB "Full" 3)))), (kit_of (F.extra 64 (f := .raw (kitB "Full" [.inl "NoBlock", .inl "NoPlace", .inr "KeyError", .inr "IndexError"] false))))⟩ (.nil))))))))) (je_var (pv 2)) (pa_cons (pe_glob (v := .ref (He.ga K "NoBlock")) (by rfl) (F.glo 28) rfl) (pa_cons (pe_glob (v := .ref (He.ga K "NoPlace")) (by rfl) (F.glo 69) rfl) (pa_cons (pe_bltn (v := .ty "KeyError") (by rfl) (F.free 73) (by decide +kernel) rfl) (pa_cons (pe_bltn (v := .ty "IndexError") (by rfl) (F.free 72) (by decide +kernel) rfl) (pa_nil))))) (.cons (.own _) (.cons (.own _) (.cons (.ty _) (.cons (.ty _) (.nil))))) (by simp)))))) (js_one (js_ret (je_if (jt_tru (je_var (pv 3))) (je_tup (ja_cons (je_str (l := [71, 111, 110, 101])) (ja_cons (je_getE (cl := [6, 3]) n_number (AllN.at (l := [6, 3]) (.cons ⟨(isEx_of (k := 0) (F.extra 8 (f := .raw (exkB "NoLoose" 0)))), nof_of (F.extra 66 (f := .raw (nofB "NoLoose" "number")))⟩ (.cons ⟨(isEx_of (k := 1) (F.extra 16 (f := .raw (exkB "Gone" 1)))), nof_of (F.extra 65 (f := .raw (nofB "Gone" "number")))⟩ (.nil)))) (je_var (pv 2))) (ja_nil)))) (je_str (l := [111, 116, 104, 101, 114])))))) (js_nil)) (js_one (js_ret (je_if (PW.pt (jw_and (jt_tru (je_isE (tb := (List.lookup · [(6, false), (7, true), (8, false), (2, false), (3, false), (4, false), (5, false)])) (clsG_ok (F.extra 21 (f := .raw (clsGB)))) (by rfl) (F.free 20) (Tab.at (l := [(6, false), (7, true), (8, false), (2, false), (3, false), (4, false), (5, false)]) (.cons ⟨(isEx_of (k := 0) (F.extra 8 (f := .raw (exkB "NoLoose" 0)))), (kit1_of (F.extra 67 (f := .raw (kit1B "NoLoose" (.inl "NoCut") false))))⟩ (.cons ⟨(isEx_of (k := 0) (F.extra 10 (f := .raw (exkB "NoCut" 0)))), (kit1_of (F.extra 68 (f := .raw (kit1B "NoCut" (.inl "NoCut") true))))⟩ (.cons ⟨(isEx_of (k := 1) (F.extra 12 (f := .raw (exkB "NoPlace" 1)))), (kit1_of (F.extra 69 (f := .raw (kit1B "NoPlace" (.inl "NoCut") false))))⟩ (.cons ⟨(isEx_of (k := 1) (F.extra 14 (f := .raw (exkB "NoBlock" 1)))), (kit1_of (F.extra 70 (f := .raw (kit1B "NoBlock" (.inl "NoCut") false))))⟩ (.cons ⟨(isEx_of (k := 1) (F.extra 16 (f := .raw (exkB "Gone" 1)))), (kit1_of (F.extra 71 (f := .raw (kit1B "Gone" (.inl "NoCut") false))))⟩ (.cons ⟨(isEx_of (k := 2) (F.extra 18 (f := .raw (exkB "Stopped" 2)))), (kit1_of (F.extra 72 (f := .raw (kit1B "Stopped" (.inl "NoCut") false))))⟩ (.cons ⟨(isEx_of (k := 3) (F.extra 20 (f := .raw (exkB "Full" 3)))), (kit1_of (F.extra 73 (f := .raw (kit1B "Full" (.inl "NoCut") false))))⟩ (.nil))))))))) (je_var (pv 2)) (pe_glob (v := .ref (He.ga K "NoCut")) (by rfl) (F.glo 67) rfl) (.own _))) (jw_and1 (jt_tru (je_isE (tb := (List.lookup · [(6, true), (7, true), (8, false), (2, false), (3, false), (4, false), (5, false)])) (clsG_ok (F.extra 21 (f := .raw (clsGB)))) (by rfl) (F.free 20) (Tab.at (l := [(6, true), (7, true), (8, false), (2, false), (3, false), (4, false), (5, false)]) (.cons ⟨(isEx_of (k := 0) (F.extra 8 (f := .raw (exkB "NoLoose" 0)))), (kit1_of (F.extra 74 (f := .raw (kit1B "NoLoose" (.inr "ValueError") true))))⟩ (.cons ⟨(isEx_of (k := 0) (F.extra 10 (f := .raw (exkB "NoCut" 0)))), (kit1_of (F.extra 75 (f := .raw (kit1B "NoCut" (.inr "ValueError") true))))⟩ (.cons ⟨(isEx_of (k := 1) (F.extra 12 (f := .raw (exkB "NoPlace" 1)))), (kit1_of (F.extra 76 (f := .raw (kit1B "NoPlace" (.inr "ValueError") false))))⟩ (.cons ⟨(isEx_of (k := 1) (F.extra 14 (f := .raw (exkB "NoBlock" 1)))), (kit1_of (F.extra 77 (f := .raw (kit1B "NoBlock" (.inr "ValueError") false))))⟩ (.cons ⟨(isEx_of (k := 1) (F.extra 16 (f := .raw (exkB "Gone" 1)))), (kit1_of (F.extra 78 (f := .raw (kit1B "Gone" (.inr "ValueError") false))))⟩ (.cons ⟨(isEx_of (k := 2) (F.extra 18 (f := .raw (exkB "Stopped" 2)))), (kit1_of (F.extra 79 (f := .raw (kit1B "Stopped" (.inr "ValueError") false))))⟩ (.cons ⟨(isEx_of (k := 3) (F.extra 20 (f := .raw (exkB "Full" 3)))), (kit1_of (F.extra 80 (f := .raw (kit1B "Full" (.inr "ValueError") false))))⟩ (.nil))))))))) (je_var (pv 2)) (pe_bltn (v := .ty "ValueError") (by rfl) (F.free 74) (by decide +kernel) rfl) (.ty _)))))) (je_tup (ja_cons (je_str (l := [78, 111, 67, 117, 116])) (ja_cons (je_getE (cl := [7]) n_block (AllN.at (l := [7]) (.cons ⟨(isEx_of (k := 0) (F.extra 10 (f := .raw (exkB "NoCut" 0)))), nof_of (F.extra 81 (f := .raw (nofB "NoCut" "block")))⟩ (.nil))) (je_var (pv 2))) (ja_nil)))) (je_var (pv 2))))))))
theorem ok_law_told (F : W K mg) : FM P w K mg base (tN K) 6 (He.fAd K d_law_told.at_) 2 [] m_law_told := by
  obtain ⟨fd, D⟩ := F.c.def_ 33 (d := d_law_told) rfl
  exact FM.of0 (ps := ["_law_roll", "_law_deed"]) D (fn_law_told F D) rfl (fun _ _ _ _ _ _ us hl => match us, hl with | [_, _], _ => rfl)
def b_law_ring_right : MS := gSeq (gAsg (gMake 1 m_Disk___init [] 2 (gCons (gC (.int 4)) (gNil))) (tgName 2)) (gSeq (gAsg (gMake 0 m_Log___init [.int 0, .int 0, .int 0] 7 (gCons (gVar 2) (gCons (gC (.int 0)) (gCons (gC (.int 4)) (gNil))))) (tgName 3)) (gSeq (gFor (gRng1 (gC (.int 4))) (tgName 5) (gSeq (gExpr (gMeth 0 4056484048440708167605101516554337 m_Log_append [] 2 (gVar 3) (gCons (gTup (gCons (gVar 5) (gCons (gVar 0) (gNil)))) (gNil)))) (gExpr (gMeth 0 2011653624527041756678586470 m_Log_flush [] 1 (gVar 3) gNil)))) (gSeq (gExpr (gMeth 0 4056484048440708167605101516554337 m_Log_append [] 2 (gVar 3) (gCons (gTup (gCons (gC (.str [120])) (gNil))) (gNil)))) (gSeq (gAsg (gLst (gCons (gCall m_law_told [] 2 (gCons (gVar 3) (gCons (gTup (gCons (gC (.str [102, 108, 117, 115, 104])) (gNil))) (gNil)))) (gCons (gMeth 1 4664956162465078606366684397699191 m_Disk_writes [] 1 (gVar 2) gNil) (gCons (gMeth 0 931561024323279913075 m_Log_safe [] 1 (gVar 3) gNil) (gCons (gCall m_law_told [] 2 (gCons (gVar 3) (gCons (gTup (gCons (gC (.str [99, 117, 116])) (gCons (gC (.int 5)) (gCons (gC (.int 4)) (gNil))))) (gNil)))) (gNil)))))) (tgName 4)) (gSeq (gAsg (gBin mAdd (gVar 4) (gLst (gCons (gCall m_law_told [] 2 (gCons (gVar 3) (gCons (gTup (gCons (gC (.str [114, 101, 99, 111, 114, 100, 115])) (gCons (gUn mNeg (gC (.int 1))) (gNil)))) (gNil)))) (gCons (gCall m_law_told [] 2 (gCons (gVar 3) (gCons (gTup (gCons (gC (.str [114, 101, 99, 111, 114, 100, 115])) (gCons (gC (.int 6)) (gNil)))) (gNil)))) (gCons (gMeth 0 9783122105461106636624876568225953874034 m_Log_records [] 2 (gVar 3) (gCons (gC (.int 5)) (gNil))) (gNil)))))) (tgName 4)) (gSeq (gIfS (gNot (gTru (gCall m_law_same [] 2 (gCons (gVar 4) (gCons (gLst (gCons (gTup (gCons (gC (.str [70, 117, 108, 108])) (gCons (gC (.int 4)) (gNil)))) (gCons (gC (.int 4)) (gCons (gC (.int 4)) (gCons (gTup (gCons (gC (.str [78, 111, 67, 117, 116])) (gCons (gC (.int 5)) (gNil)))) (gCons (gTup (gCons (gC (.str [71, 111, 110, 101])) (gCons (gUn mNeg (gC (.int 1))) (gNil)))) (gCons (gTup (gCons (gC (.str [71, 111, 110, 101])) (gCons (gC (.int 6)) (gNil)))) (gCons (gLst (gNil)) (gNil))))))))) (gNil)))))) (gRet (gC (.bl false))) (gNext)) (gSeq (gAsg (gLst (gCons (gMeth 0 510173640654947 m_Log_cut [] 3 (gVar 3) (gCons (gC (.int 2)) (gCons (gC (.int 2)) (gNil)))) (gCons (gCall m_law_told [] 2 (gCons (gVar 3) (gCons (gTup (gCons (gC (.str [99, 117, 116])) (gCons (gC (.int 1)) (gCons (gC (.int 1)) (gNil))))) (gNil)))) (gCons (gCall m_law_told [] 2 (gCons (gVar 3) (gCons (gTup (gCons (gC (.str [114, 101, 99, 111, 114, 100, 115])) (gCons (gC (.int 1)) (gNil)))) (gNil)))) (gCons (gMeth 0 2011653624527041756678586470 m_Log_flush [] 1 (gVar 3) gNil) (gNil)))))) (tgName 4)) (gSeq (gAsg (gBin mAdd (gVar 4) (gLst (gCons (gMeth 0 9783122105461106636624876568225953874034 m_Log_records [] 2 (gVar 3) (gCons (gC (.int 2)) (gNil))) (gCons (gMeth 1 922337630296200970354 m_Disk_read [] 2 (gVar 2) (gCons (gC (.int 0)) (gNil))) (gNil))))) (tgName 4)) (gSeq (gAsg (gLst (gCons (gC .non) (gCons (gTup (gCons (gC (.str [78, 111, 67, 117, 116])) (gCons (gC (.int 1)) (gNil)))) (gCons (gTup (gCons (gC (.str [71, 111, 110, 101])) (gCons (gC (.int 1)) (gNil)))) (gCons (gC .non) (gCons (gLst (gCons (gTup (gCons (gC (.int 2)) (gCons (gVar 0) (gNil)))) (gCons (gTup (gCons (gC (.int 3)) (gCons (gVar 0) (gNil)))) (gCons (gTup (gCons (gC (.str [120])) (gNil))) (gNil))))) (gCons (gTup (gCons (gC (.str [108, 111, 103])) (gCons (gC (.int 4)) (gCons (gC (.int 1)) (gCons (gC (.int 4)) (gCons (gC (.int 1)) (gCons (gC (.int 1)) (gCons (gC (.str [120])) (gNil))))))))) (gNil)))))))) (tgName 1)) (gSeq (gIfS (gNot (gTru (gCall m_law_same [] 2 (gCons (gVar 4) (gCons (gVar 1) (gNil)))))) (gRet (gC (.bl false))) (gNext)) (gSeq (gAsg (gLst (gCons (gMeth 0 9783122105461106636624876568225953874034 m_Log_records [] 2 (gMake 0 m_Log___init [.int 0] 7 (gCons (gVar 2) (gCons (gC (.int 0)) (gCons (gC (.int 4)) (gCons (gC (.int 2)) (gCons (gC (.int 2)) (gNil))))))) (gCons (gC (.int 2)) (gNil))) (gCons (gMeth 0 9783122105461106636624876568225953874034 m_Log_records [] 2 (gMake 0 m_Log___init [.int 0] 7 (gCons (gVar 2) (gCons (gC (.int 0)) (gCons (gC (.int 4)) (gCons (gC (.int 4)) (gCons (gC (.int 4)) (gNil))))))) (gCons (gC (.int 4)) (gNil))) (gCons (gMeth 0 9783122105461106636624876568225953874034 m_Log_records [] 2 (gMake 0 m_Log___init [.int 0, .int 0, .int 0] 7 (gCons (gVar 2) (gCons (gC (.int 0)) (gCons (gC (.int 4)) (gNil))))) (gCons (gC (.int 0)) (gNil))) (gNil))))) (tgName 4)) (gSeq (gAsg (gBin mAdd (gVar 4) (gLst (gCons (gMeth 0 9783122105461106636624876568225953874034 m_Log_records [] 2 (gMake 0 m_Log___init [] 7 (gCons (gVar 2) (gCons (gC (.int 0)) (gCons (gC (.int 4)) (gCons (gC (.int 2)) (gCons (gC (.int 2)) (gCons (gC (.int 2)) (gNil)))))))) (gCons (gC (.int 2)) (gNil))) (gCons (gMeth 0 2011653476953062778731495525 m_Log_epoch [] 1 (gMakeK 0 m_Log___init [.int 0, .int 0, .int 0] 7 6 1 [(0, 0), (0, 1), (0, 2), (0, 3), (0, 4), (0, 5), (2, 0)] (gCons (gVar 2) (gCons (gC (.int 0)) (gCons (gC (.int 4)) (gCons (gC (.int 2)) (gCons (gC (.int 2)) (gNil)))))) (gCons (gC (.int 7)) (gNil))) gNil) (gNil))))) (tgName 4)) (gRet (gCall m_law_same [] 2 (gCons (gVar 4) (gCons (gLst (gCons (gLst (gCons (gTup (gCons (gC (.int 2)) (gCons (gVar 0) (gNil)))) (gCons (gTup (gCons (gC (.int 3)) (gCons (gVar 0) (gNil)))) (gCons (gTup (gCons (gC (.str [120])) (gNil))) (gNil))))) (gCons (gLst (gCons (gTup (gCons (gC (.str [120])) (gNil))) (gNil))) (gCons (gLst (gNil)) (gCons (gLst (gNil)) (gCons (gC (.int 8)) (gNil))))))) (gNil)))))))))))))))))
def m_law_ring_right : MF := gBody 6 b_law_ring_right
theorem sc_law_ring_right : FnScope ["_law_own", "_law_due", "_law_plate", "_law_roll", "_law_told_here", "_law_turn"] ["_law_own"] (defScope s_law_ring_right) :=
  ⟨rfl, rfl, rfl, by decide +kernel, rfl, by decide +kernel, by decide +kernel⟩
theorem fn_law_ring_right (F : W K mg) {fd : FuncData} (D : FunD K d_law_ring_right.name d_law_ring_right.qual d_law_ring_right.params d_law_ring_right.body d_law_ring_right.scope (d_law_ring_right.dvs K) (d_law_ring_right.kws K) (He.fAd K d_law_ring_right.at_) fd) :
    FnG P w K mg base (L2.CX P w) 7 (He.fAd K d_law_ring_right.at_) fd ["_law_own"] (spM ⟨K, tN K⟩ 1 m_law_ring_right) :=
  def_MD D sc_law_ring_right b_law_ring_right fun cdv A outer s H E hs hr => by
    have sc := sc_law_ring_right
    exact js_cons (js_set (i := 2) sc.nd rfl (Or.inl rfl) (je_make (c := 1) (ok_Disk___init F) (F.mkr 54) hs (hr.mono (by decide)) pass_M (by rfl) (F.glo 8) (ja_cons (je_int) (ja_nil)))) (js_cons (js_set (i := 3) sc.nd rfl (Or.inl rfl) (je_make (c := 0) (ok_Log___init_d3 F) (F.mkr 55) hs (hr.mono (by decide)) pass_M (by rfl) (F.glo 19) (ja_cons (je_var (pv 2)) (ja_cons (je_int) (ja_cons (je_int) (ja_nil)))))) (js_cons (js_for own_M rfl (ji_range1 (by rfl) (F.free 14) (je_int)) (jg_name (pg_name (i := 5) sc.nd rfl (Or.inl rfl))) (js_cons (js_expr (je_meth (c := 0) (ok_Log_append F) (F.cls 12) (F.meth 62) n_append hs (hr.mono (by decide)) pass_M (je_var (pv 3)) (ja_cons (je_tup (ja_cons (je_var (pv 5)) (ja_cons (je_var (pv 0)) (ja_nil)))) (ja_nil)))) (js_one (js_expr (je_meth0 (c := 0) (ok_Log_flush F) (F.cls 12) (F.meth 59) n_flush hs (hr.mono (by decide)) pass_M (je_var (pv 3))))))) (js_cons (js_expr (je_meth (c := 0) (ok_Log_append F) (F.cls 12) (F.meth 62) n_append hs (hr.mono (by decide)) pass_M (je_var (pv 3)) (ja_cons (je_tup (ja_cons (je_str (l := [120])) (ja_nil))) (ja_nil)))) (js_cons (js_set (i := 4) sc.nd rfl (Or.inl rfl) (je_lst (ja_cons (je_call (ok_law_told F) hs (hr.mono (by decide)) pass_M (by rfl) (F.glo 75) (ja_cons (je_var (pv 3)) (ja_cons (je_tup (ja_cons (je_str (l := [102, 108, 117, 115, 104])) (ja_nil))) (ja_nil)))) (ja_cons (je_meth0 (c := 1) (ok_Disk_writes F) (F.cls 4) (F.meth 60) n_writes hs (hr.mono (by decide)) pass_M (je_var (pv 2))) (ja_cons (je_meth0 (c := 0) (ok_Log_safe F) (F.cls 12) (F.meth 56) n_safe hs (hr.mono (by decide)) pass_M (je_var (pv 3))) (ja_cons (je_call (ok_law_told F) hs (hr.mono (by decide)) pass_M (by rfl) (F.glo 75) (ja_cons (je_var (pv 3)) (ja_cons (je_tup (ja_cons (je_str (l := [99, 117, 116])) (ja_cons (je_int) (ja_cons (je_int) (ja_nil))))) (ja_nil)))) (ja_nil))))))) (js_cons (js_set (i := 4) sc.nd rfl (Or.inl rfl) (je_add (je_var (pv 4)) (je_lst (ja_cons (je_call (ok_law_told F) hs (hr.mono (by decide)) pass_M (by rfl) (F.glo 75) (ja_cons (je_var (pv 3)) (ja_cons (je_tup (ja_cons (je_str (l := [114, 101, 99, 111, 114, 100, 115])) (ja_cons (je_neg (je_int)) (ja_nil)))) (ja_nil)))) (ja_cons (je_call (ok_law_told F) hs (hr.mono (by decide)) pass_M (by rfl) (F.glo 75) (ja_cons (je_var (pv 3)) (ja_cons (je_tup (ja_cons (je_str (l := [114, 101, 99, 111, 114, 100, 115])) (ja_cons (je_int) (ja_nil)))) (ja_nil)))) (ja_cons (je_meth (c := 0) (ok_Log_records F) (F.cls 12) (F.meth 48) n_records hs (hr.mono (by decide)) pass_M (je_var (pv 3)) (ja_cons (je_int) (ja_nil))) (ja_nil))))))) (js_cons (js_if (jt_not (jt_tru (je_call (ok_law_same F) hs (hr.mono (by decide)) pass_M (by rfl) (F.glo 61) (ja_cons (je_var (pv 4)) (ja_cons (je_lst (ja_cons (je_tup (ja_cons (je_str (l := [70, 117, 108, 108])) (ja_cons (je_int) (ja_nil)))) (ja_cons (je_int) (ja_cons (je_int) (ja_cons (je_tup (ja_cons (je_str (l := [78, 111, 67, 117, 116])) (ja_cons (je_int) (ja_nil)))) (ja_cons (je_tup (ja_cons (je_str (l := [71, 111, 110, 101])) (ja_cons (je_neg (je_int)) (ja_nil)))) (ja_cons (je_tup (ja_cons (je_str (l := [71, 111, 110, 101])) (ja_cons (je_int) (ja_nil)))) (ja_cons (je_lst (ja_nil)) (ja_nil))))))))) (ja_nil)))))) (js_one (js_ret (je_bl))) (js_nil)) (js_cons (js_set (i := 4) sc.nd rfl (Or.inl rfl) (je_lst (ja_cons (je_meth (c := 0) (ok_Log_cut F) (F.cls 12) (F.meth 68) n_cut hs (hr.mono (by decide)) pass_M (je_var (pv 3)) (ja_cons (je_int) (ja_cons (je_int) (ja_nil)))) (ja_cons (je_call (ok_law_told F) hs (hr.mono (by decide)) pass_M (by rfl) (F.glo 75) (ja_cons (je_var (pv 3)) (ja_cons (je_tup (ja_cons (je_str (l := [99, 117, 116])) (ja_cons (je_int) (ja_cons (je_int) (ja_nil))))) (ja_nil)))) (ja_cons (je_call (ok_law_told F) hs (hr.mono (by decide)) pass_M (by rfl) (F.glo 75) (ja_cons (je_var (pv 3)) (ja_cons (je_tup (ja_cons (je_str (l := [114, 101, 99, 111, 114, 100, 115])) (ja_cons (je_int) (ja_nil)))) (ja_nil)))) (ja_cons (je_meth0 (c := 0) (ok_Log_flush F) (F.cls 12) (F.meth 59) n_flush hs (hr.mono (by decide)) pass_M (je_var (pv 3))) (ja_nil))))))) (js_cons (js_set (i := 4) sc.nd rfl (Or.inl rfl) (je_add (je_var (pv 4)) (je_lst (ja_cons (je_meth (c := 0) (ok_Log_records F) (F.cls 12) (F.meth 48) n_records hs (hr.mono (by decide)) pass_M (je_var (pv 3)) (ja_cons (je_int) (ja_nil))) (ja_cons (je_meth (c := 1) (ok_Disk_read F) (F.cls 4) (F.meth 35) n_read hs (hr.mono (by decide)) pass_M (je_var (pv 2)) (ja_cons (je_int) (ja_nil))) (ja_nil)))))) (js_cons (js_set (i := 1) sc.nd rfl (Or.inl rfl) (je_lst (ja_cons (je_non) (ja_cons (je_tup (ja_cons (je_str (l := [78, 111, 67, 117, 116])) (ja_cons (je_int) (ja_nil)))) (ja_cons (je_tup (ja_cons (je_str (l := [71, 111, 110, 101])) (ja_cons (je_int) (ja_nil)))) (ja_cons (je_non) (ja_cons (je_lst (ja_cons (je_tup (ja_cons (je_int) (ja_cons (je_var (pv 0)) (ja_nil)))) (ja_cons (je_tup (ja_cons (je_int) (ja_cons (je_var (pv 0)) (ja_nil)))) (ja_cons (je_tup (ja_cons (je_str (l := [120])) (ja_nil))) (ja_nil))))) (ja_cons (je_tup (ja_cons (je_str (l := [108, 111, 103])) (ja_cons (je_int) (ja_cons (je_int) (ja_cons (je_int) (ja_cons (je_int) (ja_cons (je_int) (ja_cons (je_str (l := [120])) (ja_nil))))))))) (ja_nil))))))))) (js_cons (js_if (jt_not (jt_tru (je_call (ok_law_same F) hs (hr.mono (by decide)) pass_M (by rfl) (F.glo 61) (ja_cons (je_var (pv 4)) (ja_cons (je_var (pv 1)) (ja_nil)))))) (js_one (js_ret (je_bl))) (js_nil)) (js_cons (js_set (i := 4) sc.nd rfl (Or.inl rfl) (je_lst (ja_cons (je_meth (c := 0) (ok_Log_records F) (F.cls 12) (F.meth 48) n_records hs (hr.mono (by decide)) pass_M (je_make (c := 0) (ok_Log___init_d1 F) (F.mkr 55) hs (hr.mono (by decide)) pass_M (by rfl) (F.glo 19) (ja_cons (je_var (pv 2)) (ja_cons (je_int) (ja_cons (je_int) (ja_cons (je_int) (ja_cons (je_int) (ja_nil))))))) (ja_cons (je_int) (ja_nil))) (ja_cons (je_meth (c := 0) (ok_Log_records F) (F.cls 12) (F.meth 48) n_records hs (hr.mono (by decide)) pass_M (je_make (c := 0) (ok_Log___init_d1 F) (F.mkr 55) hs (hr.mono (by decide)) pass_M (by rfl) (F.glo 19) (ja_cons (je_var (pv 2)) (ja_cons (je_int) (ja_cons (je_int) (ja_cons (je_int) (ja_cons (je_int) (ja_nil))))))) (ja_cons (je_int) (ja_nil))) (ja_cons (je_meth (c := 0) (ok_Log_records F) (F.cls 12) (F.meth 48) n_records hs (hr.mono (by decide)) pass_M (je_make (c := 0) (ok_Log___init_d3 F) (F.mkr 55) hs (hr.mono (by decide)) pass_M (by rfl) (F.glo 19) (ja_cons (je_var (pv 2)) (ja_cons (je_int) (ja_cons (je_int) (ja_nil))))) (ja_cons (je_int) (ja_nil))) (ja_nil)))))) (js_cons (js_set (i := 4) sc.nd rfl (Or.inl rfl) (je_add (je_var (pv 4)) (je_lst (ja_cons (je_meth (c := 0) (ok_Log_records F) (F.cls 12) (F.meth 48) n_records hs (hr.mono (by decide)) pass_M (je_make (c := 0) (ok_Log___init_d0 F) (F.mkr 55) hs (hr.mono (by decide)) pass_M (by rfl) (F.glo 19) (ja_cons (je_var (pv 2)) (ja_cons (je_int) (ja_cons (je_int) (ja_cons (je_int) (ja_cons (je_int) (ja_cons (je_int) (ja_nil)))))))) (ja_cons (je_int) (ja_nil))) (ja_cons (je_meth0 (c := 0) (ok_Log_epoch F) (F.cls 12) (F.meth 57) n_epoch hs (hr.mono (by decide)) pass_M (je_makeK (c := 0) (ok_Log___init_k1 F) (F.mkr 55) hs (hr.mono (by decide)) pass_M (by rfl) (F.glo 19) (ja_cons (je_var (pv 2)) (ja_cons (je_int) (ja_cons (je_int) (ja_cons (je_int) (ja_cons (je_int) (ja_nil)))))) (jk_cons (je_int) (jk_nil)))) (ja_nil)))))) (js_one (js_ret (je_call (ok_law_same F) hs (hr.mono (by decide)) pass_M (by rfl) (F.glo 61) (ja_cons (je_var (pv 4)) (ja_cons (je_lst (ja_cons (je_lst (ja_cons (je_tup (ja_cons (je_int) (ja_cons (je_var (pv 0)) (ja_nil)))) (ja_cons (je_tup (ja_cons (je_int) (ja_cons (je_var (pv 0)) (ja_nil)))) (ja_cons (je_tup (ja_cons (je_str (l := [120])) (ja_nil))) (ja_nil))))) (ja_cons (je_lst (ja_cons (je_tup (ja_cons (je_str (l := [120])) (ja_nil))) (ja_nil))) (ja_cons (je_lst (ja_nil)) (ja_cons (je_lst (ja_nil)) (ja_cons (je_int) (ja_nil))))))) (ja_nil))))))))))))))))))
theorem ok_law_ring_right (F : W K mg) : FM P w K mg base (tN K) 7 (He.fAd K d_law_ring_right.at_) 1 [] m_law_ring_right := by
  obtain ⟨fd, D⟩ := F.c.def_ 34 (d := d_law_ring_right) rfl
  exact FM.of0 (ps := ["_law_own"]) D (fn_law_ring_right F D) rfl (fun _ _ _ _ _ _ us hl => match us, hl with | [_], _ => rfl)
def b_law : MS := gSeq (gAsg (gBin mAdd (gCB (f1 mList) (gCons (gSl (gVar 0) (gPn) (gPs (gC (.int 3)))) (gNil))) (gLst (gCons (gC (.int 0)) (gNil)))) (tgName 1)) (gSeq (gFor (gRng1 (gCB (f1 mLenV) (gCons (gVar 1) (gNil)))) (tgName 2) (gSeq (gAsg (gCall m_law_take [] 2 (gCons (gCall m_law_box [] 2 (gCons (gVar 1) (gCons (gVar 2) (gNil)))) (gCons (gBin mPow (gC (.int 10)) (gC (.int 9))) (gNil)))) (tgName 3)) (gIfS (gOr (gNot (gTru (gCall m_law_blocks_right [] 1 (gCons (gVar 3) (gNil))))) (gOr (gNot (gTru (gCall m_law_tail_right [] 1 (gCons (gVar 3) (gNil))))) (gNot (gTru (gCall m_law_ring_right [] 1 (gCons (gVar 3) (gNil))))))) (gRet (gC (.bl false))) (gNext)))) (gRet (gC (.bl true))))
def m_law : MF := gBody 4 b_law
theorem sc_law : FnScope ["_law_script", "_law_cells", "_law_k", "_law_own"] ["_law_script"] (defScope s_law) :=
  ⟨rfl, rfl, rfl, by decide +kernel, rfl, by decide +kernel, by decide +kernel⟩
theorem fn_law (F : W K mg) {fd : FuncData} (D : FunD K d_law.name d_law.qual d_law.params d_law.body d_law.scope (d_law.dvs K) (d_law.kws K) (He.fAd K d_law.at_) fd) :
    FnG P w K mg base (L2.CX P w) 8 (He.fAd K d_law.at_) fd ["_law_script"] (spM ⟨K, tN K⟩ 1 m_law) :=
  def_MD D sc_law b_law fun cdv A outer s H E hs hr => by
    have sc := sc_law
    exact js_cons (js_set (i := 1) sc.nd rfl (Or.inl rfl) (je_add (je_callT call_list_of mc_list (by rfl) (F.free 3) PyProof.Rows.boot_list (ja_cons (je_slice (je_var (pv 0)) (jp_none) (jp_some (je_int))) (ja_nil))) (je_lst (ja_cons (je_int) (ja_nil))))) (js_cons (js_for own_M rfl (ji_range1 (by rfl) (F.free 14) (je_callB call_lenM mc_len (by rfl) (F.free 17) PySem.boot_len (ja_cons (je_var (pv 1)) (ja_nil)))) (jg_name (pg_name (i := 2) sc.nd rfl (Or.inl rfl))) (js_cons (js_set (i := 3) sc.nd rfl (Or.inl rfl) (je_call (ok_law_take F) hs (hr.mono (by decide)) pass_M (by rfl) (F.glo 76) (ja_cons (je_call (ok_law_box F) hs (hr.mono (by decide)) pass_M (by rfl) (F.glo 77) (ja_cons (je_var (pv 1)) (ja_cons (je_var (pv 2)) (ja_nil)))) (ja_cons (je_pow (je_int) (je_int)) (ja_nil))))) (js_one (js_if (PW.pt (jw_or (jt_not (jt_tru (je_call (ok_law_blocks_right F) hs (hr.mono (by decide)) pass_M (by rfl) (F.glo 78) (ja_cons (je_var (pv 3)) (ja_nil))))) (jw_or (jt_not (jt_tru (je_call (ok_law_tail_right F) hs (hr.mono (by decide)) pass_M (by rfl) (F.glo 79) (ja_cons (je_var (pv 3)) (ja_nil))))) (jw_or1 (jt_not (jt_tru (je_call (ok_law_ring_right F) hs (hr.mono (by decide)) pass_M (by rfl) (F.glo 80) (ja_cons (je_var (pv 3)) (ja_nil))))))))) (js_one (js_ret (je_bl))) (js_nil))))) (js_one (js_ret (je_bl))))
end
end K47
set_option Elab.async false
set_option linter.all false
set_option maxRecDepth 100000
set_option maxHeartbeats 4000000
namespace XG
open MI
open L2 (atI ixN)
def bTake : MS := gSeq (gIfS (gB (gBin mGtI (gBin mIx (gVar 0) (gC (.int 0))) (gC (.int 0)))) (gSeq (gAsg (gBin mMod (gBin mIx (gVar 0) (gC (.int 0))) (gVar 1)) (tgName 3)) (gSeq (gAsg (gBin mDiv (gBin mIx (gVar 0) (gC (.int 0))) (gVar 1)) (tgSub (gVar 0) (gC (.int 0)))) (gRet (gVar 3)))) (gNext)) (gSeq (gPar 5 2 (gCons (gBin mIx (gVar 0) (gC (.int 1))) (gCons (gBin mAdd (gBin mIx (gVar 0) (gC (.int 2))) (gC (.int 1))) (gNil)))) (gSeq (gAsg (gVar 2) (tgSub (gVar 0) (gC (.int 2)))) (gSeq (gAsg (gBin mMod (gBin mMulA (gBin mAdd (gVar 5) (gBin mMulA (gC (.int 48271)) (gVar 2))) (gBin mAdd (gC (.int 39373)) (gVar 2))) (gC (.int 2147483647))) (tgName 4)) (gSeq (gAsg (gBin mMod (gBin mMulA (gBin mAdd (gBin mAdd (gVar 4) (gVar 2)) (gBin mDiv (gVar 5) (gC (.int 1000003)))) (gBin mAdd (gBin mMod (gVar 4) (gC (.int 40009))) (gC (.int 7)))) (gC (.int 2147483629))) (tgName 6)) (gRet (gBin mMod (gBin mDiv (gBin mMod (gBin mAdd (gBin mMulA (gVar 6) (gC (.int 48271))) (gVar 4)) (gC (.int 2147483587))) (gC (.int 64))) (gVar 1)))))))
def mTake : MF := gBody 7 bTake
theorem cm_r {i j : Int} (h : j.natAbs < 18446744073709551616) : cMul i j = true := by
  unfold cMul; simp [h]
theorem cm_l {i j : Int} (h : i.natAbs < 18446744073709551616) : cMul i j = true := by
  unfold cMul; simp [h]
theorem take_pos {h : MH} {i : Nat} {a s f n : Int} (hg : h.get i = some (.lst [.int a, .int s, .int f])) (ha : 0 < a) (hn : 0 < n) (hn2 : n < 1073741824) :
    mTake [.ref i, .int n] h = .ok (.int (a % n)) (h.set i (.lst [.int (a / n), .int s, .int f])) := by
  have x0 : atI [MV.int a, MV.int s, MV.int f] 0 = some (.int a) := rfl
  have x1 : ixN 3 0 = some 0 := rfl
  simp [mTake, bTake, gBody, gSeq, gIfS, gB, gBin, gVar, gC, mIx, isD, hg, mIxS, seqOf, x0, oV, mGtI, mI, Out.bind, Out.bindS, ha, gAsg, tgName, SO.only, SO.next, mMod, mIc, hn, mDiv, hn2, tgSub, putM, x1, gRet]
def onceV (s f : Int) : Int := (s + 48271 * (f + 1)) * (39373 + (f + 1)) % 2147483647
def takeV (s f n : Int) : Int := ((onceV s f + (f + 1) + s / 1000003) * (onceV s f % 40009 + 7) % 2147483629 * 48271 + onceV s f) % 2147483587 / 64 % n
theorem take_neg {h : MH} {i : Nat} {a s f n : Int} (hg : h.get i = some (.lst [.int a, .int s, .int f])) (ha : ¬ 0 < a) (hn : 0 < n) (hf : 0 ≤ f) (hf2 : f < 1000000000000) :
    mTake [.ref i, .int n] h = .ok (.int (takeV s f n)) (h.set i (.lst [.int a, .int s, .int (f + 1)])) := by
  have x0 : atI [MV.int a, MV.int s, MV.int f] 0 = some (.int a) := rfl
  have x1 : atI [MV.int a, MV.int s, MV.int f] 1 = some (.int s) := rfl
  have x2 : atI [MV.int a, MV.int s, MV.int f] 2 = some (.int f) := rfl
  have x3 : ixN 3 2 = some 2 := rfl
  have c1 : cMul 48271 (f + 1) = true := cm_l (by decide)
  have c2 : cMul (s + 48271 * (f + 1)) (39373 + (f + 1)) = true := cm_r (by omega)
  have c3 : ∀ y z : Int, cMul y (z % 40009 + 7) = true := fun y z => cm_r (by omega)
  have c4 : ∀ y : Int, cMul y 48271 = true := fun y => cm_r (by decide)
  simp [mTake, bTake, gBody, gSeq, gIfS, gB, gBin, gVar, gC, mIx, isD, hg, mIxS, seqOf, x0, x1, x2, oV, mGtI, mI, Out.bind, Out.bindS, ha, gAsg, tgName, SO.only, SO.next, mMod, mIc, hn, mDiv, tgSub, putM, x3, gRet, gNext, gPar, gCons, gNil, mAdd, mMulA, isTup, isStr, mMulV, isRep, mMul, c1, c2, c3, c4, takeV, onceV]
def Box (h : MH) (i : Nat) (f : Int) : Prop := ∃ a s e, h.get i = some (.lst [.int a, .int s, .int e]) ∧ 0 ≤ e ∧ e ≤ f
structure Keep (i : Nat) (h h' : MH) : Prop where
  n : h.n ≤ h'.n
  get : ∀ j, j < h.n → j ≠ i → h'.get j = h.get j
theorem keep_set {h : MH} {i : Nat} {o : MO} (hi : i < h.n) : Keep i h (h.set i o) := ⟨Nat.le_refl _, fun j _ hn => by rw [MH.get_set hi, if_neg hn]⟩
theorem take_ok {h : MH} {i : Nat} {f n : Int} (b : Box h i f) (hn : 0 < n) (hn2 : n < 1073741824) (hf2 : f < 1000000000000) :
    ∃ r h', 0 ≤ r ∧ r < n ∧ mTake [.ref i, .int n] h = .ok (.int r) h' ∧ Box h' i (f + 1) ∧ Keep i h h' ∧ h'.n = h.n := by
  obtain ⟨a, s, e, h1, h2, h3⟩ := b
  have hi := MH.get_lt h1
  by_cases ha : 0 < a
  · exact ⟨a % n, _, Int.emod_nonneg _ (by omega), Int.emod_lt_of_pos _ hn, take_pos h1 ha hn hn2, ⟨a / n, s, e, by rw [MH.get_set hi, if_pos rfl], h2, by omega⟩, keep_set hi, rfl⟩
  · exact ⟨takeV s e n, _, Int.emod_nonneg _ (by omega), Int.emod_lt_of_pos _ hn, take_neg h1 ha hn h2 (by omega), ⟨a, s, e + 1, by rw [MH.get_set hi, if_pos rfl], by omega, by omega⟩, keep_set hi, rfl⟩
def bBox : MS := gSeq (gAsg (gBin mIx (gVar 0) (gVar 1)) (tgName 2)) (gRet (gLst (gCons (gBin mMulA (gCB (f1 mAbs) (gCons (gVar 2) (gNil))) (gCB (f1 mInt) (gCons (gBin mGeI (gCB (f1 mAbs) (gCons (gVar 2) (gNil))) (gBin mPow (gC (.int 10)) (gC (.int 18)))) (gNil)))) (gCons (gBin mAdd (gBin mAdd (gBin mMod (gVar 2) (gC (.int 2305843009213693951))) (gBin mMulA (gC (.int 7919)) (gVar 1))) (gC (.int 61))) (gCons (gC (.int 0)) (gNil))))))
def mBox : MF := gBody 3 bBox
def absV (x : Int) : Int := if x < 0 then -x else x
theorem at_map {cs : List Int} {k : Nat} {x : Int} (hk : cs[k]? = some x) : atI (cs.map MV.int) (k : Int) = some (.int x) := by
  have hl : k < cs.length := (List.getElem?_eq_some_iff.mp hk).1
  unfold atI ixN
  rw [List.length_map, if_pos (by omega), if_pos (by omega)]
  show (cs.map MV.int)[(k : Int).toNat]? = _
  rw [Int.toNat_natCast, List.getElem?_map, hk]; rfl
theorem box_eq {h : MH} {c : Nat} {cs : List Int} {k : Nat} {x : Int} (hg : h.get c = some (.lst (cs.map MV.int))) (hk : cs[k]? = some x) :
    mBox [.ref c, .int k] h = .ok (.ref h.n) (h.push (.lst [.int (absV x * if 1000000000000000000 ≤ absV x then 1 else 0), .int (x % 2305843009213693951 + 7919 * k + 61), .int 0])) := by
  have x0 := at_map hk
  have c1 : ∀ (y z : Int), cMul y (if z ≤ absV x then 1 else 0) = true := fun y z => cm_r (by split <;> decide)
  have c2 : cMul 7919 k = true := cm_l (by decide)
  have p1 : ∀ h, mPow (.int 10) (.int 18) h = .ok (.int 1000000000000000000) h := fun h => rfl
  have a1 : ∀ h, mAbs (.int x) h = .ok (.int (absV x)) h := fun h => rfl
  simp [mBox, bBox, gBody, gSeq, gBin, gVar, gC, mIx, isD, hg, mIxS, seqOf, x0, oV, mI, Out.bind, Out.bindS, gAsg, tgName, SO.only, SO.next, mMod, mIc, gRet, gLst, gCons, gNil, gCB, f1, a1, mInt, mGeI, p1, mAdd, mMulA, isTup, isStr, mMulV, isRep, mMul, c1, c2]
theorem box_ok {h : MH} {c : Nat} {cs : List Int} {k : Nat} {x : Int} (hg : h.get c = some (.lst (cs.map MV.int))) (hk : cs[k]? = some x) :
    ∃ h', mBox [.ref c, .int k] h = .ok (.ref h.n) h' ∧ Box h' h.n 0 ∧ h'.n = h.n + 1 ∧ ∀ j, j < h.n → h'.get j = h.get j :=
  ⟨_, box_eq hg hk, ⟨_, _, 0, by rw [MH.get_push, if_pos rfl], by decide, by decide⟩, rfl, fun j hj => by rw [MH.get_push, if_neg (by omega)]⟩
theorem cut1 {ns : List Int} {m : Nat} : mcut (ns.map MV.int) none (some (m : Int)) = (ns.take m).map MV.int := by
  unfold mcut
  rw [HT.sIx_none, HT.sIx_nat, List.drop_zero, Nat.sub_zero, List.length_map, List.map_take]
  by_cases h : m ≤ ns.length
  · rw [Nat.min_eq_left h]
  · rw [Nat.min_eq_right (by omega), List.take_of_length_le (by simp), List.take_of_length_le (by simp; omega)]
end XG
set_option Elab.async false
set_option linter.all false
set_option maxRecDepth 100000
set_option maxHeartbeats 4000000
namespace XG
open MI
section
variable {right : MF} {C : Nat}
end
end XG
set_option Elab.async false
set_option linter.all false
set_option maxRecDepth 100000
set_option maxHeartbeats 4000000
namespace XM
open MI XG
open L2 (atI ixN)
structure Up (h h' : MH) : Prop where
  n : h.n ≤ h'.n
  get : ∀ j, j < h.n → h'.get j = h.get j
theorem Up.refl {h : MH} : Up h h := ⟨Nat.le_refl _, fun _ _ => rfl⟩
theorem Up.trans {h h1 h2 : MH} (a : Up h h1) (b : Up h1 h2) : Up h h2 := ⟨Nat.le_trans a.n b.n, fun j hj => (b.get j (Nat.lt_of_lt_of_le hj a.n)).trans (a.get j hj)⟩
theorem get_top {h : MH} {o : MO} : (h.push o).get h.n = some o := by rw [MH.get_push, if_pos rfl]
theorem Up.push {h : MH} {o : MO} : Up h (h.push o) := ⟨Nat.le_succ _, fun j hj => by rw [MH.get_push, if_neg (by omega)]⟩
theorem Up.at {h h' : MH} (u : Up h h') {i : Nat} {o : MO} (e : h.get i = some o) : h'.get i = some o := (u.get i (MH.get_lt e)).trans e
structure Kp (F : List Nat) (h h' : MH) : Prop where
  n : h.n ≤ h'.n
  get : ∀ j, j < h.n → j ∉ F → h'.get j = h.get j
theorem Kp.refl {F : List Nat} {h : MH} : Kp F h h := ⟨Nat.le_refl _, fun _ _ _ => rfl⟩
theorem Kp.trans {F : List Nat} {h h1 h2 : MH} (a : Kp F h h1) (b : Kp F h1 h2) : Kp F h h2 := ⟨Nat.le_trans a.n b.n, fun j hj hf => (b.get j (Nat.lt_of_lt_of_le hj a.n) hf).trans (a.get j hj hf)⟩
theorem Up.kp {F : List Nat} {h h' : MH} (u : Up h h') : Kp F h h' := ⟨u.n, fun j hj _ => u.get j hj⟩
theorem Kp.le {F G : List Nat} {h h' : MH} (k : Kp F h h') (s : ∀ j ∈ F, j < h.n → j ∈ G) : Kp G h h' := ⟨k.n, fun j hj hf => k.get j hj fun z => hf (s j z hj)⟩
theorem Kp.set {F : List Nat} {h : MH} {i : Nat} {o : MO} (hi : i < h.n) (m : i ∈ F) : Kp F h (h.set i o) := ⟨Nat.le_refl _, fun j _ hf => by rw [MH.get_set hi, if_neg (fun z => hf (by rw [z]; exact m))]⟩
theorem Kp.at {F : List Nat} {h h' : MH} (k : Kp F h h') {i : Nat} {o : MO} (e : h.get i = some o) (f : i ∉ F) : h'.get i = some o := (k.get i (MH.get_lt e) f).trans e
theorem set_get {h : MH} {i : Nat} {o o' : MO} (e : h.get i = some o') : (h.set i o).get i = some o := by rw [MH.get_set (MH.get_lt e), if_pos rfl]
theorem set_ne {h : MH} {i j : Nat} {o o' : MO} (e : h.get i = some o') (n : j ≠ i) : (h.set i o).get j = h.get j := by rw [MH.get_set (MH.get_lt e), if_neg n]
inductive Sq (h : MH) : MV → List MV → Prop where
  | tup (xs : List MV) : Sq h (.tup xs) xs
  | ref {q : Nat} {xs : List MV} (e : h.get q = some (.lst xs)) : Sq h (.ref q) xs
theorem Sq.up {h h' : MH} {v : MV} {xs : List MV} (s : Sq h v xs) (u : Up h h') : Sq h' v xs := by
  cases s with
  | tup => exact .tup _
  | ref e => exact .ref (u.at e)
theorem Sq.len {h : MH} {v : MV} {xs : List MV} (s : Sq h v xs) : mLenV v h = .ok (.int xs.length) h := by
  cases s with
  | tup => rfl
  | ref e => simp [mLenV, mLen, e]
theorem at_nat {α : Type} {xs : List α} {k : Nat} {x : α} (e : xs[k]? = some x) : atI xs (k : Int) = some x := by
  have hl : k < xs.length := (List.getElem?_eq_some_iff.mp e).1
  unfold atI ixN
  rw [if_pos (by omega), if_pos (by omega)]
  show xs[(k : Int).toNat]? = _
  rw [Int.toNat_natCast, e]
theorem Sq.ix {h : MH} {v : MV} {xs : List MV} {k : Nat} {x : MV} (s : Sq h v xs) (e : xs[k]? = some x) : mIx v (.int (k : Int)) h = .ok x h := by
  have a := at_nat e
  cases s with
  | tup => simp [mIx, isD, mIxS, seqOf, a, oV]
  | ref q => simp [mIx, isD, q, mIxS, seqOf, a, oV]
theorem Sq.tuple {h : MH} {v : MV} {xs : List MV} (s : Sq h v xs) : mTuple v h = .ok (.tup xs) h := by
  cases s with
  | tup => rfl
  | ref e => simp [mTuple, seqOf, e]
end XM
set_option Elab.async false
set_option linter.all false
set_option maxRecDepth 100000
set_option maxHeartbeats 4000000
namespace XM
open MI XG
open L2 (atI ixN)
def atB : MV → Bool
  | .non => true
  | .int i => decide (i.natAbs < 100000000000000000000000000000000000000000000000000)
  | .str s => decide (s.length ≤ 20) && s.all fun c => decide (c < 1114112)
  | _ => false
theorem at_eq {x y : MV} (a : atB x = true) (b : atB y = true) : ∃ c, mEq x y = some c ∧ (c = true ↔ x = y) := by
  cases x <;> cases y <;> first
    | (cases a; done)
    | (cases b; done)
    | exact ⟨true, rfl, by simp⟩
    | exact ⟨false, rfl, by simp⟩
    | exact ⟨_, rfl, by simp [leq_iff]⟩
section
variable {C : Nat} {h : MH} {s r b L : Nat} {R : Rows}
end
end XM
set_option Elab.async false
set_option linter.all false
set_option maxRecDepth 100000
set_option maxHeartbeats 4000000
namespace XM
open MI XG
open L2 (atI ixN)
theorem seq_nx {a b : MS} {m m' : ML} {h h' : MH} (e : a m h = .nx m' h') : gSeq a b m h = b m' h' := by unfold gSeq; rw [e]; rfl
theorem seq_rt {a b : MS} {m : ML} {v : MV} {h h' : MH} (e : a m h = .rt v h') : gSeq a b m h = .rt v h' := by unfold gSeq; rw [e]; rfl
theorem body_rt {N : Nat} {b : MS} {as : List MV} {v : MV} {h h' : MH} (e : b (as.map some ++ List.replicate (N - as.length) none) h = .rt v h') : gBody N b as h = .ok v h' := by unfold gBody; rw [e]
theorem body_nx {N : Nat} {b : MS} {as : List MV} {m : ML} {h h' : MH} (e : b (as.map some ++ List.replicate (N - as.length) none) h = .nx m h') : gBody N b as h = .ok .non h' := by unfold gBody; rw [e]
theorem ifS_t {c : MT} {a b : MS} {m : ML} {h h1 : MH} (e : c m h = .ok true h1) : gIfS c a b m h = a m h1 := by unfold gIfS; rw [e]; rfl
theorem ifS_f {c : MT} {a b : MS} {m : ML} {h h1 : MH} (e : c m h = .ok false h1) : gIfS c a b m h = b m h1 := by unfold gIfS; rw [e]; rfl
theorem asg_nx {a : ME} {i : Nat} {m : ML} {v : MV} {h h' : MH} (e : a m h = .ok v h') : gAsg a (tgName i) m h = .nx (m.set i (some v)) h' := by unfold gAsg; rw [e]; rfl
theorem expr_nx {a : ME} {m : ML} {v : MV} {h h' : MH} (e : a m h = .ok v h') : gExpr a m h = .nx m h' := by unfold gExpr; rw [e]; rfl
theorem var_at {i : Nat} {m : ML} {v : MV} {h : MH} (e : m[i]? = some (some v)) : gVar i m h = .ok v h := by unfold gVar; rw [e]
theorem meth1 {c f n : Nat} {g : MF} {o a : ME} {m : ML} {h h1 h2 : MH} {i : Nat} {fs : List (Nat × MV)} {x : MV} (eo : o m h = .ok (.ref i) h1) (hi : h1.get i = some (.ins c fs)) (l : fs.lookup f = none) (ea : a m h1 = .ok x h2) (hn : n = 2) : gMeth c f g [] n o (gCons a gNil) m h = g [.ref i, x] h2 := by
  subst hn
  simp [gMeth, eo, Out.bind, hi, l, gCons, gNil, ea]
theorem meth0 {c f n : Nat} {g : MF} {o : ME} {m : ML} {h h1 : MH} {i : Nat} {fs : List (Nat × MV)} (eo : o m h = .ok (.ref i) h1) (hi : h1.get i = some (.ins c fs)) (l : fs.lookup f = none) (hn : n = 1) : gMeth c f g [] n o gNil m h = g [.ref i] h1 := by
  subst hn
  simp [gMeth, eo, Out.bind, hi, l, gNil]
theorem call1 {n : Nat} {g : MF} {a : ME} {m : ML} {h h2 : MH} {x : MV} (ea : a m h = .ok x h2) (hn : n = 1) : gCall g [] n (gCons a gNil) m h = g [x] h2 := by
  subst hn
  simp [gCall, Out.bind, gCons, gNil, ea]
theorem call2 {n : Nat} {g : MF} {a b : ME} {m : ML} {h h1 h2 : MH} {x y : MV} (ea : a m h = .ok x h1) (eb : b m h1 = .ok y h2) (hn : n = 2) : gCall g [] n (gCons a (gCons b gNil)) m h = g [x, y] h2 := by
  subst hn
  simp [gCall, Out.bind, gCons, gNil, ea, eb]
section
variable {C : Nat} {h : MH} {s r b L : Nat} {R : Rows}
end
end XM
set_option Elab.async false
set_option linter.all false
set_option maxRecDepth 100000
set_option maxHeartbeats 4000000
namespace XM
open MI XG
open L2 (atI ixN)
end XM
set_option Elab.async false
set_option linter.all false
set_option maxRecDepth 100000
set_option maxHeartbeats 4000000
namespace XM
open MI XG
open L2 (atI ixN)
section
variable {C : Nat} {h : MH} {s r b L : Nat} {R : Rows}
end
end XM
set_option Elab.async false
set_option linter.all false
set_option maxRecDepth 100000
set_option maxHeartbeats 4000000
namespace XM
open MI XG
open L2 (atI ixN)
section
variable {C : Nat} {h : MH} {s r b L : Nat} {R : Rows}
end
end XM
set_option Elab.async false
set_option linter.all false
set_option maxRecDepth 100000
set_option maxHeartbeats 4000000
namespace XM
open MI XG
open L2 (atI ixN)
theorem lc_loop {it : It1} {c : CT} {t : MT} {e : ME} {D : Nat} {mw : ML} {N : Nat} (hN : N < 1000000) (P : Nat → List MV → MH → Prop) (hend : ∀ acc h, P N acc h → it.at_ N h = some none)
    (hstep : ∀ i acc h, i < N → P i acc h → h.get D = some (.lst acc) → ∃ x m1 h1 b h2, it.at_ i h = some (some x) ∧ c.set x mw h = .nx m1 h1 ∧ t m1 h1 = .ok b h2 ∧
      (b = false → P (i + 1) acc h2 ∧ h2.get D = some (.lst acc)) ∧ (b = true → ∃ y h3, e m1 h2 = .ok y h3 ∧ h3.get D = some (.lst acc) ∧ P (i + 1) (acc ++ [y]) (h3.set D (.lst (acc ++ [y]))))) :
    ∀ (n i : Nat) (acc : List MV) (h : MH), i + n = N + 1 → i ≤ N → acc.length ≤ i → P i acc h → h.get D = some (.lst acc) → ∃ acc' h', gLcN it c t e D mw n i h = .ok (.ref D) h' ∧ P N acc' h' ∧ h'.get D = some (.lst acc')
  | 0, i, acc, h, e0, hi, _, _, _ => by omega
  | n + 1, i, acc, h, e0, hi, la, p, g => by
    unfold gLcN
    by_cases hiN : i = N
    · subst hiN
      rw [hend acc h p]
      exact ⟨acc, h, rfl, p, g⟩
    · obtain ⟨x, m1, h1, b, h2, a1, a2, a3, a4, a5⟩ := hstep i acc h (by omega) p g
      rw [a1]
      simp only [a2, a3]
      cases b with
      | false =>
        obtain ⟨p2, g2⟩ := a4 rfl
        exact lc_loop hN P hend hstep n (i + 1) acc h2 (by omega) (by omega) (by omega) p2 g2
      | true =>
        obtain ⟨y, h3, b1, b2, b3⟩ := a5 rfl
        simp only [b1, b2]
        rw [if_pos (by omega)]
        exact lc_loop hN P hend hstep n (i + 1) (acc ++ [y]) _ (by omega) (by omega) (by simp; omega) b3 (set_get b2)
theorem for_loop {it : It1} {t : MG} {b : MS} {N : Nat} (Q : Nat → ML → MH → Prop) (hend : ∀ m h, Q N m h → it.at_ N h = some none)
    (hstep : ∀ i m h, i < N → Q i m h → ∃ x m1 h1 m2 h2, it.at_ i h = some (some x) ∧ t x m h = .nx m1 h1 ∧ b m1 h1 = .nx m2 h2 ∧ Q (i + 1) m2 h2) :
    ∀ (n i : Nat) (m : ML) (h : MH), i + n = N + 1 → i ≤ N → Q i m h → ∃ m' h', gForN it t b n i m h = .nx m' h' ∧ Q N m' h'
  | 0, i, m, h, e0, hi, _ => by omega
  | n + 1, i, m, h, e0, hi, q => by
    unfold gForN
    by_cases hiN : i = N
    · subst hiN
      rw [hend m h q]
      exact ⟨m, h, rfl, q⟩
    · obtain ⟨x, m1, h1, m2, h2, a1, a2, a3, a4⟩ := hstep i m h (by omega) q
      rw [a1]
      simp only [a2, a3]
      exact for_loop Q hend hstep n (i + 1) m2 h2 (by omega) (by omega) a4
theorem rng_at {lo : Int} {n i : Nat} {h : MH} (hi : i < n) : (it1R lo n).at_ i h = some (some (.int (lo + (i : Nat)))) := by
  show some (if i < n then some (MV.int (lo + (i : Nat))) else none) = _
  rw [if_pos hi]
theorem rng_at0 {n i : Nat} {h : MH} (hi : i < n) : (it1R 0 n).at_ i h = some (some (.int (i : Nat))) := by rw [rng_at hi, Int.zero_add]
theorem rng_end {lo : Int} {n : Nat} {h : MH} : (it1R lo n).at_ n h = some none := by
  show some (if n < n then some (MV.int (lo + (n : Nat))) else none) = _
  rw [if_neg (Nat.lt_irrefl _)]
end XM
set_option Elab.async false
set_option linter.all false
set_option maxRecDepth 100000
set_option maxHeartbeats 4000000
namespace XM
open MI XG
open L2 (atI ixN)
theorem Up.set {h h' : MH} (u : Up h h') {D : Nat} {o o' : MO} (hD : h.n ≤ D) (g : h'.get D = some o') : Up h (h'.set D o) :=
  ⟨u.n, fun j hj => by rw [set_ne g (by omega)]; exact u.get j hj⟩
theorem ints_map : ∀ l : List Int, intsOf (l.map MV.int) = some l
  | [] => rfl
  | x :: l => by
    show (intsOf (l.map MV.int)).map (fun l => x :: l) = _
    rw [ints_map l]; rfl
end XM
set_option Elab.async false
set_option linter.all false
set_option maxRecDepth 100000
set_option maxHeartbeats 4000000
namespace XM
open MI XG
open L2 (atI ixN)
theorem iter_it {h : MH} {pv : MV} {vs : List MV} (sq : Sq h pv vs) : ∃ it, (∀ m a, a m h = .ok pv h → gIter a m h = .ok it h) ∧ it.size h = vs.length ∧ ∀ h', Sq h' pv vs → ∀ i : Nat, it.at_ i h' = some vs[i]? := by
  cases sq with
  | tup => exact ⟨it1 vs, fun m a e => by simp [gIter, e, Out.bind, mIter], rfl, fun h' _ i => rfl⟩
  | @ref q _ e0 =>
    refine ⟨it1L q, fun m a e => by simp [gIter, e, Out.bind, mIter, e0], by simp [it1L, e0], fun h' s i => ?_⟩
    cases s with
    | ref e1 => simp [it1L, e1]
end XM
set_option Elab.async false
set_option linter.all false
set_option maxRecDepth 100000
set_option maxHeartbeats 4000000
namespace XM
open MI XG
open L2 (atI ixN)
theorem fldS_ok {C f s : Nat} {v : ME} {m : ML} {h h1 : MH} {y : MV} {fs : List (Nat × MV)} (ev : v m h = .ok y h1) (e0 : m[0]? = some (some (.ref s))) (g : h1.get s = some (.ins C fs)) (l : fs.length < 900) :
    gFldS [C] f v (gVar 0) m h = .nx m (h1.set s (.ins C (mput f y fs))) := by
  have v0 : gVar 0 m h1 = .ok (.ref s) h1 := var_at e0
  simp [gFldS, ev, Out.bindS, v0, g, l]
end XM
set_option Elab.async false
set_option linter.all false
set_option maxRecDepth 100000
set_option maxHeartbeats 4000000
namespace XM
open MI XG
open L2 (atI ixN)
end XM
set_option Elab.async false
set_option linter.all false
set_option maxRecDepth 100000
set_option maxHeartbeats 4000000
namespace XM
open MI XG
open L2 (atI ixN)
end XM
set_option Elab.async false
set_option linter.all false
set_option maxRecDepth 100000
set_option maxHeartbeats 4000000
namespace XM
open MI XG
open L2 (atI ixN)
end XM
set_option Elab.async false
set_option linter.all false
set_option maxRecDepth 100000
set_option maxHeartbeats 4000000
namespace XM
open MI XG PySem
open L2 (atI ixN)
structure Dk (k B : Nat) (d : PyData) : Prop where
  s : d.showable = true
  nd : d.hasDict = false
  dp : d.depth ≤ k
  ls : d.leavesShort 60 = true
  bk : d.bulk ≤ B
  eq : ∀ n, k < n → dEq n d d = true
theorem Dk.le {k k' B B' : Nat} {d : PyData} (a : Dk k B d) (h1 : k ≤ k') (h2 : B ≤ B') : Dk k' B' d := ⟨a.s, a.nd, Nat.le_trans a.dp h1, a.ls, Nat.le_trans a.bk h2, fun n hn => a.eq n (by omega)⟩
theorem Dk.okA {k B : Nat} {d : PyData} (a : Dk k B d) (h1 : k ≤ 60) (h2 : B ≤ 262144) : dOkA d = true := by
  unfold dOkA
  rw [a.s, a.nd, a.ls, decide_eq_true (Nat.le_trans a.dp h1), decide_eq_true (Nat.le_trans a.bk h2)]
  rfl
def aD : MV → PyData
  | .non => .none
  | .int i => .int i
  | .str s => .str ⟨s.toArray⟩
  | _ => .none
theorem leq_refl : ∀ l : List Nat, leq l l = true := fun l => leq_iff.mpr rfl
theorem aD_ok {x : MV} (a : atB x = true) : Dk 0 20 (aD x) := by
  cases x with
  | non => exact ⟨rfl, rfl, Nat.le_refl _, rfl, Nat.zero_le _, fun n hn => by cases n with | zero => omega | succ n => rfl⟩
  | int i =>
    have hi : i.natAbs < 100000000000000000000000000000000000000000000000000 := of_decide_eq_true a
    refine ⟨?_, rfl, Nat.le_refl _, ?_, Nat.zero_le _, fun n hn => by cases n with | zero => omega | succ n => exact decide_eq_true rfl⟩
    · show decide (i.natAbs.log2 < 1920) = true
      refine decide_eq_true (iSmall_ok ?_)
      unfold iSmall
      exact decide_eq_true (by omega)
    · show decide ((PyData.shown (.int i)).length ≤ 60) = true
      refine decide_eq_true ?_
      have e : PyData.shown (.int i) = Str.ofString (toString i) := by simp only [PyData.shown]
      rw [e]
      have a := int_text_length_le10 (a := i) (k := 50) (by decide) (by have : (10 : Nat) ^ 50 = 100000000000000000000000000000000000000000000000000 := by decide +kernel
                                                                        omega)
      have b : (Str.ofString (toString i)).length = (toString i).length := by
        rw [ofS]
        show ((toString i).toList.map Char.toNat).toArray.size = _
        simp only [List.size_toArray, List.length_map]
        first | rfl | exact String.length_toList | exact (toString i).length_toList
      omega
  | str s =>
    have a' : (decide (s.length ≤ 20) && s.all fun c => decide (c < 1114112)) = true := a
    simp only [Bool.and_eq_true, decide_eq_true_eq, List.all_eq_true] at a'
    refine ⟨rfl, rfl, Nat.le_refl _, ?_, ?_, fun n hn => by cases n with | zero => omega | succ n => exact leq_refl _⟩
    · show (s.toArray.toList.all fun c => decide (c < 16 ^ 8)) = true
      simp only [List.all_eq_true, decide_eq_true_eq]
      intro c hc
      have := a'.2 c (by simpa using hc)
      have e : (16 : Nat) ^ 8 = 4294967296 := by decide
      omega
    · show s.toArray.size ≤ 20
      simpa using a'.1
  | _ => cases a
theorem all_ok {k B : Nat} : ∀ {ds : List PyData}, (∀ d ∈ ds, Dk k B d) → PyData.showableAll ds = true ∧ PyData.hasDictAll ds = false ∧ PyData.depthAll ds ≤ k ∧ PyData.leavesShortAll 60 ds = true ∧ PyData.bulkAll ds ≤ ds.length * (B + 1) ∧ ∀ n, k < n → allEq (dEq n) ds ds = true
  | [], _ => ⟨rfl, rfl, Nat.zero_le _, rfl, Nat.zero_le _, fun _ _ => rfl⟩
  | d :: ds, h => by
    have a := h d List.mem_cons_self
    obtain ⟨h1, h2, h3, h4, h5, h6⟩ := all_ok fun d hd => h d (List.mem_cons_of_mem _ hd)
    refine ⟨?_, ?_, ?_, ?_, ?_, fun n hn => ?_⟩
    · simp only [PyData.showableAll, a.s, h1, Bool.and_self]
    · simp only [PyData.hasDictAll, a.nd, h2, Bool.or_self]
    · simp only [PyData.depthAll]; exact Nat.max_le.mpr ⟨a.dp, h3⟩
    · simp only [PyData.leavesShortAll, a.ls, h4, Bool.and_self]
    · simp only [PyData.bulkAll, List.length_cons, Nat.add_mul]
      have := a.bk
      omega
    · show (dEq n d d && allEq (dEq n) ds ds) = true
      rw [a.eq n hn, h6 n hn]; rfl
theorem Dk.list {k B n : Nat} {ds : List PyData} (h : ∀ d ∈ ds, Dk k B d) (hn : ds.length ≤ n) : Dk (k + 1) (n * (B + 1)) (.list ds) := by
  obtain ⟨h1, h2, h3, h4, h5, h6⟩ := all_ok h
  refine ⟨by simpa only [PyData.showable] using h1, by simpa only [PyData.hasDict] using h2, by simp only [PyData.depth]; omega, by simpa only [PyData.leavesShort] using h4, by simp only [PyData.bulk]; exact Nat.le_trans h5 (Nat.mul_le_mul_right _ hn), fun m hm => ?_⟩
  cases m with
  | zero => omega
  | succ m => exact h6 m (by omega)
theorem Dk.tuple {k B n : Nat} {ds : List PyData} (h : ∀ d ∈ ds, Dk k B d) (hn : ds.length ≤ n) : Dk (k + 1) (n * (B + 1)) (.tuple ds) := by
  obtain ⟨h1, h2, h3, h4, h5, h6⟩ := all_ok h
  refine ⟨by simpa only [PyData.showable] using h1, by simpa only [PyData.hasDict] using h2, by simp only [PyData.depth]; omega, by simpa only [PyData.leavesShort] using h4, by simp only [PyData.bulk]; exact Nat.le_trans h5 (Nat.mul_le_mul_right _ hn), fun m hm => ?_⟩
  cases m with
  | zero => omega
  | succ m => exact h6 m (by omega)
theorem toD_at {h : MH} {x : MV} {n : Nat} (a : atB x = true) : toD h (n + 1) x = some (aD x) := by cases x <;> first | rfl | cases a
def mSame : MF := gBody 2 (gRet (gSameA (gVar 0) (gVar 1)))
theorem same_ok {h : MH} {x y : MV} {d : PyData} {k B : Nat} (rx : isRow x = true) (ry : isRow y = true) (ex : toD h 61 x = some d) (ey : toD h 61 y = some d) (a : Dk k B d) (h1 : k ≤ 60) (h2 : B ≤ 262144) : mSame [x, y] h = .ok (.bl true) h := by
  have o := a.okA h1 h2
  have v0 : ∀ h, gVar 0 [some x, some y] h = .ok x h := fun h => rfl
  have v1 : ∀ h, gVar 1 [some x, some y] h = .ok y h := fun h => rfl
  refine body_rt (v := .bl true) (h' := h) ?_
  show gRet (gSameA (gVar 0) (gVar 1)) [some x, some y] h = _
  simp only [gRet, gSameA, v0, v1, Out.bind, rx, ry, ex, ey, if_pos, o, a.eq 61 (by omega), and_self, Out.bindS]
end XM
set_option Elab.async false
set_option linter.all false
set_option maxRecDepth 100000
set_option maxHeartbeats 4000000
namespace XM
open MI XG PySem
open L2 (atI ixN)
theorem comp_up {gi : MI1} {it : It1} {ws : List MV} {m : ML} {h : MH} {sl : Nat} {e : ME} {F : MV → MV} (ev : gi m h = .ok it h) (hsz : it.size h = ws.length) (hw : ws.length < 1000) (hat : ∀ h', Up h h' → ∀ j : Nat, it.at_ j h' = some ws[j]?)
    (he : ∀ x ∈ ws, ∀ h', Up h h' → ∃ h2, e ((m.set sl none).set sl (some x)) h' = .ok (F x) h2 ∧ Up h' h2) :
    ∃ h', gLc gi (.one sl) gYes e [sl] m h = .ok (.ref h.n) h' ∧ h'.get h.n = some (.lst (ws.map F)) ∧ Up h h' := by
  obtain ⟨acc, h1, e1, ⟨u1, rfl⟩, g1⟩ := lc_loop (it := it) (c := .one sl) (t := gYes) (e := e) (D := h.n) (mw := m.set sl none) (N := ws.length) (by omega)
    (fun j acc h' => Up h h' ∧ acc = (ws.take j).map F) (fun acc h' p => by rw [hat h' p.1, List.getElem?_eq_none (Nat.le_refl _)]) (fun j acc h' hj p g => by
      obtain ⟨u, rfl⟩ := p
      have hx : ws[j]? = some ws[j] := List.getElem?_eq_getElem hj
      obtain ⟨h2, a1, a2⟩ := he _ (List.getElem_mem hj) h' u
      have g2 := a2.at g
      refine ⟨ws[j], (m.set sl none).set sl (some ws[j]), h', true, h', by rw [hat h' u, hx], rfl, rfl, (fun z => nomatch z), fun _ => ⟨F ws[j], h2, a1, g2, (u.trans a2).set (Nat.le_refl _) g2, ?_⟩⟩
      rw [List.take_succ, hx, List.map_append]; rfl)
    (ws.length + 1) 0 [] (h.push (.lst [])) (by omega) (Nat.zero_le _) (by simp) ⟨Up.push, rfl⟩ get_top
  rw [List.take_of_length_le (Nat.le_refl _)] at g1
  refine ⟨h1, ?_, g1, u1⟩
  unfold gLc
  rw [ev]
  simp only [Out.bind]
  rw [hsz]
  exact e1
section
variable {C : Nat} {h0 h : MH} {i s r b k L : Nat} {R : Rows} {K : List (Int × MV)} {f : Int}
end
end XM
set_option Elab.async false
set_option linter.all false
set_option maxRecDepth 100000
set_option maxHeartbeats 4000000
namespace XM
open MI XG PySem
open L2 (atI ixN)
section
variable {C : Nat} {h0 h : MH} {i s r b k L : Nat} {R : Rows} {K : List (Int × MV)} {f : Int}
end
end XM
set_option Elab.async false
set_option linter.all false
set_option maxRecDepth 100000
set_option maxHeartbeats 4000000
namespace XM
open MI XG PySem
open L2 (atI ixN)
end XM
set_option Elab.async false
set_option linter.all false
set_option maxRecDepth 100000
set_option maxHeartbeats 4000000
namespace XM
open MI XG PySem
open L2 (atI ixN)
section
variable {C : Nat} {h0 h : MH} {i s r b k L : Nat} {R : Rows} {K : List (Int × MV)} {f : Int}
end
end XM
set_option Elab.async false
set_option linter.all false
set_option maxRecDepth 100000
set_option maxHeartbeats 4000000
namespace XK
open MI XG XM
open L2 (atI ixN)
section
variable {C : Nat} {h : MH} {s r b L : Nat} {R : Rows} {B : List (Int × MV)} {q : MV × Int}
end
end XK
set_option Elab.async false
set_option linter.all false
set_option maxRecDepth 100000
set_option maxHeartbeats 4000000
namespace XK
open MI XG XM
open L2 (atI ixN)
section
variable {C : Nat} {h : MH} {s r b L : Nat} {R : Rows} {B : List (Int × MV)} {ko : KO} {km : Int}
end
end XK
set_option Elab.async false
set_option linter.all false
set_option maxRecDepth 100000
set_option maxHeartbeats 4000000
namespace XK
open MI XG XM
open L2 (atI ixN)
section
variable {C : Nat} {h : MH} {s r b L : Nat} {R : Rows} {B : List (Int × MV)} {kq : MV × Int}
end
end XK
set_option Elab.async false
set_option linter.all false
set_option maxRecDepth 100000
set_option maxHeartbeats 4000000
namespace XK
open MI XG XM
open L2 (atI ixN)
section
variable {C : Nat} {h : MH} {s r b L : Nat} {R : Rows} {B : List (Int × MV)} {kq : MV × Int} {ko : KO} {km : Int}
end
end XK
set_option Elab.async false
set_option linter.all false
set_option maxRecDepth 100000
set_option maxHeartbeats 4000000
namespace XK
open MI XG XM PySem
open L2 (atI ixN)
end XK
set_option Elab.async false
set_option linter.all false
set_option maxRecDepth 100000
set_option maxHeartbeats 4000000
namespace XK
open MI XG XM PySem
open L2 (atI ixN)
section
variable {C : Nat} {h : MH} {s r b L : Nat} {R : Rows} {B : List (Int × MV)} {q : MV × Int} {ko : KO} {km : Int} {P : Int → List MV}
end
end XK
set_option Elab.async false
set_option linter.all false
set_option maxRecDepth 100000
set_option maxHeartbeats 4000000
namespace XK
open MI XG XM PySem
open L2 (atI ixN)
theorem body_er {N : Nat} {b : MS} {as : List MV} {x : MX} {h h' : MH} (e : b (as.map some ++ List.replicate (N - as.length) none) h = .er x h') : gBody N b as h = .er x h' := by unfold gBody; rw [e]
section
variable {C cb ci : Nat} {h : MH} {s r b L : Nat} {R : Rows} {B : List (Int × MV)} {ko : KO} {km : Int} {P : Int → List MV}
end
end XK
set_option Elab.async false
set_option linter.all false
set_option maxRecDepth 100000
set_option maxHeartbeats 4000000
namespace XK
open MI XG XM PySem
open L2 (atI ixN)
end XK
set_option Elab.async false
set_option linter.all false
set_option maxRecDepth 100000
set_option maxHeartbeats 4000000
namespace XK
open MI XG XM PySem
open L2 (atI ixN)
section
variable {C : Nat} {h0 h : MH} {i s r k b kb L : Nat} {R : Rows} {B K Kb : List (Int × MV)} {ko co : KO} {km : Int} {f : Int}
end
end XK
set_option Elab.async false
set_option linter.all false
set_option maxRecDepth 100000
set_option maxHeartbeats 4000000
namespace XK
open MI XG XM PySem
open L2 (atI ixN)
section
variable {C : Nat} {h0 h : MH} {i s r k b kb L : Nat} {R : Rows} {B K Kb : List (Int × MV)} {ko co : KO} {km : Int} {f : Int}
end
end XK
set_option Elab.async false
set_option linter.all false
set_option maxRecDepth 100000
set_option maxHeartbeats 4000000
namespace XK
open MI XG XM PySem
open L2 (atI ixN)
theorem meth2 {c f n : Nat} {g : MF} {o a b : ME} {m : ML} {h h1 h2 h3 : MH} {i : Nat} {fs : List (Nat × MV)} {x y : MV} (eo : o m h = .ok (.ref i) h1) (hi : h1.get i = some (.ins c fs)) (l : fs.lookup f = none) (ea : a m h1 = .ok x h2) (eb : b m h2 = .ok y h3) (hn : n = 3) : gMeth c f g [] n o (gCons a (gCons b gNil)) m h = g [.ref i, x, y] h3 := by
  subst hn
  simp [gMeth, eo, Out.bind, hi, l, gCons, gNil, ea, eb]
section
variable {C : Nat} {h0 h : MH} {i s r k b kb L : Nat} {R : Rows} {B K Kb : List (Int × MV)} {ko co : KO} {km : Int} {f : Int}
end
end XK
set_option Elab.async false
set_option linter.all false
set_option maxRecDepth 100000
set_option maxHeartbeats 4000000
namespace XK
open MI XG XM PySem
open L2 (atI ixN)
end XK
set_option Elab.async false
set_option linter.all false
set_option maxRecDepth 100000
set_option maxHeartbeats 4000000
namespace XK
open MI XG XM PySem
open L2 (atI ixN)
section
variable {C : Nat} {h h' : MH} {s r b L : Nat} {R : Rows} {B : List (Int × MV)} {ko : KO} {km w : Int} {P : Int → List MV} {v : MV}
end
end XK
set_option Elab.async false
set_option linter.all false
set_option maxRecDepth 100000
set_option maxHeartbeats 4000000
namespace XK
open MI XG XM PySem
open L2 (atI ixN)
section
variable {C : Nat} {h0 h : MH} {i s r k b L : Nat} {R : Rows} {B K : List (Int × MV)} {P : Int → List MV} {ko co : KO} {km : Int} {f : Int}
end
end XK
set_option Elab.async false
set_option linter.all false
set_option maxRecDepth 100000
set_option maxHeartbeats 4000000
namespace XK
open MI XG XM PySem
open L2 (atI ixN)
section
variable {C : Nat} {h0 h : MH} {i s r k b L : Nat} {R : Rows} {B K : List (Int × MV)} {P : Int → List MV} {ko co : KO} {km w : Int} {f : Int}
end
end XK
set_option Elab.async false
set_option linter.all false
set_option maxRecDepth 100000
set_option maxHeartbeats 4000000
namespace XK
open MI XG XM PySem
open L2 (atI ixN)
section
variable {C : Nat} {h0 h : MH} {i s r k b L : Nat} {R : Rows} {B K : List (Int × MV)} {P : Int → List MV} {ko co : KO} {km w : Int} {f : Int}
end
end XK
set_option Elab.async false
set_option linter.all false
set_option maxRecDepth 100000
set_option maxHeartbeats 4000000
namespace XK
open MI XG XM PySem
open L2 (atI ixN)
section
variable {C : Nat} {h0 h h1 h2 : MH} {i s r k b L : Nat} {R : Rows} {B K : List (Int × MV)} {P : Int → List MV} {ko co : KO} {km w : Int} {f : Int} {t v v' : MV} {m : ML}
end
end XK
set_option Elab.async false
set_option linter.all false
set_option maxRecDepth 100000
set_option maxHeartbeats 4000000
namespace XK
open MI XG XM PySem
open L2 (atI ixN)
section
variable {C : Nat} {h0 h : MH} {i s r k b L : Nat} {R : Rows} {B K : List (Int × MV)} {P : Int → List MV} {ko co : KO} {km w : Int} {f : Int} {t : MV}
end
end XK
set_option Elab.async false
set_option linter.all false
set_option maxRecDepth 100000
set_option maxHeartbeats 4000000
namespace XK
open MI XG XM PySem
open L2 (atI ixN)
section
variable {C : Nat} {h0 h : MH} {i s r k b L : Nat} {R : Rows} {B K : List (Int × MV)} {P : Int → List MV} {ko co : KO} {km : Int} {f : Int}
end
end XK
set_option Elab.async false
set_option linter.all false
set_option maxRecDepth 100000
set_option maxHeartbeats 4000000
namespace XK
open MI XG XM PySem
open L2 (atI ixN)
end XK
set_option Elab.async false
set_option linter.all false
set_option maxRecDepth 100000
set_option maxHeartbeats 4000000
namespace XK
open MI XG XM PySem
open L2 (atI ixN)
end XK
set_option Elab.async false
set_option linter.all false
set_option maxRecDepth 100000
set_option maxHeartbeats 4000000
namespace DK
open MI XG XM XK PySem
open L2 (atI ixN)
structure Sd (h : MH) (x : MV) (d : PyData) (k B : Nat) : Prop where
  ts : ∀ n, k < n → toD h n x = some d
  dk : Dk k B d
inductive Sds (h : MH) (k B : Nat) : List MV → List PyData → Prop
  | nil : Sds h k B [] []
  | cons {x : MV} {d : PyData} {xs : List MV} {ds : List PyData} : Sd h x d k B → Sds h k B xs ds → Sds h k B (x :: xs) (d :: ds)
theorem Sd.le {h : MH} {x : MV} {d : PyData} {k B k' B' : Nat} (s : Sd h x d k B) (hk : k ≤ k') (hB : B ≤ B') : Sd h x d k' B' := ⟨fun n hn => s.ts n (by omega), s.dk.le hk hB⟩
theorem Sd.at {h : MH} {x : MV} (a : atB x = true) : Sd h x (aD x) 0 20 := ⟨fun n hn => by cases n with | zero => omega | succ n => exact toD_at a, aD_ok a⟩
theorem Sds.allD {h : MH} {k B n : Nat} (hn : k < n) : ∀ {xs : List MV} {ds : List PyData}, Sds h k B xs ds → allD (toD h n) xs = some ds
  | _, _, .nil => rfl
  | _, _, .cons a r => by simp only [MI.allD, a.ts n hn, r.allD hn]
theorem Sds.len {h : MH} {k B : Nat} : ∀ {xs : List MV} {ds : List PyData}, Sds h k B xs ds → ds.length = xs.length
  | _, _, .nil => rfl
  | _, _, .cons a r => by rw [List.length_cons, List.length_cons, r.len]
theorem Sds.dk {h : MH} {k B : Nat} : ∀ {xs : List MV} {ds : List PyData}, Sds h k B xs ds → ∀ d ∈ ds, Dk k B d
  | _, _, .nil, d, hd => by cases hd
  | _, _, .cons a r, d, hd => by
    rcases List.mem_cons.mp hd with rfl | hd
    · exact a.dk
    · exact r.dk d hd
theorem Sd.tup {h : MH} {xs : List MV} {ds : List PyData} {k B n : Nat} (s : Sds h k B xs ds) (hn : xs.length ≤ n) : Sd h (.tup xs) (.tuple ds) (k + 1) (n * (B + 1)) :=
  ⟨fun m hm => by
    cases m with
    | zero => omega
    | succ m =>
      show (MI.allD (toD h m) xs).map PyData.tuple = _
      rw [s.allD (by omega)]; rfl, Dk.tuple s.dk (by rw [s.len]; exact hn)⟩
theorem Sd.lst {h : MH} {q : Nat} {xs : List MV} {ds : List PyData} {k B n : Nat} (e : h.get q = some (.lst xs)) (s : Sds h k B xs ds) (hn : xs.length ≤ n) : Sd h (.ref q) (.list ds) (k + 1) (n * (B + 1)) :=
  ⟨fun m hm => by
    cases m with
    | zero => omega
    | succ m =>
      show (match h.get q with
        | some (.lst xs) => (MI.allD (toD h m) xs).map PyData.list
        | _ => none) = _
      rw [e]
      dsimp only
      rw [s.allD (by omega)]; rfl, Dk.list s.dk (by rw [s.len]; exact hn)⟩
theorem same_sd {h : MH} {x y : MV} {d : PyData} {k B k' B' : Nat} (a : Sd h x d k B) (b : Sd h y d k' B') (rx : isRow x = true) (ry : isRow y = true) (h1 : k ≤ 60) (h2 : k' ≤ 60) (h3 : B ≤ 262144) : mSame [x, y] h = .ok (.bl true) h :=
  same_ok rx ry (a.ts 61 (by omega)) (b.ts 61 (by omega)) a.dk h1 h3
def cAT : MT := gTru (gVar 5)
def bAT : MS := gSeq (gAsg (gBM "list" lPop (gVar 5) gNil) (tgTup [4, 2])) (gIfS (gTru (gVar 2)) (gSeq (gAsg (gBin mSub (gCB (f1 mLenV) (gCons (gVar 1) (gNil))) (gCB (f1 mLenV) (gCons (gVar 4) (gNil)))) (tgName 3)) (gAsg (gLst (gCons (gCB (f1 mTuple) (gCons (gSl (gVar 1) (gPs (gVar 3)) (gPn)) (gNil))) (gNil))) (tgTail (gVar 1) (gVar 3)))) (gIfS (gTru (gUn (mIsTy [("NoneType", false), ("bool", false), ("int", false), ("str", false), ("tuple", true), ("list", true), ("dict", false)]) (gVar 4))) (gSeq (gExpr (gBM "list" lApp (gVar 5) (gCons (gTup (gCons (gVar 4) (gCons (gC (.bl true)) (gNil)))) (gNil)))) (gExpr (gBM "list" lExtA (gVar 5) (gCons (gLc (gRev (gVar 4)) (.one 6) (gYes) (gTup (gCons (gVar 6) (gCons (gC (.bl false)) (gNil)))) [6]) (gNil))))) (gExpr (gBM "list" lApp (gVar 1) (gCons (gVar 4) (gNil))))))
def mAT : MF := gBody 7 (gSeq (gAsg (gLst (gCons (gTup (gCons (gVar 0) (gCons (gC (.bl false)) (gNil)))) (gNil))) (tgName 5)) (gSeq (gAsg (gLst (gNil)) (tgName 1)) (gSeq (gWhile cAT bAT 100000) (gRet (gBin mIx (gVar 1) (gC (.int 0)))))))
def pr (x : MV) : MV := .tup [x, .bl false]
theorem ty_atom {h : MH} {y : MV} (a : atB y = true) : mIsTy [("NoneType", false), ("bool", false), ("int", false), ("str", false), ("tuple", true), ("list", true), ("dict", false)] y h = .ok (.bl false) h := by
  cases y <;> first | rfl | (cases a; done)
theorem bAT_atom {h : MH} {t m2 m3 m4 m6 : Option MV} {r d : Nat} {l acc : List MV} {y : MV} (gr : h.get r = some (.lst (l ++ [pr y]))) (gd : h.get d = some (.lst acc)) (n : r ≠ d) (a : atB y = true) (ha : acc.length < 1000000) :
    bAT [t, some (.ref d), m2, m3, m4, some (.ref r), m6] h = .nx [t, some (.ref d), some (.bl false), m3, some y, some (.ref r), m6] ((h.set r (.lst l)).set d (.lst (acc ++ [y]))) := by
  have gd2 : (h.set r (.lst l)).get d = some (.lst acc) := by rw [set_ne gr (Ne.symm n)]; exact gd
  have t1 := ty_atom (h := h.set r (.lst l)) a
  simp [gSeq, gAsg, gBin, gVar, gC, gCB, f1, gCons, gNil, gFld, gUn, mFld, gRet, gExpr, gIfS, gB, gTru, gTup, gLst, gBM, Out.bind, Out.bindS, SO.next, SO.only, tgName, gSl, gPn, gPs, bAT, isTy, gr, lPop, pr, tgTup, seqOf, setMany, mTru, t1, gd2, lApp, ha]
theorem bAT_end {h : MH} {v : MV} {t m2 m3 m4 m6 : Option MV} {r d : Nat} {l xs : List MV} (gr : h.get r = some (.lst (l ++ [.tup [v, .bl true]]))) (gd : h.get d = some (.lst xs)) (n : r ≠ d) (ha : xs.length < 1000) (lv : mLenV v (h.set r (.lst l)) = .ok (.int xs.length) (h.set r (.lst l))) :
    bAT [t, some (.ref d), m2, m3, m4, some (.ref r), m6] h = .nx [t, some (.ref d), some (.bl true), some (.int 0), some v, some (.ref r), m6] ((((h.set r (.lst l)).push (.lst xs)).push (.lst [.tup xs])).set d (.lst [.tup xs])) := by
  have rl := MH.get_lt gr
  have dl := MH.get_lt gd
  have gd2 : (h.set r (.lst l)).get d = some (.lst xs) := by rw [set_ne gr (Ne.symm n)]; exact gd
  have ld : mLenV (.ref d) (h.set r (.lst l)) = .ok (.int xs.length) (h.set r (.lst l)) := by simp [mLenV, mLen, gd2]
  have hn : (h.set r (.lst l)).n = h.n := rfl
  have hn2 : ((h.set r (.lst l)).push (.lst xs)).n = h.n + 1 := rfl
  have g3 : ((h.set r (.lst l)).push (.lst xs)).get h.n = some (.lst xs) := get_top
  have g4 : (((h.set r (.lst l)).push (.lst xs)).push (.lst [.tup xs])).get d = some (.lst xs) := Up.push.at (Up.push.at gd2)
  have g5 : (((h.set r (.lst l)).push (.lst xs)).push (.lst [.tup xs])).get (h.n + 1) = some (.lst [.tup xs]) := get_top
  have dn : d ≠ h.n + 1 := by omega
  have c0 : mcut xs (some 0) none = xs := by
    have : HT.sIx xs.length 0 (some 0) = 0 := HT.sIx_nat (n := xs.length) (d := 0) (k := 0) |>.trans (by simp)
    simp [mcut, HT.sIx_none, this]
  have l1 : xs.length + 1 ≤ 1000000 := by omega
  simp [gSeq, gAsg, gBin, gVar, gC, gCB, f1, gCons, gNil, gFld, gUn, mFld, gRet, gExpr, gIfS, gB, gTru, gTup, gLst, gBM, Out.bind, Out.bindS, SO.next, SO.only, tgName, gSl, gPn, gPs, bAT, isTy, gr, lPop, tgTup, seqOf, setMany, mTru, gd2, lv, ld, mSub, mI, mSl, isL, hn, mTuple, tgTail, g3, g4, g5, dn, c0, hn2, l1]
theorem rev_it {h h' : MH} {v : MV} {xs : List MV} {m : ML} (s : Sq h v xs) (e : m[4]? = some (some v)) (k : ∀ q, v = .ref q → ∀ h', Up h h' → h'.get q = h.get q) :
    ∃ it, gRev (gVar 4) m h = .ok it h ∧ it.size h = xs.reverse.length ∧ ∀ h', Up h h' → ∀ j : Nat, it.at_ j h' = some xs.reverse[j]? := by
  have v4 : gVar 4 m h = .ok v h := by unfold gVar; rw [e]
  cases s with
  | tup => exact ⟨it1 xs.reverse, by simp [gRev, v4, Out.bind], rfl, fun _ _ _ => rfl⟩
  | @ref q xs eq =>
    refine ⟨it1VL q xs.length, by simp [gRev, v4, Out.bind, eq], by rw [List.length_reverse]; rfl, fun h' u j => ?_⟩
    show (match h'.get q with
      | some (.lst xs') => if j < xs.length then (match xs'[xs.length - 1 - j]? with
        | some x => some (some x)
        | none => none) else some none
      | _ => none) = _
    rw [u.at eq]
    dsimp only
    by_cases hj : j < xs.length
    · rw [if_pos hj, List.getElem?_reverse hj, List.getElem?_eq_getElem (by omega)]
    · rw [if_neg hj, List.getElem?_eq_none (by rw [List.length_reverse]; omega)]
theorem bAT_row {h : MH} {v : MV} {t m2 m3 m4 : Option MV} {r d : Nat} {xs : List MV} (s : Sq h v xs) (gr : h.get r = some (.lst [pr v])) (nv : v ≠ .ref r) (hx : xs.length < 1000) :
    ∃ h', bAT [t, some (.ref d), m2, m3, m4, some (.ref r), none] h = .nx [t, some (.ref d), some (.bl false), m3, some v, some (.ref r), none] h' ∧ h'.get r = some (.lst (.tup [v, .bl true] :: xs.reverse.map pr)) ∧ Kp [r] h h' := by
  have gg : (h.set r (.lst [])).get r = some (.lst []) := set_get gr
  have s0 : Sq (h.set r (.lst [])) v xs := by
    cases s with
    | tup => exact .tup _
    | @ref q xs e => exact .ref (by rw [set_ne gr (fun z => nv (by rw [z]))]; exact e)
  obtain ⟨hA, eA⟩ : ∃ hA, hA = (h.set r (.lst [])).set r (.lst [.tup [v, .bl true]]) := ⟨_, rfl⟩
  have k1 : Kp [r] h hA := by rw [eA]; exact (Kp.set (MH.get_lt gr) (by simp)).trans (Kp.set (MH.get_lt gg) (by simp))
  have g1 : hA.get r = some (.lst [.tup [v, .bl true]]) := by rw [eA]; exact set_get gg
  have s1 : Sq hA v xs := by
    rw [eA]
    cases s0 with
    | tup => exact .tup _
    | @ref q xs e => exact .ref (by rw [set_ne gg (fun z => nv (by rw [z]))]; exact e)
  have ty : mIsTy [("NoneType", false), ("bool", false), ("int", false), ("str", false), ("tuple", true), ("list", true), ("dict", false)] v (h.set r (.lst [])) = .ok (.bl true) (h.set r (.lst [])) := by
    cases s0 with
    | tup => rfl
    | ref e => simp [mIsTy, tyN, e]; rfl
  obtain ⟨it, i1, i2, i3⟩ := rev_it (h' := h) (m := [t, some (.ref d), some (.bl false), m3, some v, some (.ref r), none]) s1 rfl (fun q e h' u => by
    cases s1 with
    | tup => cases e
    | ref e1 => cases e; rw [u.at e1, e1])
  obtain ⟨h2, c1, c2, c3⟩ := comp_up (sl := 6) (e := gTup (gCons (gVar 6) (gCons (gC (.bl false)) (gNil)))) (F := pr) i1 i2 (by rw [List.length_reverse]; omega) i3 (fun x hx h' u => ⟨h', rfl, .refl⟩)
  have g2 := c3.at g1
  refine ⟨h2.set r (.lst (.tup [v, .bl true] :: xs.reverse.map pr)), ?_, set_get g2, (k1.trans c3.kp).trans (Kp.set (MH.get_lt g2) (by simp))⟩
  have ln : xs.length + 1 < 1000000 := by omega
  have p1 : gAsg (gBM "list" lPop (gVar 5) gNil) (tgTup [4, 2]) [t, some (.ref d), m2, m3, m4, some (.ref r), none] h = .nx [t, some (.ref d), some (.bl false), m3, some v, some (.ref r), none] (h.set r (.lst [])) := by
    simp [gSeq, gAsg, gBin, gVar, gC, gCB, f1, gCons, gNil, gFld, gUn, mFld, gRet, gExpr, gIfS, gB, gTru, gTup, gLst, gBM, Out.bind, Out.bindS, SO.next, SO.only, tgName, gSl, gPn, gPs, isTy, gr, lPop, pr, tgTup, seqOf, setMany]
  have p2 : gExpr (gBM "list" lApp (gVar 5) (gCons (gTup (gCons (gVar 4) (gCons (gC (.bl true)) (gNil)))) (gNil))) [t, some (.ref d), some (.bl false), m3, some v, some (.ref r), none] (h.set r (.lst [])) = .nx [t, some (.ref d), some (.bl false), m3, some v, some (.ref r), none] hA := by
    rw [eA]
    simp [gSeq, gAsg, gBin, gVar, gC, gCB, f1, gCons, gNil, gFld, gUn, mFld, gRet, gExpr, gIfS, gB, gTru, gTup, gLst, gBM, Out.bind, Out.bindS, SO.next, SO.only, tgName, gSl, gPn, gPs, isTy, gg, lApp]
  have p3 : gExpr (gBM "list" lExtA (gVar 5) (gCons (gLc (gRev (gVar 4)) (.one 6) (gYes) (gTup (gCons (gVar 6) (gCons (gC (.bl false)) (gNil)))) [6]) (gNil))) [t, some (.ref d), some (.bl false), m3, some v, some (.ref r), none] hA = .nx [t, some (.ref d), some (.bl false), m3, some v, some (.ref r), none] (h2.set r (.lst (.tup [v, .bl true] :: xs.reverse.map pr))) := by
    have l2 : 1 + xs.length < 1000000 := by omega
    simp only [gExpr, gBM, gVar, gCons, gNil, Out.bind, Out.bindS, isTy, g1, c1, lExtA, lExt, g2, c2, List.getElem?_cons_succ, List.getElem?_cons_zero]
    simp [l2, ln]
  refine (seq_nx p1).trans ?_
  refine (ifS_f (h1 := h.set r (.lst [])) ?_).trans ((ifS_t (h1 := h.set r (.lst [])) ?_).trans ((seq_nx p2).trans p3))
  · simp [gSeq, gAsg, gBin, gVar, gC, gCB, f1, gCons, gNil, gFld, gUn, mFld, gRet, gExpr, gIfS, gB, gTru, gTup, gLst, gBM, Out.bind, Out.bindS, SO.next, SO.only, tgName, gSl, gPn, gPs, mTru]
  · simp [gSeq, gAsg, gBin, gVar, gC, gCB, f1, gCons, gNil, gFld, gUn, mFld, gRet, gExpr, gIfS, gB, gTru, gTup, gLst, gBM, Out.bind, Out.bindS, SO.next, SO.only, tgName, gSl, gPn, gPs, ty, mTru]
theorem c_yes {h : MH} {t m1 m2 m3 m4 m6 : Option MV} {r : Nat} {x : MV} {l : List MV} (gr : h.get r = some (.lst (x :: l))) : cAT [t, m1, m2, m3, m4, some (.ref r), m6] h = .ok true h := by simp [gSeq, gAsg, gBin, gVar, gC, gCB, f1, gCons, gNil, gFld, gUn, mFld, gRet, gExpr, gIfS, gB, gTru, gTup, gLst, gBM, Out.bind, Out.bindS, SO.next, SO.only, tgName, gSl, gPn, gPs, cAT, mTru, gr]
theorem c_no {h : MH} {t m1 m2 m3 m4 m6 : Option MV} {r : Nat} (gr : h.get r = some (.lst [])) : cAT [t, m1, m2, m3, m4, some (.ref r), m6] h = .ok false h := by simp [gSeq, gAsg, gBin, gVar, gC, gCB, f1, gCons, gNil, gFld, gUn, mFld, gRet, gExpr, gIfS, gB, gTru, gTup, gLst, gBM, Out.bind, Out.bindS, SO.next, SO.only, tgName, gSl, gPn, gPs, cAT, mTru, gr]
theorem while_t {c : MT} {b : MS} {N : Nat} {m m2 : ML} {h h1 h2 : MH} (e : c m h = .ok true h1) (e2 : b m h1 = .nx m2 h2) : gWhile c b (N + 1) m h = gWhile c b N m2 h2 := by
  show (c m h).bindS _ = _
  rw [e]
  simp only [Out.bindS, if_pos, e2]
theorem while_f {c : MT} {b : MS} {N : Nat} {m : ML} {h h1 : MH} (e : c m h = .ok false h1) : gWhile c b (N + 1) m h = .nx m h1 := by
  show (c m h).bindS _ = _
  rw [e]; rfl
theorem pops {t m3 m6 : Option MV} {r d : Nat} {T : MV} (n : r ≠ d) : ∀ (ys acc : List MV) (N : Nat) (h : MH) (m2 m4 : Option MV), h.get r = some (.lst (T :: ys.reverse.map pr)) → h.get d = some (.lst acc) → (∀ y ∈ ys, atB y = true) → acc.length + ys.length < 1000 →
    ∃ h' m2' m4', gWhile cAT bAT (N + ys.length) [t, some (.ref d), m2, m3, m4, some (.ref r), m6] h = gWhile cAT bAT N [t, some (.ref d), m2', m3, m4', some (.ref r), m6] h' ∧ h'.get r = some (.lst [T]) ∧ h'.get d = some (.lst (acc ++ ys)) ∧ Kp [r, d] h h'
  | [], acc, N, h, m2, m4, gr, gd, _, _ => ⟨h, m2, m4, rfl, gr, by rw [List.append_nil]; exact gd, .refl⟩
  | y :: ys, acc, N, h, m2, m4, gr, gd, ha, hl => by
    have e0 : T :: (y :: ys).reverse.map pr = (T :: ys.reverse.map pr) ++ [pr y] := by simp
    have gr' := gr
    rw [e0] at gr
    have b1 := bAT_atom (t := t) (m2 := m2) (m3 := m3) (m4 := m4) (m6 := m6) gr gd n (ha y List.mem_cons_self) (by omega)
    have gd2 : (h.set r (.lst (T :: ys.reverse.map pr))).get d = some (.lst acc) := by rw [set_ne gr (Ne.symm n)]; exact gd
    have k1 : Kp [r, d] h ((h.set r (.lst (T :: ys.reverse.map pr))).set d (.lst (acc ++ [y]))) := (Kp.set (MH.get_lt gr) (by simp)).trans (Kp.set (MH.get_lt gd2) (by simp))
    obtain ⟨h', m2', m4', w, q1, q2, q3⟩ := pops (t := t) (m3 := m3) (m6 := m6) n ys (acc ++ [y]) N ((h.set r (.lst (T :: ys.reverse.map pr))).set d (.lst (acc ++ [y]))) (some (.bl false)) (some y) (by rw [set_ne gd2 n]; exact set_get gr) (set_get gd2) (fun z hz => ha z (List.mem_cons_of_mem _ hz)) (by simp at hl ⊢; omega)
    refine ⟨h', m2', m4', ?_, q1, by rw [q2]; simp, k1.trans q3⟩
    rw [← w]
    exact while_t (c_yes gr') b1
theorem at_ok {h : MH} {v : MV} {xs : List MV} (s : Sq h v xs) (ha : ∀ x ∈ xs, atB x = true) (hl : xs.length < 1000) : ∃ h', mAT [v] h = .ok (.tup xs) h' ∧ Up h h' := by
  obtain ⟨h1, e1⟩ : ∃ h1, h1 = (h.push (.lst [pr v])).push (.lst []) := ⟨_, rfl⟩
  have u1 : Up h h1 := by rw [e1]; exact Up.push.trans Up.push
  have n1 : h1.n = h.n + 2 := by rw [e1]; rfl
  have gr : h1.get h.n = some (.lst [pr v]) := by rw [e1]; exact Up.push.at get_top
  have gd : h1.get (h.n + 1) = some (.lst []) := by rw [e1]; exact get_top
  have nv : v ≠ .ref h.n := by
    cases s with
    | tup => simp
    | ref e => have := MH.get_lt e; simp; omega
  have s1 := s.up u1
  obtain ⟨h2, b1, g2, k2⟩ := bAT_row (t := some v) (m2 := none) (m3 := none) (m4 := none) (d := h.n + 1) s1 gr nv hl
  have gd2 : h2.get (h.n + 1) = some (.lst []) := k2.at gd (by simp)
  obtain ⟨h3, m2', m4', w, g3, g4, k3⟩ := pops (t := some v) (m3 := none) (m6 := none) (r := h.n) (d := h.n + 1) (T := .tup [v, .bl true]) (by omega) xs [] (99999 - xs.length) h2 (some (.bl false)) (some v) g2 gd2 ha (by simp; omega)
  rw [List.nil_append] at g4
  have s3 : Sq (h3.set h.n (.lst [])) v xs := by
    cases s1 with
    | tup => exact .tup _
    | @ref q xs e =>
      have nq : q ≠ h.n := fun z => nv (by rw [z])
      have nq2 : q ≠ h.n + 1 := fun z => by
        cases s with
        | ref e' => have := MH.get_lt e'; omega
      exact .ref (by rw [set_ne g3 nq]; exact k3.at (k2.at e (by simpa using nq)) (by simp; exact ⟨nq, nq2⟩))
  have b2 := bAT_end (t := some v) (m2 := m2') (m3 := none) (m4 := m4') (m6 := none) (l := []) (by simpa using g3) g4 (by omega) hl s3.len
  have g6 : ((((h3.set h.n (.lst [])).push (.lst xs)).push (.lst [.tup xs])).set (h.n + 1) (.lst [.tup xs])).get h.n = some (.lst []) := by
    have q1 : (h3.set h.n (.lst [])).get h.n = some (.lst []) := set_get g3
    have q2 : (h3.set h.n (.lst [])).get (h.n + 1) = some (.lst xs) := by rw [set_ne g3 (by omega)]; exact g4
    rw [set_ne (Up.push.at (Up.push.at q2)) (by omega)]
    exact Up.push.at (Up.push.at q1)
  have q2 : (((h3.set h.n (.lst [])).push (.lst xs)).push (.lst [.tup xs])).get (h.n + 1) = some (.lst xs) := by
    have : (h3.set h.n (.lst [])).get (h.n + 1) = some (.lst xs) := by rw [set_ne g3 (by omega)]; exact g4
    exact Up.push.at (Up.push.at this)
  have g7 := set_get (o := .lst [.tup xs]) q2
  have lw : 100000 = (99999 - xs.length) + xs.length + 1 := by omega
  have lw2 : 99999 - xs.length = (99997 - xs.length) + 1 + 1 := by omega
  have W : gWhile cAT bAT 100000 [some v, some (.ref (h.n + 1)), none, none, none, some (.ref h.n), none] h1 = .nx [some v, some (.ref (h.n + 1)), some (.bl true), some (.int 0), some v, some (.ref h.n), none] ((((h3.set h.n (.lst [])).push (.lst xs)).push (.lst [.tup xs])).set (h.n + 1) (.lst [.tup xs])) := by
    rw [lw]
    refine (while_t (c_yes gr) b1).trans (w.trans ?_)
    rw [lw2]
    exact (while_t (c_yes g3) b2).trans (while_f (c_no g6))
  have p1 : gAsg (gLst (gCons (gTup (gCons (gVar 0) (gCons (gC (.bl false)) (gNil)))) (gNil))) (tgName 5) [some v, none, none, none, none, none, none] h = .nx [some v, none, none, none, none, some (.ref h.n), none] (h.push (.lst [pr v])) := rfl
  have p2 : gAsg (gLst (gNil)) (tgName 1) [some v, none, none, none, none, some (.ref h.n), none] (h.push (.lst [pr v])) = .nx [some v, some (.ref (h.n + 1)), none, none, none, some (.ref h.n), none] h1 := by rw [e1]; rfl
  have p4 : gRet (gBin mIx (gVar 1) (gC (.int 0))) [some v, some (.ref (h.n + 1)), some (.bl true), some (.int 0), some v, some (.ref h.n), none] ((((h3.set h.n (.lst [])).push (.lst xs)).push (.lst [.tup xs])).set (h.n + 1) (.lst [.tup xs])) = .rt (.tup xs) ((((h3.set h.n (.lst [])).push (.lst xs)).push (.lst [.tup xs])).set (h.n + 1) (.lst [.tup xs])) := by
    have i0 : mIx (.ref (h.n + 1)) (.int 0) ((((h3.set h.n (.lst [])).push (.lst xs)).push (.lst [.tup xs])).set (h.n + 1) (.lst [.tup xs])) = .ok (.tup xs) _ := (Sq.ref g7).ix (k := 0) rfl
    simp [gSeq, gAsg, gBin, gVar, gC, gCB, f1, gCons, gNil, gFld, gUn, mFld, gRet, gExpr, gIfS, gB, gTru, gTup, gLst, gBM, Out.bind, Out.bindS, SO.next, SO.only, tgName, gSl, gPn, gPs, i0]
  refine ⟨_, body_rt (v := .tup xs) ((seq_nx p1).trans ((seq_nx p2).trans ((seq_nx W).trans p4))), ?_⟩
  have l3 := MH.get_lt g3
  refine ⟨?_, fun j hj => ?_⟩
  · have a1 := k2.n
    have a2 := k3.n
    show h.n ≤ h3.n + 2
    omega
  · have j1 : j < h1.n := by omega
    have j2 : j < h2.n := by have := k2.n; omega
    have j3 : j < h3.n := by have := k3.n; omega
    rw [set_ne q2 (by omega)]
    rw [(Up.push.trans (Up.push (o := .lst [.tup xs]))).get j (by show j < (h3.set h.n (.lst [])).n; exact j3), set_ne g3 (by omega), k3.get j j2 (by simp; omega), k2.get j j1 (by simp; omega), u1.get j hj]
end DK
set_option Elab.async false
set_option linter.all false
set_option maxRecDepth 100000
set_option maxHeartbeats 4000000
namespace DK
open MI XG XM XK PySem
open L2 (atI ixN)
abbrev nHold : Nat := 922337678674733564008
abbrev nLast : Nat := 18375823401358583102693711332145945774615691359
abbrev nShown : Nat := 4462132414599151834275831881924703
abbrev nLoose : Nat := 4097048964362169311339300488478815
abbrev nWr : Nat := 9783122146025964529499104918003653804127
abbrev nLeft : Nat := 2243767261989143710365909087
abbrev nCnt : Nat := 4705521155757709195119605160345695
abbrev nChk : Nat := 348538353417950755963802525141600950949726012270321967488514151921221727
abbrev nPl : Nat := 1953625037611499005686055024
abbrev nNum : Nat := 4624391343257609244839718701498478
section
variable (C eL eS eB : Nat)
def mHold : MF := gBody 2 (gSeq (gFldS [C] nLast (gCB (f1 mList) (gCons (gVar 1) (gNil))) (gVar 0)) (gSeq (gFldS [C] nShown (gCB (f1 mList) (gCons (gVar 1) (gNil))) (gVar 0)) (gFldS [C] nLoose (gLst (gNil)) (gVar 0))))
def mDInit : MF := gBody 2 (gSeq (gExpr (gMeth C nHold (mHold C) [] 2 (gVar 0) (gCons (gBin mMulA (gLst (gCons (gTup (gNil)) (gNil))) (gVar 1)) (gNil)))) (gSeq (gFldS [C] nWr (gC (.int 0)) (gVar 0)) (gFldS [C] nLeft (gC .non) (gVar 0))))
def mCount : MF := gBody 1 (gIfS (gB (gNotN (gFld [C] nLeft (gVar 0)))) (gSeq (gIfS (gB (gBin mLeI (gFld [C] nLeft (gVar 0)) (gC (.int 0)))) (gRaise0 eS) (gNext)) (gFldAug [C] nLeft (fun i j => i - j) (gVar 0) (gC (.int 1)))) (gNext))
def mChk : MF := gBody 2 (gIfS (gOr (gB (gBin mLtI (gVar 1) (gC (.int 0)))) (gB (gBin mGeI (gVar 1) (gCB (f1 mLenV) (gCons (gFld [C] nShown (gVar 0)) (gNil)))))) (gRaise1 eB nPl (gVar 1)) (gNext))
def mDWrite : MF := gBody 4 (gSeq (gExpr (gMeth C nChk (mChk C eB) [] 2 (gVar 0) (gCons (gVar 1) (gNil)))) (gSeq (gExpr (gMeth C nCnt (mCount C eS) [] 1 (gVar 0) gNil)) (gSeq (gAsg (gCall mAT [] 1 (gCons (gVar 2) (gNil))) (tgName 3)) (gSeq (gAsg (gVar 3) (tgSub (gFld [C] nShown (gVar 0)) (gVar 1))) (gSeq (gExpr (gBM "list" lApp (gFld [C] nLoose (gVar 0)) (gCons (gTup (gCons (gVar 1) (gCons (gVar 3) (gNil)))) (gNil)))) (gFldAug [C] nWr (fun i j => i + j) (gVar 0) (gC (.int 1))))))))
def mDRead : MF := gBody 2 (gSeq (gExpr (gMeth C nChk (mChk C eB) [] 2 (gVar 0) (gCons (gVar 1) (gNil)))) (gRet (gBin mIx (gFld [C] nShown (gVar 0)) (gVar 1))))
def mBarr : MF := gBody 1 (gSeq (gExpr (gMeth C nCnt (mCount C eS) [] 1 (gVar 0) gNil)) (gExpr (gMeth C nHold (mHold C) [] 2 (gVar 0) (gCons (gFld [C] nShown (gVar 0)) (gNil)))))
def bCr1 : MS := gIfS (gOr (gB (gBin mLtI (gVar 3) (gC (.int 0)))) (gB (gBin mGeI (gVar 3) (gCB (f1 mLenV) (gCons (gFld [C] nLoose (gVar 0)) (gNil)))))) (gRaise1 eL nNum (gVar 3)) (gNext)
def bCr2 : MS := gSeq (gAsg (gBin mIx (gFld [C] nLoose (gVar 0)) (gVar 3)) (tgTup [4, 2])) (gAsg (gVar 2) (tgSub (gFld [C] nLast (gVar 0)) (gVar 4)))
def mCrash : MF := gBody 5 (gSeq (gFor (gIter (gVar 1)) (tgName 3) (bCr1 C eL)) (gSeq (gFor (gIter (gVar 1)) (tgName 3) (bCr2 C)) (gSeq (gExpr (gMeth C nHold (mHold C) [] 2 (gVar 0) (gCons (gFld [C] nLast (gVar 0)) (gNil)))) (gFldS [C] nLeft (gC .non) (gVar 0)))))
def mWrites : MF := gBody 1 (gRet (gFld [C] nWr (gVar 0)))
def mLoose : MF := gBody 1 (gRet (gCB (f1 mList) (gCons (gFld [C] nLoose (gVar 0)) (gNil))))
def mFail : MF := gBody 2 (gFldS [C] nLeft (gVar 1) (gVar 0))
end
def fs (a b c : Nat) (n : Int) (lv : MV) : List (Nat × MV) := [(nLast, .ref a), (nShown, .ref b), (nLoose, .ref c), (nWr, .int n), (nLeft, lv)]
def lp (p : Nat × MV) : MV := .tup [.int (p.1 : Nat), p.2]
structure Dsk (C : Nat) (h : MH) (p a b c : Nat) (A B : List MV) (L : List (Nat × MV)) (n : Int) (lv : MV) : Prop where
  ins : h.get p = some (.ins C (fs a b c n lv))
  ga : h.get a = some (.lst A)
  gb : h.get b = some (.lst B)
  gc : h.get c = some (.lst (L.map lp))
  ab : a ≠ b
  ac : a ≠ c
  bc : b ≠ c
  len : A.length = B.length
  lt : ∀ q ∈ L, q.1 < A.length
section
variable {C eL eS eB : Nat} {h h' : MH} {p a b c : Nat} {A B : List MV} {L : List (Nat × MV)} {n : Int} {lv : MV}
theorem Dsk.pa (d : Dsk C h p a b c A B L n lv) : p ≠ a ∧ p ≠ b ∧ p ≠ c := by
  refine ⟨fun z => ?_, fun z => ?_, fun z => ?_⟩
  · have := d.ins; rw [z, d.ga] at this; cases this
  · have := d.ins; rw [z, d.gb] at this; cases this
  · have := d.ins; rw [z, d.gc] at this; cases this
theorem Dsk.frame (d : Dsk C h p a b c A B L n lv) (e : ∀ j ∈ [p, a, b, c], h'.get j = h.get j) : Dsk C h' p a b c A B L n lv :=
  ⟨(e p (by simp)).trans d.ins, (e a (by simp)).trans d.ga, (e b (by simp)).trans d.gb, (e c (by simp)).trans d.gc, d.ab, d.ac, d.bc, d.len, d.lt⟩
theorem Dsk.kp {F : List Nat} (d : Dsk C h p a b c A B L n lv) (k : Kp F h h') (f : ∀ j ∈ [p, a, b, c], j ∉ F) : Dsk C h' p a b c A B L n lv := d.frame fun j hj => by
  refine k.get j ?_ (f j hj)
  have l1 := MH.get_lt d.ins
  have l2 := MH.get_lt d.ga
  have l3 := MH.get_lt d.gb
  have l4 := MH.get_lt d.gc
  simp only [List.mem_cons, List.not_mem_nil, or_false] at hj
  rcases hj with rfl | rfl | rfl | rfl <;> assumption
theorem Dsk.up (d : Dsk C h p a b c A B L n lv) (u : Up h h') : Dsk C h' p a b c A B L n lv := d.kp (F := []) u.kp (by simp)
theorem fld_at {C f s : Nat} {m : ML} {fs : List (Nat × MV)} {y : MV} (e0 : m[0]? = some (some (.ref s))) (g : h.get s = some (.ins C fs)) (l : fs.lookup f = some y) : gFld [C] f (gVar 0) m h = .ok y h := by
  have v0 : gVar 0 m h = .ok (.ref s) h := var_at e0
  simp [gFld, gUn, mFld, v0, Out.bind, g, l]
theorem list_ok {h : MH} {v : MV} {xs : List MV} (s : Sq h v xs) : mList v h = .ok (.ref h.n) (h.push (.lst xs)) := by
  cases s with
  | tup => rfl
  | ref e => simp [mList, seqOf, e]
theorem hold_gen {F0 : List (Nat × MV)} {v : MV} {xs : List MV} (g : h.get p = some (.ins C F0)) (l : F0.length < 800) (s : Sq h v xs) :
    ∃ h', mHold C [.ref p, v] h = .ok .non h' ∧ h'.get p = some (.ins C (mput nLoose (.ref (h.n + 2)) (mput nShown (.ref (h.n + 1)) (mput nLast (.ref h.n) F0)))) ∧ h'.get h.n = some (.lst xs) ∧ h'.get (h.n + 1) = some (.lst xs) ∧ h'.get (h.n + 2) = some (.lst []) ∧ Kp [p] h h' ∧ h'.n = h.n + 3 := by
  have m : mput nLoose (.ref (h.n + 2)) (mput nShown (.ref (h.n + 1)) (mput nLast (.ref h.n) F0)) = mput nLoose (.ref (h.n + 2)) (mput nShown (.ref (h.n + 1)) (mput nLast (.ref h.n) F0)) := rfl
  have ml : ∀ (f : Nat) (y : MV) (F : List (Nat × MV)), (mput f y F).length ≤ F.length + 1 := fun f y F => by
    induction F with
    | nil => simp [mput]
    | cons q r ih => unfold mput; split <;> simp <;> omega
  have pn := MH.get_lt g
  have nv : v ≠ .ref p := fun z => by
    cases s with
    | tup => cases z
    | ref e => cases z; rw [g] at e; cases e
  -- one
  have g1 : (h.push (.lst xs)).get p = some (.ins C F0) := Up.push.at g
  have t1 := fldS_ok (C := C) (f := nLast) (v := gCB (f1 mList) (gCons (gVar 1) (gNil))) (m := [some (.ref p), some v]) (h := h) (h1 := h.push (.lst xs)) (y := .ref h.n) (by simp [gSeq, gAsg, gBin, gVar, gC, gCB, f1, gCons, gNil, gFld, gUn, mFld, gRet, gExpr, gIfS, gB, gTru, gTup, gLst, gBM, Out.bind, Out.bindS, SO.next, SO.only, tgName, gSl, gPn, gPs, list_ok s]) rfl g1 (by omega)
  obtain ⟨hA, eA⟩ : ∃ hA, hA = (h.push (.lst xs)).set p (.ins C (mput nLast (.ref h.n) F0)) := ⟨_, rfl⟩
  rw [← eA] at t1
  have nA : hA.n = h.n + 1 := by rw [eA]; rfl
  have kA : Kp [p] h hA := by rw [eA]; exact Up.push.kp.trans (Kp.set (MH.get_lt g1) (by simp))
  have gA : hA.get p = some (.ins C (mput nLast (.ref h.n) F0)) := by rw [eA]; exact set_get g1
  have gA1 : hA.get h.n = some (.lst xs) := by rw [eA, set_ne g1 (by omega)]; exact get_top
  have sA : Sq hA v xs := by
    cases s with
    | tup => exact .tup _
    | @ref q xs e => exact .ref (kA.at e (by simp; exact fun z => nv (by rw [z])))
  -- two
  have g2 : (hA.push (.lst xs)).get p = some (.ins C (mput nLast (.ref h.n) F0)) := Up.push.at gA
  have t2 := fldS_ok (C := C) (f := nShown) (v := gCB (f1 mList) (gCons (gVar 1) (gNil))) (m := [some (.ref p), some v]) (h := hA) (h1 := hA.push (.lst xs)) (y := .ref hA.n) (by simp [gSeq, gAsg, gBin, gVar, gC, gCB, f1, gCons, gNil, gFld, gUn, mFld, gRet, gExpr, gIfS, gB, gTru, gTup, gLst, gBM, Out.bind, Out.bindS, SO.next, SO.only, tgName, gSl, gPn, gPs, list_ok sA]) rfl g2 (by have := ml nLast (.ref h.n) F0; omega)
  obtain ⟨hB, eB⟩ : ∃ hB, hB = (hA.push (.lst xs)).set p (.ins C (mput nShown (.ref hA.n) (mput nLast (.ref h.n) F0))) := ⟨_, rfl⟩
  rw [← eB] at t2
  have nB : hB.n = h.n + 2 := by rw [eB]; show hA.n + 1 = _; omega
  have kB : Kp [p] hA hB := by rw [eB]; exact Up.push.kp.trans (Kp.set (MH.get_lt g2) (by simp))
  have gB : hB.get p = some (.ins C (mput nShown (.ref hA.n) (mput nLast (.ref h.n) F0))) := by rw [eB]; exact set_get g2
  have gB1 : hB.get h.n = some (.lst xs) := kB.at gA1 (by simp; omega)
  have gB2 : hB.get (h.n + 1) = some (.lst xs) := by rw [eB, set_ne g2 (by omega), ← nA]; exact get_top
  -- three
  have g3 : (hB.push (.lst [])).get p = some (.ins C (mput nShown (.ref hA.n) (mput nLast (.ref h.n) F0))) := Up.push.at gB
  have t3 := fldS_ok (C := C) (f := nLoose) (v := gLst (gNil)) (m := [some (.ref p), some v]) (h := hB) (h1 := hB.push (.lst [])) (y := .ref hB.n) rfl rfl g3 (by have := ml nLast (.ref h.n) F0; have := ml nShown (.ref hA.n) (mput nLast (.ref h.n) F0); omega)
  obtain ⟨hC, eC⟩ : ∃ hC, hC = (hB.push (.lst [])).set p (.ins C (mput nLoose (.ref hB.n) (mput nShown (.ref hA.n) (mput nLast (.ref h.n) F0)))) := ⟨_, rfl⟩
  rw [← eC] at t3
  have nC : hC.n = h.n + 3 := by rw [eC]; show hB.n + 1 = _; omega
  have kC : Kp [p] hB hC := by rw [eC]; exact Up.push.kp.trans (Kp.set (MH.get_lt g3) (by simp))
  have gC : hC.get p = some (.ins C (mput nLoose (.ref hB.n) (mput nShown (.ref hA.n) (mput nLast (.ref h.n) F0)))) := by rw [eC]; exact set_get g3
  have gC3 : hC.get (h.n + 2) = some (.lst []) := by rw [eC, set_ne g3 (by omega), ← nB]; exact get_top
  rw [nA, nB] at gC
  exact ⟨hC, body_nx ((seq_nx t1).trans ((seq_nx t2).trans t3)), gC, kC.at gB1 (by simp; omega), kC.at gB2 (by simp; omega), gC3, (kA.trans kB).trans kC, nC⟩
theorem hold_ok (d : Dsk C h p a b c A B L n lv) {v : MV} {xs : List MV} (s : Sq h v xs) :
    ∃ h', mHold C [.ref p, v] h = .ok .non h' ∧ Dsk C h' p h.n (h.n + 1) (h.n + 2) xs xs [] n lv ∧ Kp [p] h h' := by
  obtain ⟨h', e1, e2, e3, e4, e5, e6, e7⟩ := hold_gen d.ins (by show 5 < 800; decide) s
  exact ⟨h', e1, ⟨e2, e3, e4, e5, by omega, by omega, by omega, rfl, fun q hq => by cases hq⟩, e6⟩
theorem chk_ok (d : Dsk C h p a b c A B L n lv) {k : Nat} (hk : k < B.length) : mChk C eB [.ref p, .int (k : Nat)] h = .ok .non h := by
  have f := fld_at (C := C) (f := nShown) (m := [some (.ref p), some (.int (k : Nat))]) (y := .ref b) rfl d.ins rfl
  have k0 : ¬ ((k : Int) < 0) := by omega
  have k1 : ¬ ((B.length : Int) ≤ (k : Int)) := by omega
  refine body_nx (m := [some (.ref p), some (.int (k : Nat))]) ?_
  show gIfS _ _ _ [some (.ref p), some (.int (k : Nat))] h = _
  refine ifS_f (h1 := h) ?_
  simp only [gOr, MI.gB, gBin, gVar, gC, gCB, f1, gCons, gNil, Out.bind, f, List.getElem?_cons_succ, List.getElem?_cons_zero, mLtI, mGeI, mI, mLenV, mLen, d.gb, decide_eq_false k0, decide_eq_false k1, Bool.false_eq_true, if_false]
def lvOf (l : Int) : MV := if l < 0 then .non else .int l
def less (l : Int) : Int := if 0 < l then l - 1 else l
theorem count_ok {l : Int} (d : Dsk C h p a b c A B L n (lvOf l)) (hl : l ≠ 0) : ∃ h', mCount C eS [.ref p] h = .ok .non h' ∧ Dsk C h' p a b c A B L n (lvOf (less l)) ∧ Kp [p] h h' := by
  by_cases z : l < 0
  · have e1 : lvOf l = .non := if_pos z
    have e2 : less l = l := if_neg (by omega)
    rw [e2]
    have f := fld_at (C := C) (f := nLeft) (m := [some (.ref p)]) (y := lvOf l) rfl d.ins rfl
    refine ⟨h, body_nx (m := [some (.ref p)]) ?_, d, .refl⟩
    show gIfS _ _ _ [some (.ref p)] h = _
    refine ifS_f (h1 := h) ?_
    simp only [MI.gB, gNotN, gUn, f, Out.bind, e1, mIsN, Bool.not_true]
  · have e1 : lvOf l = .int l := if_neg z
    have e2 : less l = l - 1 := if_pos (by omega)
    have e3 : lvOf (l - 1) = .int (l - 1) := if_neg (by omega)
    rw [e2, e3]
    have f := fld_at (C := C) (f := nLeft) (m := [some (.ref p)]) (y := lvOf l) rfl d.ins rfl
    have pl := MH.get_lt d.ins
    obtain ⟨pa, pb, pc⟩ := d.pa
    have l0 : ¬ (l ≤ 0) := by omega
    refine ⟨h.set p (.ins C (fs a b c n (.int (l - 1)))), body_nx (m := [some (.ref p)]) ?_, ⟨set_get d.ins, by rw [set_ne d.ins (Ne.symm pa)]; exact d.ga, by rw [set_ne d.ins (Ne.symm pb)]; exact d.gb, by rw [set_ne d.ins (Ne.symm pc)]; exact d.gc, d.ab, d.ac, d.bc, d.len, d.lt⟩, Kp.set pl (by simp)⟩
    show gIfS _ _ _ [some (.ref p)] h = _
    refine (ifS_t (h1 := h) ?_).trans ((seq_nx (m' := [some (.ref p)]) (h' := h) ?_).trans ?_)
    · simp only [MI.gB, gNotN, gUn, f, Out.bind, e1, mIsN, Bool.not_false]
    · refine (ifS_f (h1 := h) ?_).trans rfl
      simp only [MI.gB, gBin, f, Out.bind, e1, gC, mLeI, mI, decide_eq_false l0]
    · have v0 : gVar 0 [some (.ref p)] h = .ok (.ref p) h := rfl
      have lk : (fs a b c n (lvOf l)).lookup nLeft = some (.int l) := by rw [← e1]; rfl
      simp [gFldAug, v0, Out.bindS, mFld, d.ins, lk, gC]
      rfl
theorem count_er (d : Dsk C h p a b c A B L n (lvOf 0)) : mCount C eS [.ref p] h = .er (.own eS [] []) h := by
  have f := fld_at (C := C) (f := nLeft) (m := [some (.ref p)]) (y := .int 0) rfl d.ins rfl
  refine body_er ?_
  show gIfS _ _ _ [some (.ref p)] h = _
  refine (ifS_t (h1 := h) ?_).trans ?_
  · simp only [MI.gB, gNotN, gUn, f, Out.bind, mIsN, Bool.not_false]
  · have c1 : gIfS (MI.gB (gBin mLeI (gFld [C] nLeft (gVar 0)) (MI.gC (.int 0)))) (gRaise0 eS) gNext [some (.ref p)] h = .er (.own eS [] []) h := by
      refine (ifS_t (h1 := h) ?_).trans rfl
      simp only [MI.gB, gBin, f, Out.bind, MI.gC, mLeI, mI]
      rfl
    unfold gSeq
    rw [c1]; rfl
theorem writes_ok (d : Dsk C h p a b c A B L n lv) : mWrites C [.ref p] h = .ok (.int n) h := by
  have f := fld_at (C := C) (f := nWr) (m := [some (.ref p)]) (y := .int n) rfl d.ins rfl
  refine body_rt (v := .int n) ?_
  show gRet _ [some (.ref p)] h = _
  simp only [gRet, f, Out.bindS]
theorem loose_ok (d : Dsk C h p a b c A B L n lv) : mLoose C [.ref p] h = .ok (.ref h.n) (h.push (.lst (L.map lp))) := by
  have f := fld_at (C := C) (f := nLoose) (m := [some (.ref p)]) (y := .ref c) rfl d.ins rfl
  have l := list_ok (.ref d.gc)
  refine body_rt (v := .ref h.n) ?_
  show gRet _ [some (.ref p)] h = _
  simp only [gRet, gCB, gCons, gNil, f1, f, Out.bind, Out.bindS, l]
theorem Dsk.left (d : Dsk C h p a b c A B L n lv) (w : MV) : Dsk C (h.set p (.ins C (fs a b c n w))) p a b c A B L n w := by
  obtain ⟨pa, pb, pc⟩ := d.pa
  exact ⟨set_get d.ins, by rw [set_ne d.ins (Ne.symm pa)]; exact d.ga, by rw [set_ne d.ins (Ne.symm pb)]; exact d.gb, by rw [set_ne d.ins (Ne.symm pc)]; exact d.gc, d.ab, d.ac, d.bc, d.len, d.lt⟩
theorem fail_ok (d : Dsk C h p a b c A B L n lv) (w : MV) : ∃ h', mFail C [.ref p, w] h = .ok .non h' ∧ Dsk C h' p a b c A B L n w ∧ Kp [p] h h' :=
  ⟨_, body_nx (m := [some (.ref p), some w]) (fldS_ok (C := C) (f := nLeft) (v := gVar 1) (m := [some (.ref p), some w]) rfl rfl d.ins (by show 5 < 900; decide)), d.left w, Kp.set (MH.get_lt d.ins) (by simp)⟩
end
end DK
set_option Elab.async false
set_option linter.all false
set_option maxRecDepth 100000
set_option maxHeartbeats 4000000
namespace DK
open MI XG XM XK PySem
open L2 (atI ixN)
section
variable {C eL eS eB : Nat} {h h' : MH} {p a b c : Nat} {A B : List MV} {L : List (Nat × MV)} {n : Int} {lv : MV}
theorem expr_er {a : ME} {m : ML} {x : MX} {h h' : MH} (e : a m h = .er x h') : gExpr a m h = .er x h' := by unfold gExpr; rw [e]; rfl
theorem seq_er {a b : MS} {m : ML} {x : MX} {h h' : MH} (e : a m h = .er x h') : gSeq a b m h = .er x h' := by unfold gSeq; rw [e]; rfl
theorem read_ok (d : Dsk C h p a b c A B L n lv) {k : Nat} {v : MV} (hk : B[k]? = some v) : mDRead C eB [.ref p, .int (k : Nat)] h = .ok v h := by
  have kl := (List.getElem?_eq_some_iff.mp hk).1
  have e1 : gExpr (gMeth C nChk (mChk C eB) [] 2 (gVar 0) (gCons (gVar 1) (gNil))) [some (.ref p), some (.int (k : Nat))] h = .nx [some (.ref p), some (.int (k : Nat))] h :=
    expr_nx ((meth1 (n := 2) (x := .int (k : Nat)) rfl d.ins rfl rfl rfl).trans (chk_ok d kl))
  have f := fld_at (C := C) (f := nShown) (m := [some (.ref p), some (.int (k : Nat))]) (y := .ref b) rfl d.ins rfl
  have i0 := (Sq.ref d.gb).ix hk
  refine body_rt (v := v) ((seq_nx e1).trans ?_)
  simp only [gRet, gBin, f, gVar, Out.bind, Out.bindS, List.getElem?_cons_succ, List.getElem?_cons_zero, i0]
theorem barr_ok {l : Int} (d : Dsk C h p a b c A B L n (lvOf l)) (hl : l ≠ 0) : ∃ h' a' b' c', mBarr C eS [.ref p] h = .ok .non h' ∧ Dsk C h' p a' b' c' B B [] n (lvOf (less l)) ∧ Kp [p] h h' ∧ h.n ≤ a' ∧ h.n ≤ b' ∧ h.n ≤ c' := by
  obtain ⟨h1, e1, d1, k1⟩ := count_ok (eS := eS) d hl
  obtain ⟨h2, e2, d2, k2⟩ := hold_ok d1 (.ref d1.gb)
  have s1 : gExpr (gMeth C nCnt (mCount C eS) [] 1 (gVar 0) gNil) [some (.ref p)] h = .nx [some (.ref p)] h1 := expr_nx ((meth0 (n := 1) rfl d.ins rfl rfl).trans e1)
  have f := fld_at (C := C) (f := nShown) (m := [some (.ref p)]) (y := .ref b) rfl d1.ins rfl
  have s2 : gExpr (gMeth C nHold (mHold C) [] 2 (gVar 0) (gCons (gFld [C] nShown (gVar 0)) (gNil))) [some (.ref p)] h1 = .nx [some (.ref p)] h2 := expr_nx ((meth1 (n := 2) rfl d1.ins rfl f rfl).trans e2)
  have := k1.n
  exact ⟨h2, _, _, _, body_nx ((seq_nx s1).trans s2), d2, k1.trans k2, by omega, by omega, by omega⟩
theorem barr_er (d : Dsk C h p a b c A B L n (lvOf 0)) : mBarr C eS [.ref p] h = .er (.own eS [] []) h :=
  body_er (seq_er (expr_er ((meth0 (n := 1) rfl d.ins rfl rfl).trans (count_er d))))
theorem write_st (d : Dsk C h p a b c A B L n (lvOf 0)) {k : Nat} {v : MV} (hk : k < B.length) : mDWrite C eS eB [.ref p, .int (k : Nat), v] h = .er (.own eS [] []) h := by
  have e1 : gExpr (gMeth C nChk (mChk C eB) [] 2 (gVar 0) (gCons (gVar 1) (gNil))) [some (.ref p), some (.int (k : Nat)), some v, none] h = .nx [some (.ref p), some (.int (k : Nat)), some v, none] h :=
    expr_nx ((meth1 (n := 2) (x := .int (k : Nat)) rfl d.ins rfl rfl rfl).trans (chk_ok d hk))
  exact body_er ((seq_nx e1).trans (seq_er (expr_er ((meth0 (n := 1) rfl d.ins rfl rfl).trans (count_er d)))))
theorem write_ok {l : Int} (d : Dsk C h p a b c A B L n (lvOf l)) (hl : l ≠ 0) {k : Nat} {v : MV} {xs : List MV} (hk : k < B.length) (s : Sq h v xs) (ha : ∀ x ∈ xs, atB x = true) (lx : xs.length < 1000) (lL : L.length < 100000) :
    ∃ h', mDWrite C eS eB [.ref p, .int (k : Nat), v] h = .ok .non h' ∧ Dsk C h' p a b c A (B.set k (.tup xs)) (L ++ [(k, MV.tup xs)]) (n + 1) (lvOf (less l)) ∧ Kp [p, b, c] h h' := by
  have e1 : gExpr (gMeth C nChk (mChk C eB) [] 2 (gVar 0) (gCons (gVar 1) (gNil))) [some (.ref p), some (.int (k : Nat)), some v, none] h = .nx [some (.ref p), some (.int (k : Nat)), some v, none] h :=
    expr_nx ((meth1 (n := 2) (x := .int (k : Nat)) rfl d.ins rfl rfl rfl).trans (chk_ok d hk))
  obtain ⟨h1, c1, d1, k1⟩ := count_ok (eS := eS) d hl
  have e2 : gExpr (gMeth C nCnt (mCount C eS) [] 1 (gVar 0) gNil) [some (.ref p), some (.int (k : Nat)), some v, none] h = .nx [some (.ref p), some (.int (k : Nat)), some v, none] h1 := expr_nx ((meth0 (n := 1) rfl d.ins rfl rfl).trans c1)
  have s1 : Sq h1 v xs := by
    cases s with
    | tup => exact .tup _
    | @ref q xs e => exact .ref (k1.at e (by simp; exact fun z => by rw [z, d.ins] at e; cases e))
  obtain ⟨h2, c2, u2⟩ := at_ok s1 ha lx
  have d2 := d1.up u2
  have e3 : gAsg (gCall mAT [] 1 (gCons (gVar 2) (gNil))) (tgName 3) [some (.ref p), some (.int (k : Nat)), some v, none] h1 = .nx [some (.ref p), some (.int (k : Nat)), some v, some (.tup xs)] h2 := asg_nx ((call1 (n := 1) rfl rfl).trans c2)
  have f2 := fld_at (C := C) (f := nShown) (m := [some (.ref p), some (.int (k : Nat)), some v, some (.tup xs)]) (y := .ref b) rfl d2.ins rfl
  obtain ⟨pa, pb, pc⟩ := d2.pa
  obtain ⟨h3, q3⟩ : ∃ h3, h3 = h2.set b (.lst (B.set k (.tup xs))) := ⟨_, rfl⟩
  have ix : ixN B.length (k : Int) = some k := by unfold ixN; rw [if_pos (by omega), if_pos (by omega), Int.toNat_natCast]
  have e4 : gAsg (gVar 3) (tgSub (gFld [C] nShown (gVar 0)) (gVar 1)) [some (.ref p), some (.int (k : Nat)), some v, some (.tup xs)] h2 = .nx [some (.ref p), some (.int (k : Nat)), some v, some (.tup xs)] h3 := by
    have v3 : gVar 3 [some (.ref p), some (.int (k : Nat)), some v, some (.tup xs)] h2 = .ok (.tup xs) h2 := rfl
    have v1 : gVar 1 [some (.ref p), some (.int (k : Nat)), some v, some (.tup xs)] h2 = .ok (.int (k : Nat)) h2 := rfl
    unfold gAsg
    rw [v3]
    simp only [Out.bindS, tgSub, f2, v1, putM, isD, d2.gb, Bool.false_eq_true, if_false, ix, SO.only, q3]
  have g3p : h3.get p = some (.ins C (fs a b c n (lvOf (less l)))) := by rw [q3, set_ne d2.gb pb]; exact d2.ins
  have g3c : h3.get c = some (.lst (L.map lp)) := by rw [q3, set_ne d2.gb (Ne.symm d.bc)]; exact d2.gc
  have g3a : h3.get a = some (.lst A) := by rw [q3, set_ne d2.gb d.ab]; exact d2.ga
  have g3b : h3.get b = some (.lst (B.set k (.tup xs))) := by rw [q3]; exact set_get d2.gb
  have k3 : Kp [p, b, c] h2 h3 := by rw [q3]; exact Kp.set (MH.get_lt d2.gb) (by simp)
  have f3 := fld_at (C := C) (f := nLoose) (m := [some (.ref p), some (.int (k : Nat)), some v, some (.tup xs)]) (y := .ref c) rfl g3p rfl
  obtain ⟨h4, q4⟩ : ∃ h4, h4 = h3.set c (.lst ((L ++ [(k, MV.tup xs)]).map lp)) := ⟨_, rfl⟩
  have lc : (L.map lp).length < 1000000 := by rw [List.length_map]; omega
  have e5 : gExpr (gBM "list" lApp (gFld [C] nLoose (gVar 0)) (gCons (gTup (gCons (gVar 1) (gCons (gVar 3) (gNil)))) (gNil))) [some (.ref p), some (.int (k : Nat)), some v, some (.tup xs)] h3 = .nx [some (.ref p), some (.int (k : Nat)), some v, some (.tup xs)] h4 := by
    have v3 : gVar 3 [some (.ref p), some (.int (k : Nat)), some v, some (.tup xs)] h3 = .ok (.tup xs) h3 := rfl
    have v1 : gVar 1 [some (.ref p), some (.int (k : Nat)), some v, some (.tup xs)] h3 = .ok (.int (k : Nat)) h3 := rfl
    have le : L.length < 1000000 := by omega
    simp [gExpr, gBM, f3, Out.bind, Out.bindS, isTy, g3c, gCons, gNil, gTup, v1, v3, lApp, le, q4, lp]
  have g4p : h4.get p = some (.ins C (fs a b c n (lvOf (less l)))) := by rw [q4, set_ne g3c pc]; exact g3p
  have g4c : h4.get c = some (.lst ((L ++ [(k, MV.tup xs)]).map lp)) := by rw [q4]; exact set_get g3c
  have g4a : h4.get a = some (.lst A) := by rw [q4, set_ne g3c d.ac]; exact g3a
  have g4b : h4.get b = some (.lst (B.set k (.tup xs))) := by rw [q4, set_ne g3c d.bc]; exact g3b
  have k4 : Kp [p, b, c] h3 h4 := by rw [q4]; exact Kp.set (MH.get_lt g3c) (by simp)
  have e6 : gFldAug [C] nWr (fun i j => i + j) (gVar 0) (gC (.int 1)) [some (.ref p), some (.int (k : Nat)), some v, some (.tup xs)] h4 = .nx [some (.ref p), some (.int (k : Nat)), some v, some (.tup xs)] (h4.set p (.ins C (fs a b c (n + 1) (lvOf (less l))))) := by
    have v0 : gVar 0 [some (.ref p), some (.int (k : Nat)), some v, some (.tup xs)] h4 = .ok (.ref p) h4 := rfl
    have lk : (fs a b c n (lvOf (less l))).lookup nWr = some (.int n) := rfl
    simp [gFldAug, v0, Out.bindS, mFld, g4p, lk, gC]
    rfl
  have kk : Kp [p, b, c] h4 (h4.set p (.ins C (fs a b c (n + 1) (lvOf (less l))))) := Kp.set (MH.get_lt g4p) (by simp)
  have hlt := d.len
  refine ⟨_, body_nx ((seq_nx e1).trans ((seq_nx e2).trans ((seq_nx e3).trans ((seq_nx e4).trans ((seq_nx e5).trans e6))))), ⟨set_get g4p, by rw [set_ne g4p (Ne.symm pa)]; exact g4a, by rw [set_ne g4p (Ne.symm pb)]; exact g4b, by rw [set_ne g4p (Ne.symm pc)]; exact g4c, d.ab, d.ac, d.bc, by rw [List.length_set]; exact d.len, fun q hq => ?_⟩,
    ((((k1.le (fun j hj _ => by simp only [List.mem_singleton] at hj; simp [hj])).trans u2.kp).trans k3).trans k4).trans kk⟩
  rcases List.mem_append.mp hq with hq | hq
  · exact d.lt q hq
  · rw [List.mem_singleton.mp hq]; show k < A.length; omega
end
end DK
set_option Elab.async false
set_option linter.all false
set_option maxRecDepth 100000
set_option maxHeartbeats 4000000
namespace DK
open MI XG XM XK PySem
open L2 (atI ixN)
def crOne (L : List (Nat × MV)) (A : List MV) (k : Nat) : List MV := match L[k]? with
  | some q => A.set q.1 q.2
  | none => A
def crA (L : List (Nat × MV)) (A : List MV) (ks : List Nat) : List MV := ks.foldl (crOne L) A
theorem crOne_len {L : List (Nat × MV)} {A : List MV} {k : Nat} : (crOne L A k).length = A.length := by unfold crOne; split <;> simp
theorem crA_step {L : List (Nat × MV)} {A : List MV} {ks : List Nat} {j k : Nat} (e : ks[j]? = some k) : crA L A (ks.take (j + 1)) = crOne L (crA L A (ks.take j)) k := by
  unfold crA
  rw [List.take_succ, e, List.foldl_append]; rfl
def kns (ks : List Nat) : List MV := ks.map fun (k : Nat) => MV.int (k : Nat)
theorem kns_at {ks : List Nat} {j : Nat} : (kns ks)[j]? = ks[j]?.map fun (k : Nat) => MV.int (k : Nat) := List.getElem?_map ..
theorem iter_it {h : MH} {v : MV} {xs : List MV} {m : ML} {g : ME} (s : Sq h v xs) (e : g m h = .ok v h) : ∃ it, gIter g m h = .ok it h ∧ it.size h = xs.length ∧ ∀ h', Sq h' v xs → ∀ j : Nat, it.at_ j h' = some xs[j]? := by
  cases s with
  | tup => exact ⟨it1 xs, by simp [gIter, e, Out.bind, mIter], rfl, fun _ _ _ => rfl⟩
  | @ref q xs eq =>
    refine ⟨it1L q, by simp [gIter, e, Out.bind, mIter, eq], ?_, fun h' s' j => ?_⟩
    · show (match h.get q with
        | some (.lst xs) => xs.length
        | _ => 0) = _
      rw [eq]
    · cases s' with
      | ref eq' =>
        show (match h'.get q with
          | some (.lst xs) => some xs[j]?
          | _ => none) = _
        rw [eq']
section
variable {C eL eS eB : Nat} {h h' : MH} {p a b c : Nat} {A B : List MV} {L : List (Nat × MV)} {n : Int} {lv : MV}
theorem cr1_ok (d : Dsk C h p a b c A B L n lv) {v : Option MV} {k : Nat} (hk : k < L.length) : bCr1 C eL [some (.ref p), v, none, some (.int (k : Nat)), none] h = .nx [some (.ref p), v, none, some (.int (k : Nat)), none] h := by
  have f := fld_at (C := C) (f := nLoose) (m := [some (.ref p), v, none, some (.int (k : Nat)), none]) (y := .ref c) rfl d.ins rfl
  have k0 : ¬ ((k : Int) < 0) := by omega
  have k1 : ¬ ((L.length : Int) ≤ (k : Int)) := by omega
  refine (ifS_f (h1 := h) ?_).trans rfl
  simp only [gOr, MI.gB, gBin, gVar, MI.gC, gCB, f1, gCons, gNil, Out.bind, f, List.getElem?_cons_succ, List.getElem?_cons_zero, mLtI, mGeI, mI, mLenV, mLen, d.gc, List.length_map, decide_eq_false k0, decide_eq_false k1, Bool.false_eq_true, if_false]
theorem cr2_ok (d : Dsk C h p a b c A B L n lv) {v o2 o4 : Option MV} {k : Nat} (hk : k < L.length) : ∃ q, L[k]? = some q ∧ bCr2 C [some (.ref p), v, o2, some (.int (k : Nat)), o4] h = .nx [some (.ref p), v, some q.2, some (.int (k : Nat)), some (.int (q.1 : Nat))] (h.set a (.lst (crOne L A k))) ∧ Dsk C (h.set a (.lst (crOne L A k))) p a b c (crOne L A k) B L n lv := by
  have eq : L[k]? = some L[k] := List.getElem?_eq_getElem hk
  obtain ⟨q, hq⟩ : ∃ q, q = L[k] := ⟨_, rfl⟩
  rw [← hq] at eq
  have ql : q.1 < A.length := d.lt q (List.mem_of_getElem? eq)
  have f := fld_at (C := C) (f := nLoose) (m := [some (.ref p), v, o2, some (.int (k : Nat)), o4]) (y := .ref c) rfl d.ins rfl
  have f2 := fld_at (C := C) (f := nLast) (m := [some (.ref p), v, some q.2, some (.int (k : Nat)), some (.int (q.1 : Nat))]) (y := .ref a) rfl d.ins rfl
  have i0 := (Sq.ref d.gc).ix (k := k) (x := lp q) (by rw [List.getElem?_map, eq]; rfl)
  have ix : ixN A.length (q.1 : Int) = some q.1 := by unfold ixN; rw [if_pos (by omega), if_pos (by omega), Int.toNat_natCast]
  have e1 : crOne L A k = A.set q.1 q.2 := by unfold crOne; rw [eq]
  have p1 : gAsg (gBin mIx (gFld [C] nLoose (gVar 0)) (gVar 3)) (tgTup [4, 2]) [some (.ref p), v, o2, some (.int (k : Nat)), o4] h = .nx [some (.ref p), v, some q.2, some (.int (k : Nat)), some (.int (q.1 : Nat))] h := by
    have v3 : gVar 3 [some (.ref p), v, o2, some (.int (k : Nat)), o4] h = .ok (.int (k : Nat)) h := rfl
    simp only [gAsg, gBin, f, Out.bind, v3, i0, Out.bindS]
    rfl
  have p2 : gAsg (gVar 2) (tgSub (gFld [C] nLast (gVar 0)) (gVar 4)) [some (.ref p), v, some q.2, some (.int (k : Nat)), some (.int (q.1 : Nat))] h = .nx [some (.ref p), v, some q.2, some (.int (k : Nat)), some (.int (q.1 : Nat))] (h.set a (.lst (crOne L A k))) := by
    have v2 : gVar 2 [some (.ref p), v, some q.2, some (.int (k : Nat)), some (.int (q.1 : Nat))] h = .ok q.2 h := rfl
    have v4 : gVar 4 [some (.ref p), v, some q.2, some (.int (k : Nat)), some (.int (q.1 : Nat))] h = .ok (.int (q.1 : Nat)) h := rfl
    unfold gAsg
    rw [v2]
    simp only [Out.bindS, tgSub, f2, v4, putM, isD, d.ga, Bool.false_eq_true, if_false, ix, SO.only, e1]
  obtain ⟨pa, pb, pc⟩ := d.pa
  refine ⟨q, eq, (seq_nx p1).trans p2, ⟨by rw [set_ne d.ga pa]; exact d.ins, set_get d.ga, by rw [set_ne d.ga (Ne.symm d.ab)]; exact d.gb, by rw [set_ne d.ga (Ne.symm d.ac)]; exact d.gc, d.ab, d.ac, d.bc, by rw [crOne_len]; exact d.len, fun z hz => by rw [crOne_len]; exact d.lt z hz⟩⟩
theorem crash_ok (d : Dsk C h p a b c A B L n lv) {v : MV} {ks : List Nat} (s : Sq h v (kns ks)) (hv : ∀ q, v = .ref q → q ≠ a) (hk : ∀ k ∈ ks, k < L.length) :
    ∃ h' a' b' c', mCrash C eL [.ref p, v] h = .ok .non h' ∧ Dsk C h' p a' b' c' (crA L A ks) (crA L A ks) [] n .non ∧ Kp [p, a] h h' ∧ h.n ≤ a' ∧ h.n ≤ b' ∧ h.n ≤ c' := by
  obtain ⟨it, i1, i2, i3⟩ := iter_it (m := [some (.ref p), some v, none, none, none]) (g := gVar 1) s rfl
  have len : (kns ks).length = ks.length := List.length_map ..
  obtain ⟨m1, h1, l1, rfl, o3, rfl⟩ := for_loop (it := it) (t := tgName 3) (b := bCr1 C eL) (N := ks.length) (fun j m h' => h' = h ∧ ∃ o3, m = [some (.ref p), some v, none, o3, none])
    (fun m h' ⟨e, _⟩ => by rw [e, i3 h s, List.getElem?_eq_none (by omega)])
    (fun j m h' hj ⟨e, o3, em⟩ => by
      subst e em
      have hx : ks[j]? = some ks[j] := List.getElem?_eq_getElem hj
      exact ⟨.int (ks[j] : Nat), _, h', _, h', by rw [i3 h' s, kns_at, hx]; rfl, rfl, cr1_ok d (hk _ (List.getElem_mem hj)), rfl, _, rfl⟩)
    (ks.length + 1) 0 [some (.ref p), some v, none, none, none] h (by omega) (Nat.zero_le _) ⟨rfl, none, rfl⟩
  have s1 : gFor (gIter (gVar 1)) (tgName 3) (bCr1 C eL) [some (.ref p), some v, none, none, none] h1 = .nx [some (.ref p), some v, none, o3, none] h1 := by
    unfold gFor
    rw [i1]
    simp only [Out.bindS]
    rw [i2, len]
    exact l1
  obtain ⟨it', j1, j2, j3⟩ := iter_it (m := [some (.ref p), some v, none, o3, none]) (g := gVar 1) s rfl
  have sk : ∀ h', Kp [a] h1 h' → Sq h' v (kns ks) := fun h' k => by
    cases s with
    | tup => exact .tup _
    | @ref q _ e => exact .ref (k.at e (by simp; exact hv q rfl))
  obtain ⟨m2, h2, l2, q2, q3, q4, rfl, d2, k2⟩ := for_loop (it := it') (t := tgName 3) (b := bCr2 C) (N := ks.length) (fun j m h' => ∃ o2 o3 o4, m = [some (.ref p), some v, o2, o3, o4] ∧ Dsk C h' p a b c (crA L A (ks.take j)) B L n lv ∧ Kp [a] h1 h')
    (fun m h' ⟨_, _, _, _, _, k⟩ => by rw [j3 h' (sk h' k), List.getElem?_eq_none (by omega)])
    (fun j m h' hj ⟨o2, o3, o4, em, d', k'⟩ => by
      subst em
      have hx : ks[j]? = some ks[j] := List.getElem?_eq_getElem hj
      obtain ⟨q, e1, e2, e3⟩ := cr2_ok (v := some v) (o2 := o2) (o4 := o4) d' (hk _ (List.getElem_mem hj))
      refine ⟨.int (ks[j] : Nat), _, h', _, _, by rw [j3 h' (sk h' k'), kns_at, hx]; rfl, rfl, e2, _, _, _, rfl, by rw [crA_step hx]; exact e3, k'.trans (Kp.set (MH.get_lt d'.ga) (by simp))⟩)
    (ks.length + 1) 0 [some (.ref p), some v, none, o3, none] h1 (by omega) (Nat.zero_le _) ⟨none, o3, none, rfl, by rw [List.take_zero]; exact d, .refl⟩
  have s2 : gFor (gIter (gVar 1)) (tgName 3) (bCr2 C) [some (.ref p), some v, none, o3, none] h1 = .nx [some (.ref p), some v, q2, q3, q4] h2 := by
    unfold gFor
    rw [j1]
    simp only [Out.bindS]
    rw [j2, len]
    exact l2
  rw [List.take_of_length_le (Nat.le_refl _)] at d2
  obtain ⟨h3, e3, d3, k3⟩ := hold_ok d2 (.ref d2.ga)
  have f := fld_at (C := C) (f := nLast) (m := [some (.ref p), some v, q2, q3, q4]) (y := .ref a) rfl d2.ins rfl
  have s3 : gExpr (gMeth C nHold (mHold C) [] 2 (gVar 0) (gCons (gFld [C] nLast (gVar 0)) (gNil))) [some (.ref p), some v, q2, q3, q4] h2 = .nx [some (.ref p), some v, q2, q3, q4] h3 := expr_nx ((meth1 (n := 2) rfl d2.ins rfl f rfl).trans e3)
  have s4 := fldS_ok (C := C) (f := nLeft) (v := MI.gC .non) (m := [some (.ref p), some v, q2, q3, q4]) (h := h3) rfl rfl d3.ins (by show 5 < 900; decide)
  have n2 := k2.n
  exact ⟨_, _, _, _, body_nx ((seq_nx s1).trans ((seq_nx s2).trans ((seq_nx s3).trans s4))), d3.left .non, ((k2.le (fun j hj _ => by simp only [List.mem_singleton] at hj; simp [hj])).trans (k3.le (fun j hj _ => by simp only [List.mem_singleton] at hj; simp [hj]))).trans (Kp.set (MH.get_lt d3.ins) (by simp)), by omega, by omega, by omega⟩
theorem reps_one {x : MV} : ∀ k, reps [x] k = List.replicate k x
  | 0 => rfl
  | k + 1 => by
    show [x] ++ reps [x] k = _
    rw [reps_one k]; rfl
theorem init_ok {k : Nat} (g : h.get p = some (.ins C [])) (hk : k ≤ 1000) :
    ∃ h' a b c, mDInit C [.ref p, .int (k : Nat)] h = .ok .non h' ∧ Dsk C h' p a b c (List.replicate k (.tup [])) (List.replicate k (.tup [])) [] 0 .non ∧ Kp [p] h h' ∧ h.n ≤ a ∧ h.n ≤ b ∧ h.n ≤ c := by
  obtain ⟨h1, e1⟩ : ∃ h1, h1 = (h.push (.lst [.tup []])).push (.lst (List.replicate k (.tup []))) := ⟨_, rfl⟩
  have n1 : h1.n = h.n + 2 := by rw [e1]; rfl
  have u1 : Up h h1 := by rw [e1]; exact Up.push.trans Up.push
  have g1 := u1.at g
  have gq : h1.get (h.n + 1) = some (.lst (List.replicate k (.tup []))) := by rw [e1]; exact get_top
  obtain ⟨h2, c1, c2, c3, c4, c5, c6, c7⟩ := hold_gen g1 (by show 0 < 800; decide) (.ref gq)
  have a1 : gBin mMulA (gLst (gCons (gTup (gNil)) (gNil))) (gVar 1) [some (.ref p), some (.int (k : Nat))] h = .ok (.ref (h.n + 1)) h1 := by
    have gt : (h.push (.lst [.tup []])).get h.n = some (.lst [.tup []]) := get_top
    have k1 : (k : Int) ≤ 10000 := by omega
    have k2 : -10000 ≤ (k : Int) := by omega
    have q1 : mMulA (.ref h.n) (.int (k : Nat)) (h.push (.lst [.tup []])) = mRepL (.ref h.n) (.int (k : Nat)) (h.push (.lst [.tup []])) := rfl
    have q2 : mRepL (.ref h.n) (.int (k : Nat)) (h.push (.lst [.tup []])) = .ok (.ref (h.n + 1)) h1 := by
      simp only [mRepL, gt]
      rw [if_pos ⟨k1, k2, by simp⟩, Int.toNat_natCast, reps_one, e1]
      rfl
    show (mMulA (.ref h.n) (.int (k : Nat)) (h.push (.lst [.tup []]))) = _
    rw [q1, q2]
  have s1 : gExpr (gMeth C nHold (mHold C) [] 2 (gVar 0) (gCons (gBin mMulA (gLst (gCons (gTup (gNil)) (gNil))) (gVar 1)) (gNil))) [some (.ref p), some (.int (k : Nat))] h = .nx [some (.ref p), some (.int (k : Nat))] h2 := expr_nx ((meth1 (n := 2) rfl g rfl a1 rfl).trans c1)
  have s2 := fldS_ok (C := C) (f := nWr) (v := MI.gC (.int 0)) (m := [some (.ref p), some (.int (k : Nat))]) (h := h2) rfl rfl c2 (by show 3 < 900; decide)
  have g2 := set_get (o := .ins C (mput nWr (.int 0) (mput nLoose (.ref (h1.n + 2)) (mput nShown (.ref (h1.n + 1)) (mput nLast (.ref h1.n) []))))) c2
  have s3 := fldS_ok (C := C) (f := nLeft) (v := MI.gC .non) (m := [some (.ref p), some (.int (k : Nat))]) rfl rfl g2 (by show 4 < 900; decide)
  have g3 := set_get (o := .ins C (fs h1.n (h1.n + 1) (h1.n + 2) 0 .non)) g2
  have pl := MH.get_lt g
  have ne : ∀ j, h1.n ≤ j → j ≠ p := fun j hj z => by omega
  refine ⟨_, h1.n, h1.n + 1, h1.n + 2, body_nx ((seq_nx s1).trans ((seq_nx s2).trans s3)), ⟨g3, ?_, ?_, ?_, by omega, by omega, by omega, rfl, fun q hq => by cases hq⟩, ((u1.kp.trans c6).trans (Kp.set (MH.get_lt c2) (by simp))).trans (Kp.set (MH.get_lt g2) (by simp)), by omega, by omega, by omega⟩
  · rw [set_ne g2 (ne _ (by omega)), set_ne c2 (ne _ (by omega))]; exact c3
  · rw [set_ne g2 (ne _ (by omega)), set_ne c2 (ne _ (by omega))]; exact c4
  · rw [set_ne g2 (ne _ (by omega)), set_ne c2 (ne _ (by omega))]; exact c5
end
end DK
set_option Elab.async false
set_option linter.all false
set_option maxRecDepth 100000
set_option maxHeartbeats 4000000
namespace DK
open MI XG XM XK PySem
open L2 (atI ixN)
section
variable {t : Option MV} {r d : Nat} {h0 : MH}
end
end DK
set_option Elab.async false
set_option linter.all false
set_option maxRecDepth 100000
set_option maxHeartbeats 4000000
namespace DK
open MI XG XM XK PySem
open L2 (atI ixN)
theorem cutD {xs : List MV} {m : Nat} (hm : m ≤ xs.length) : mcut xs (some (m : Int)) none = xs.drop m := by
  unfold mcut
  rw [HT.sIx_none, HT.sIx_nat, Nat.min_eq_left hm, List.take_of_length_le (by rw [List.length_drop]; omega)]
theorem add_ok {h : MH} {i j : Nat} {xs ys : List MV} (g1 : h.get i = some (.lst xs)) (g2 : h.get j = some (.lst ys)) (l : xs.length + ys.length ≤ 1000000) : mAdd (.ref i) (.ref j) h = .ok (.ref h.n) (h.push (.lst (xs ++ ys))) := by
  simp [mAdd, g1, g2, l]
theorem lst5 {a b c d e : ME} {m : ML} {h h1 h2 h3 h4 h5 : MH} {x y z u w : MV} (ea : a m h = .ok x h1) (eb : b m h1 = .ok y h2) (ec : c m h2 = .ok z h3) (ed : d m h3 = .ok u h4) (ee : e m h4 = .ok w h5) : gLst (gCons a (gCons b (gCons c (gCons d (gCons e gNil))))) m h = .ok (.ref h5.n) (h5.push (.lst [x, y, z, u, w])) := by
  simp only [gLst, gCons, gNil, ea, eb, ec, ed, ee, Out.bind]
  rfl
end DK
set_option Elab.async false
set_option linter.all false
set_option maxRecDepth 100000
set_option maxHeartbeats 4000000
namespace DK
open MI XG XM XK PySem
open L2 (atI ixN)
section
variable {C eL eS eB : Nat} {h h' : MH} {p a b c : Nat} {A B : List MV} {L : List (Nat × MV)} {n : Int} {lv : MV}
end
end DK
set_option Elab.async false
set_option linter.all false
set_option maxRecDepth 100000
set_option maxHeartbeats 4000000
namespace DK
open MI XG XM XK PySem
open L2 (atI ixN)
end DK
set_option Elab.async false
set_option linter.all false
set_option maxRecDepth 100000
set_option maxHeartbeats 4000000
namespace LG
open MI XG XM XK DK PySem
open L2 (atI ixN)
def mCnt : MF := gBody 1 (gRet (gAndT (gUn (mIsTy [("NoneType", false), ("bool", true), ("int", true), ("str", false), ("tuple", false), ("list", false), ("dict", false)]) (gVar 0)) (gBin mGeI (gVar 0) (gC (.int 0)))))
def cR : MT := gB (gBin mLtI (gVar 1) (gCB (f1 mLenV) (gCons (gVar 0) (gNil))))
def bR : MS := gSeq (gAsg (gBin mIx (gVar 0) (gVar 1)) (tgName 2)) (gSeq (gIfS (gOr (gNot (gTru (gCall mCnt [] 1 (gCons (gVar 2) (gNil))))) (gOr (gB (gBin mLtI (gVar 2) (gC (.int 1)))) (gOr (gB (gBin mGtI (gVar 2) (gC (.int 8)))) (gB (gBin mGtI (gBin mAdd (gBin mAdd (gVar 1) (gC (.int 1))) (gVar 2)) (gCB (f1 mLenV) (gCons (gVar 0) (gNil)))))))) (gRet (gC .non)) (gNext)) (gSeq (gExpr (gBM "list" lApp (gVar 3) (gCons (gCB (f1 mTuple) (gCons (gSl (gVar 0) (gPs (gBin mAdd (gVar 1) (gC (.int 1)))) (gPs (gBin mAdd (gBin mAdd (gVar 1) (gC (.int 1))) (gVar 2)))) (gNil))) (gNil)))) (gAug 1 (fun i j => i + j) (gBin mAdd (gC (.int 1)) (gVar 2)))))
def mRecs : MF := gBody 4 (gSeq (gAsg (gLst (gNil)) (tgName 3)) (gSeq (gAsg (gC (.int 0)) (tgName 1)) (gSeq (gWhile cR bR 100000) (gRet (gVar 3)))))
def mUnp : MF := gBody 8 (gSeq (gIfS (gOr (gB (gBin mLtI (gCB (f1 mLenV) (gCons (gVar 0) (gNil))) (gC (.int 5)))) (gB (gBin mNeX (gBin mIx (gVar 0) (gC (.int 0))) (gC (.str [108, 111, 103]))))) (gRet (gC .non)) (gNext)) (gSeq (gIfS (gNot (gTru (gCB (f1 mAll) (gCons (gLc (gIter (gSl (gVar 0) (gPs (gC (.int 1))) (gPs (gC (.int 5))))) (.one 7) (gYes) (gCall mCnt [] 1 (gCons (gVar 7) (gNil))) [7]) (gNil))))) (gRet (gC .non)) (gNext)) (gSeq (gAsg (gSl (gVar 0) (gPn) (gPs (gC (.int 5)))) (tgTup [1, 5, 2, 3, 4])) (gSeq (gAsg (gCall mRecs [] 1 (gCons (gSl (gVar 0) (gPs (gC (.int 5))) (gPn)) (gNil))) (tgName 6)) (gSeq (gIfS (gOr (gB (gIsN (gVar 6))) (gB (gBin mNeX (gCB (f1 mLenV) (gCons (gVar 6) (gNil))) (gVar 4)))) (gRet (gC .non)) (gNext)) (gRet (gTup (gCons (gVar 5) (gCons (gVar 2) (gCons (gVar 3) (gCons (gVar 6) (gNil))))))))))))
def atS : MV → Bool
  | .non => true
  | .int i => decide (i.natAbs < 1000000000000000000000000000000)
  | .str s => decide (s.length ≤ 20) && s.all fun c => decide (c < 1114112)
  | _ => false
theorem atS.b : ∀ {x : MV}, atS x = true → atB x = true
  | .non, _ => rfl
  | .int i, h => by
    have : i.natAbs < 1000000000000000000000000000000 := of_decide_eq_true h
    exact decide_eq_true (by omega)
  | .str s, h => h
def isN : MV → Bool
  | .int n => decide (0 ≤ n)
  | _ => false
theorem cnt_ok {x : MV} {h : MH} (a : atS x = true) : mCnt [x] h = .ok (.bl (isN x)) h := by
  cases x <;> first | rfl | cases a
def recs : Nat → List MV → Option (List (List MV))
  | 0, _ => none
  | _ + 1, [] => some []
  | n + 1, .int m :: r => if 1 ≤ m ∧ m ≤ 8 ∧ m ≤ (r.length : Int) then (recs n (r.drop m.toNat)).map fun l => r.take m.toNat :: l else none
  | _ + 1, _ :: _ => none
def log : List Nat := [108, 111, 103]
def unp : List MV → Option (Int × Int × Int × List (List MV))
  | .str w :: .int a :: .int e :: .int f :: .int m :: r => if w = log ∧ 0 ≤ a ∧ 0 ≤ e ∧ 0 ≤ f ∧ 0 ≤ m then (recs (r.length + 1) r).bind fun l => if (l.length : Int) = m then some (a, e, f, l) else none else none
  | _ => none
theorem mcut2 {α : Type} {xs : List α} {a b : Nat} (ha : a ≤ b) (hb : b ≤ xs.length) : mcut xs (some (a : Int)) (some (b : Int)) = (xs.drop a).take (b - a) := by
  unfold mcut
  rw [HT.sIx_nat, HT.sIx_nat, Nat.min_eq_left hb, Nat.min_eq_left (by omega)]
theorem drop_succ {α : Type} {xs r : List α} {a : Nat} {x : α} (e : xs.drop a = x :: r) : xs.drop (a + 1) = r := by
  rw [← List.drop_drop, e]; rfl
theorem drop_at {α : Type} {xs r : List α} {a : Nat} {x : α} (e : xs.drop a = x :: r) : xs[a]? = some x ∧ a + 1 + r.length = xs.length := by
  refine ⟨?_, ?_⟩
  · have := congrArg (fun l => l[0]?) e
    simpa [List.getElem?_drop] using this
  · have := congrArg List.length e
    rw [List.length_drop, List.length_cons] at this
    omega
theorem or_t {a b : MT} {m : ML} {h h1 : MH} (e : a m h = .ok true h1) : gOr a b m h = .ok true h1 := by unfold gOr; rw [e]; rfl
theorem or_f {a b : MT} {m : ML} {h h1 : MH} (e : a m h = .ok false h1) : gOr a b m h = b m h1 := by unfold gOr; rw [e]; rfl
abbrev MR (xs : List MV) (a : Nat) (o : Option MV) (q : Nat) : ML := [some (.tup xs), some (.int (a : Nat)), o, some (.ref q)]
section
variable {h : MH} {xs r : List MV} {a q : Nat} {o : Option MV} {x : MV} {acc : List MV}
theorem cR_ok : cR (MR xs a o q) h = .ok (decide ((a : Int) < xs.length)) h := rfl
theorem bR_bad (e : xs.drop a = x :: r) (ax : atS x = true) (n : ¬ ∃ m : Int, x = .int m ∧ 1 ≤ m ∧ m ≤ 8 ∧ m ≤ (r.length : Int)) : bR (MR xs a o q) h = .rt .non h := by
  obtain ⟨e1, e2⟩ := drop_at e
  have ix : gBin mIx (gVar 0) (gVar 1) (MR xs a o q) h = .ok x h := (Sq.tup xs).ix e1
  have c := cnt_ok (h := h) ax
  have cc : gTru (gCall mCnt [] 1 (gCons (gVar 2) (gNil))) (MR xs a (some x) q) h = .ok (isN x) h := by
    have := (call1 (n := 1) (g := mCnt) (a := gVar 2) (m := MR xs a (some x) q) (x := x) (h2 := h) rfl rfl).trans c
    unfold gTru
    rw [this]; rfl
  refine (seq_nx (asg_nx ix)).trans (seq_rt ((ifS_t (h1 := h) ?_).trans rfl))
  have n0 : gNot (gTru (gCall mCnt [] 1 (gCons (gVar 2) (gNil)))) (MR xs a (some x) q) h = .ok (!isN x) h := by unfold gNot; rw [cc]; rfl
  cases x with
  | int m =>
    by_cases k0 : 0 ≤ m
    · have i1 : isN (.int m) = true := decide_eq_true k0
      rw [i1] at n0
      refine (or_f n0).trans ?_
      by_cases k1 : m < 1
      · refine or_t ?_
        rw [show gB (gBin mLtI (gVar 2) (gC (.int 1))) (MR xs a (some (.int m)) q) h = .ok (decide (m < 1)) h from rfl, decide_eq_true k1]
      · refine (or_f (h1 := h) ?_).trans ?_
        · rw [show gB (gBin mLtI (gVar 2) (gC (.int 1))) (MR xs a (some (.int m)) q) h = .ok (decide (m < 1)) h from rfl, decide_eq_false k1]
        · by_cases k2 : 8 < m
          · refine or_t ?_
            rw [show gB (gBin mGtI (gVar 2) (gC (.int 8))) (MR xs a (some (.int m)) q) h = .ok (decide (8 < m)) h from rfl, decide_eq_true k2]
          · refine (or_f (h1 := h) ?_).trans ?_
            · rw [show gB (gBin mGtI (gVar 2) (gC (.int 8))) (MR xs a (some (.int m)) q) h = .ok (decide (8 < m)) h from rfl, decide_eq_false k2]
            · rw [show gB (gBin mGtI (gBin mAdd (gBin mAdd (gVar 1) (gC (.int 1))) (gVar 2)) (gCB (f1 mLenV) (gCons (gVar 0) (gNil)))) (MR xs a (some (.int m)) q) h = .ok (decide ((xs.length : Int) < (a : Int) + 1 + m)) h from rfl]
              have k3 : (xs.length : Int) < (a : Int) + 1 + m := by
                by_cases k4 : m ≤ (r.length : Int)
                · exact absurd ⟨m, rfl, by omega, by omega, k4⟩ n
                · omega
              rw [decide_eq_true k3]
    · have i1 : isN (.int m) = false := decide_eq_false k0
      rw [i1] at n0
      exact or_t n0
  | non => exact or_t n0
  | str s => exact or_t n0
  | _ => cases ax
theorem bR_ok {m : Nat} (e : xs.drop a = .int (m : Nat) :: r) (h1 : 1 ≤ m) (h8 : m ≤ 8) (hr : m ≤ r.length) (g : h.get q = some (.lst acc)) (la : acc.length < 100000) :
    bR (MR xs a o q) h = .nx (MR xs (a + 1 + m) (some (.int (m : Nat))) q) (h.set q (.lst (acc ++ [.tup (r.take m)]))) := by
  obtain ⟨e1, e2⟩ := drop_at e
  have ix : gBin mIx (gVar 0) (gVar 1) (MR xs a o q) h = .ok (.int (m : Nat)) h := (Sq.tup xs).ix e1
  have nb : gOr (gNot (gTru (gCall mCnt [] 1 (gCons (gVar 2) (gNil))))) (gOr (gB (gBin mLtI (gVar 2) (gC (.int 1)))) (gOr (gB (gBin mGtI (gVar 2) (gC (.int 8)))) (gB (gBin mGtI (gBin mAdd (gBin mAdd (gVar 1) (gC (.int 1))) (gVar 2)) (gCB (f1 mLenV) (gCons (gVar 0) (gNil))))))) (MR xs a (some (.int (m : Nat))) q) h = .ok false h := by
    have cc : gNot (gTru (gCall mCnt [] 1 (gCons (gVar 2) (gNil)))) (MR xs a (some (.int (m : Nat))) q) h = .ok (!decide (0 ≤ ((m : Nat) : Int))) h := rfl
    rw [decide_eq_true (by omega)] at cc
    refine (or_f cc).trans ((or_f (h1 := h) ?_).trans ((or_f (h1 := h) ?_).trans ?_))
    · rw [show gB (gBin mLtI (gVar 2) (gC (.int 1))) (MR xs a (some (.int (m : Nat))) q) h = .ok (decide (((m : Nat) : Int) < 1)) h from rfl, decide_eq_false (by omega)]
    · rw [show gB (gBin mGtI (gVar 2) (gC (.int 8))) (MR xs a (some (.int (m : Nat))) q) h = .ok (decide ((8 : Int) < (m : Nat))) h from rfl, decide_eq_false (by omega)]
    · rw [show gB (gBin mGtI (gBin mAdd (gBin mAdd (gVar 1) (gC (.int 1))) (gVar 2)) (gCB (f1 mLenV) (gCons (gVar 0) (gNil)))) (MR xs a (some (.int (m : Nat))) q) h = .ok (decide ((xs.length : Int) < (a : Int) + 1 + (m : Nat))) h from rfl, decide_eq_false (by omega)]
  have sl : gSl (gVar 0) (gPs (gBin mAdd (gVar 1) (gC (.int 1)))) (gPs (gBin mAdd (gBin mAdd (gVar 1) (gC (.int 1))) (gVar 2))) (MR xs a (some (.int (m : Nat))) q) h = .ok (.tup (r.take m)) h := by
    have : gSl (gVar 0) (gPs (gBin mAdd (gVar 1) (gC (.int 1)))) (gPs (gBin mAdd (gBin mAdd (gVar 1) (gC (.int 1))) (gVar 2))) (MR xs a (some (.int (m : Nat))) q) h = .ok (.tup (mcut xs (some ((a + 1 : Nat) : Int)) (some ((a + 1 + m : Nat) : Int)))) h := rfl
    rw [this, mcut2 (by omega) (by omega), drop_succ e]
    have : a + 1 + m - (a + 1) = m := by omega
    rw [this]
  have ap : gExpr (gBM "list" lApp (gVar 3) (gCons (gCB (f1 mTuple) (gCons (gSl (gVar 0) (gPs (gBin mAdd (gVar 1) (gC (.int 1)))) (gPs (gBin mAdd (gBin mAdd (gVar 1) (gC (.int 1))) (gVar 2)))) (gNil))) (gNil))) (MR xs a (some (.int (m : Nat))) q) h = .nx (MR xs a (some (.int (m : Nat))) q) (h.set q (.lst (acc ++ [.tup (r.take m)]))) := by
    have v3 : gVar 3 (MR xs a (some (.int (m : Nat))) q) h = .ok (.ref q) h := rfl
    have ty : isTy h "list" (.ref q) = true := by simp [isTy, g]
    have tp : mTuple (.tup (r.take m)) h = .ok (.tup (r.take m)) h := (Sq.tup _).tuple
    have la' : acc.length < 1000000 := by omega
    refine expr_nx (v := .non) ?_
    simp only [gBM, v3, Out.bind, ty, if_pos, gCons, gNil, gCB, f1, sl, tp, lApp, g, la']
  refine (seq_nx (asg_nx ix)).trans ((seq_nx (m' := MR xs a (some (.int (m : Nat))) q) (h' := h) ((ifS_f nb).trans rfl)).trans ((seq_nx ap).trans ?_))
  show SO.nx (MR xs a (some (.int (m : Nat))) q |>.set 1 (some (.int ((a : Int) + (1 + (m : Int)))))) _ = _
  have : (a : Int) + (1 + (m : Int)) = ((a + 1 + m : Nat) : Int) := by omega
  rw [this]; rfl
end
end LG
set_option Elab.async false
set_option linter.all false
set_option maxRecDepth 100000
set_option maxHeartbeats 4000000
namespace LG
open MI XG XM XK DK PySem
open L2 (atI ixN)
theorem recs_int (n : Nat) (m : Int) (r : List MV) : recs (n + 1) (.int m :: r) = if 1 ≤ m ∧ m ≤ 8 ∧ m ≤ (r.length : Int) then (recs n (r.drop m.toNat)).map fun l => r.take m.toNat :: l else none := rfl
theorem recs_fuel : ∀ (n k : Nat) (xs : List MV), xs.length < n → xs.length < k → recs n xs = recs k xs
  | 0, _, _, h, _ => by omega
  | _, 0, _, _, h => by omega
  | n + 1, k + 1, [], _, _ => rfl
  | n + 1, k + 1, x :: r, h1, h2 => by
    cases x with
    | int m =>
      unfold recs
      have h1' : r.length + 1 < n + 1 := h1
      have h2' : r.length + 1 < k + 1 := h2
      rw [recs_fuel n k (r.drop m.toNat) (by rw [List.length_drop]; omega) (by rw [List.length_drop]; omega)]
    | _ => rfl
theorem recs_of : ∀ (n : Nat) (xs : List MV) (rs : List (List MV)), recs n xs = some rs → (∀ x ∈ xs, atS x = true) → (∀ r ∈ rs, 1 ≤ r.length ∧ r.length ≤ 8 ∧ ∀ x ∈ r, atS x = true) ∧ 2 * rs.length ≤ xs.length
  | 0, _, _, e, _ => by cases e
  | n + 1, [], rs, e, _ => by cases e; exact ⟨fun r hr => (by cases hr), Nat.le_refl _⟩
  | n + 1, x :: r, rs, e, ha => by
    cases x with
    | int m =>
      unfold recs at e
      by_cases c : 1 ≤ m ∧ m ≤ 8 ∧ m ≤ (r.length : Int)
      · rw [if_pos c] at e
        obtain ⟨l, e1, rfl⟩ := Option.map_eq_some_iff.mp e
        have i := recs_of n (r.drop m.toNat) l e1 fun x hx => ha x (List.mem_cons_of_mem _ (List.mem_of_mem_drop hx))
        obtain ⟨i1, i2⟩ := i
        rw [List.length_drop] at i2
        refine ⟨fun r' hr => ?_, ?_⟩
        · rcases List.mem_cons.mp hr with rfl | hr
          · rw [List.length_take]
            exact ⟨by omega, by omega, fun x hx => ha x (List.mem_cons_of_mem _ (List.mem_of_mem_take hx))⟩
          · exact i1 r' hr
        · rw [List.length_cons, List.length_cons]; omega
      · rw [if_neg c] at e; cases e
    | _ => cases e
theorem while_recs : ∀ (n N : Nat) (xs : List MV) (a : Nat) (rest acc : List MV) (h : MH) (o : Option MV) (q : Nat), n ≤ N → xs.drop a = rest → rest.length < n → a ≤ xs.length → (∀ x ∈ rest, atS x = true) → h.get q = some (.lst acc) → acc.length + rest.length < 10000 →
    (∀ rs, recs n rest = some rs → ∃ o' h', gWhile cR bR N (MR xs a o q) h = .nx (MR xs xs.length o' q) h' ∧ h'.get q = some (.lst (acc ++ rs.map .tup)) ∧ Kp [q] h h') ∧ (recs n rest = none → ∃ h', gWhile cR bR N (MR xs a o q) h = .rt .non h' ∧ Kp [q] h h')
  | 0, _, _, _, _, _, _, _, _, _, _, hl, _, _, _, _ => by omega
  | n + 1, 0, _, _, _, _, _, _, _, hN, _, _, _, _, _, _ => by omega
  | n + 1, N + 1, xs, a, [], acc, h, o, q, hN, e, hl, hax, ha, g, la => by
    have la' : a = xs.length := by
      have := congrArg List.length e
      rw [List.length_drop, List.length_nil] at this
      omega
    subst la'
    refine ⟨fun rs er => ?_, fun er => by cases er⟩
    cases er
    refine ⟨o, h, ?_, by simpa using g, .refl⟩
    unfold gWhile
    rw [cR_ok, decide_eq_false (by omega)]
    rfl
  | n + 1, N + 1, xs, a, x :: r, acc, h, o, q, hN, e, hl, hax, ha, g, la => by
    obtain ⟨e1, e2⟩ := drop_at e
    have ct : cR (MR xs a o q) h = .ok true h := by rw [cR_ok, decide_eq_true (by omega)]
    have hl' : r.length + 1 < n + 1 := hl
    have la2 : acc.length + (r.length + 1) < 10000 := la
    by_cases c : ∃ m : Int, x = .int m ∧ 1 ≤ m ∧ m ≤ 8 ∧ m ≤ (r.length : Int)
    · obtain ⟨m, rfl, m1, m2, m3⟩ := c
      obtain ⟨k, rfl⟩ := Int.eq_ofNat_of_zero_le (show 0 ≤ m by omega)
      have st := bR_ok (o := o) e (by omega) (by omega) (by omega) g (by omega)
      have lt : (acc ++ [MV.tup (r.take k)]).length = acc.length + 1 := by simp
      have ih := while_recs n N xs (a + 1 + k) (r.drop k) (acc ++ [.tup (r.take k)]) (h.set q (.lst (acc ++ [.tup (r.take k)]))) (some (.int (k : Nat))) q (by omega) (by
        rw [← drop_succ e, List.drop_drop]) (by rw [List.length_drop]; omega) (by omega) (fun y hy => ha y (List.mem_cons_of_mem _ (List.mem_of_mem_drop hy))) (set_get g) (by rw [lt, List.length_drop]; omega)
      have kq : Kp [q] h (h.set q (.lst (acc ++ [.tup (r.take k)]))) := Kp.set (MH.get_lt g) (by simp)
      have rq : recs (n + 1) (.int (k : Nat) :: r) = (recs n (r.drop k)).map fun l => r.take k :: l := by
        rw [recs_int, if_pos ⟨m1, m2, m3⟩, Int.toNat_natCast]
      have step : gWhile cR bR (N + 1) (MR xs a o q) h = gWhile cR bR N (MR xs (a + 1 + k) (some (.int (k : Nat))) q) (h.set q (.lst (acc ++ [.tup (r.take k)]))) := by
        conv => lhs; unfold gWhile
        rw [ct]
        simp only [Out.bindS, if_pos]
        rw [st]
      rw [rq, step]
      refine ⟨fun rs er => ?_, fun er => ?_⟩
      · obtain ⟨l, e3, rfl⟩ := Option.map_eq_some_iff.mp er
        obtain ⟨o', h', b1, b2, b3⟩ := ih.1 l e3
        exact ⟨o', h', b1, by rw [b2]; simp, kq.trans b3⟩
      · have e3 : recs n (r.drop k) = none := by simpa using er
        obtain ⟨h', b1, b2⟩ := ih.2 e3
        exact ⟨h', b1, kq.trans b2⟩
    · have st := bR_bad (h := h) (o := o) (q := q) e (ha x List.mem_cons_self) c
      have rq : recs (n + 1) (x :: r) = none := by
        cases x with
        | int m =>
          rw [recs_int, if_neg fun z => c ⟨m, rfl, z⟩]
        | _ => rfl
      rw [rq]
      refine ⟨fun rs er => (by cases er), fun _ => ⟨h, ?_, .refl⟩⟩
      unfold gWhile
      rw [ct]
      simp only [Out.bindS, if_pos]
      rw [st]
def PV (h : MH) (n : Nat) (v : MV) : Option (Int × Int × Int × List (List MV)) → Prop
  | none => v = .non
  | some (a, e, f, rs) => ∃ q, v = .tup [.int a, .int e, .int f, .ref q] ∧ n ≤ q ∧ h.get q = some (.lst (rs.map .tup))
theorem PV.kp {h h' : MH} {F : List Nat} {n : Nat} {v : MV} {o : Option (Int × Int × Int × List (List MV))} (p : PV h n v o) (k : Kp F h h') (f : ∀ j ∈ F, j < n) : PV h' n v o := by
  cases o with
  | none => exact p
  | some t =>
    obtain ⟨a, e, f', rs⟩ := t
    obtain ⟨q, p1, p2, p3⟩ := p
    exact ⟨q, p1, p2, k.at p3 fun z => by have := f q z; omega⟩
theorem PV.up {h h' : MH} {n : Nat} {v : MV} {o : Option (Int × Int × Int × List (List MV))} (p : PV h n v o) (u : Up h h') : PV h' n v o := p.kp (F := []) u.kp (by simp)
theorem PV.le {h : MH} {n n' : Nat} {v : MV} {o : Option (Int × Int × Int × List (List MV))} (p : PV h n v o) (l : n' ≤ n) : PV h n' v o := by
  cases o with
  | none => exact p
  | some t =>
    obtain ⟨a, e, f', rs⟩ := t
    obtain ⟨q, p1, p2, p3⟩ := p
    exact ⟨q, p1, Nat.le_trans l p2, p3⟩
theorem recs_ok {h : MH} {xs : List MV} (ha : ∀ x ∈ xs, atS x = true) (l : xs.length < 1000) :
    (∀ rs, recs (xs.length + 1) xs = some rs → ∃ h', mRecs [.tup xs] h = .ok (.ref h.n) h' ∧ h'.get h.n = some (.lst (rs.map .tup)) ∧ Up h h') ∧ (recs (xs.length + 1) xs = none → ∃ h', mRecs [.tup xs] h = .ok .non h' ∧ Up h h') := by
  have w := while_recs (xs.length + 1) 100000 xs 0 xs [] (h.push (.lst [])) none h.n (by omega) rfl (by omega) (Nat.zero_le _) ha get_top (by simp; omega)
  have s1 : gAsg (gLst (gNil)) (tgName 3) [some (.tup xs), none, none, none] h = .nx [some (.tup xs), none, none, some (.ref h.n)] (h.push (.lst [])) := rfl
  have s2 : gAsg (gC (.int 0)) (tgName 1) [some (.tup xs), none, none, some (.ref h.n)] (h.push (.lst [])) = .nx (MR xs 0 none h.n) (h.push (.lst [])) := rfl
  have uu : ∀ {h' : MH}, Kp [h.n] (h.push (.lst [])) h' → Up h h' := fun {h'} k => ⟨by have := k.n; have : (h.push (.lst [])).n = h.n + 1 := rfl; omega, fun j hj => by
    rw [k.get j (by show j < h.n + 1; omega) (by simp; omega)]; exact Up.push.get j hj⟩
  refine ⟨fun rs er => ?_, fun er => ?_⟩
  · obtain ⟨o', h', b1, b2, b3⟩ := w.1 rs er
    exact ⟨h', body_rt (v := .ref h.n) ((seq_nx s1).trans ((seq_nx s2).trans ((seq_nx b1).trans rfl))), by simpa using b2, uu b3⟩
  · obtain ⟨h', b1, b2⟩ := w.2 er
    exact ⟨h', body_rt (v := .non) ((seq_nx s1).trans ((seq_nx s2).trans (seq_rt b1))), uu b2⟩
end LG
set_option Elab.async false
set_option linter.all false
set_option maxRecDepth 100000
set_option maxHeartbeats 4000000
namespace LG
open MI XG XM XK DK PySem
open L2 (atI ixN)
theorem unp_short {xs : List MV} (l : xs.length < 5) : unp xs = none := by
  unfold unp
  split
  · simp at l; omega
  · rfl
theorem unp_some {xs : List MV} {t : Int × Int × Int × List (List MV)} (e : unp xs = some t) : ∃ a e f m r rs, xs = .str log :: .int a :: .int e :: .int f :: .int m :: r ∧ 0 ≤ a ∧ 0 ≤ e ∧ 0 ≤ f ∧ 0 ≤ m ∧ recs (r.length + 1) r = some rs ∧ (rs.length : Int) = m ∧ t = (a, e, f, rs) := by
  unfold unp at e
  split at e
  · rename_i w a e' f m r
    by_cases c : w = log ∧ 0 ≤ a ∧ 0 ≤ e' ∧ 0 ≤ f ∧ 0 ≤ m
    · rw [if_pos c] at e
      cases k : recs (r.length + 1) r with
      | none => rw [k] at e; cases e
      | some rs =>
        rw [k] at e
        by_cases c2 : (rs.length : Int) = m
        · have e2 : some (a, e', f, rs) = some t := (if_pos c2).symm.trans e
          obtain ⟨c1, c3, c4, c5, c6⟩ := c
          subst c1
          exact ⟨a, e', f, m, r, rs, rfl, c3, c4, c5, c6, k, c2, (Option.some.inj e2).symm⟩
        · have e2 : none = some t := (if_neg c2).symm.trans e
          cases e2
    · rw [if_neg c] at e; cases e
  · cases e
theorem unp_eq {a e f m : Int} {r : List MV} (h1 : 0 ≤ a) (h2 : 0 ≤ e) (h3 : 0 ≤ f) (h4 : 0 ≤ m) : unp (.str log :: .int a :: .int e :: .int f :: .int m :: r) = (recs (r.length + 1) r).bind fun l => if (l.length : Int) = m then some (a, e, f, l) else none := by
  unfold unp
  exact if_pos ⟨rfl, h1, h2, h3, h4⟩
theorem isN_int {x : MV} (e : isN x = true) : ∃ n : Int, x = .int n ∧ 0 ≤ n := by
  cases x with
  | int n => exact ⟨n, rfl, of_decide_eq_true e⟩
  | _ => cases e
theorem ne_log {x : MV} {h : MH} (a : atB x = true) : ∃ c : Bool, mNeX x (.str log) h = .ok (.bl c) h ∧ (c = false ↔ x = .str log) := by
  obtain ⟨c, e1, e2⟩ := at_eq a (show atB (.str log) = true by decide)
  refine ⟨!c, ?_, by rw [← e2]; cases c <;> simp⟩
  have ir : isRow x = false := by cases x <;> first | rfl | cases a
  unfold mNeX
  rw [ir]
  simp only [Bool.false_eq_true, if_false, mNeV, e1, Option.map_some, oB]
theorem mcut_to {α : Type} {xs : List α} {b : Nat} (hb : b ≤ xs.length) : mcut xs none (some (b : Int)) = xs.take b := by
  unfold mcut
  rw [HT.sIx_none, HT.sIx_nat, Nat.min_eq_left hb]
  rfl
def nB : MV → MV := fun x => .bl (isN x)
theorem all4 {h : MH} {x1 x2 x3 x4 : MV} (a1 : atS x1 = true) (a2 : atS x2 = true) (a3 : atS x3 = true) (a4 : atS x4 = true) {g : MF} (hg : ∀ x h, atS x = true → g [x] h = .ok (.bl (isN x)) h) {gi : MI1} {m : ML} {sl : Nat} (ev : gi m h = .ok (it1 [x1, x2, x3, x4]) h) (hv : ∀ x h, gVar sl ((m.set sl none).set sl (some x)) h = .ok x h) :
    ∃ h', gTru (gCB (f1 mAll) (gCons (gLc gi (.one sl) (gYes) (gCall g [] 1 (gCons (gVar sl) (gNil))) [sl]) (gNil))) m h = .ok (isN x1 && (isN x2 && (isN x3 && isN x4))) h' ∧ Up h h' := by
  have at' : ∀ x ∈ [x1, x2, x3, x4], atS x = true := by
    intro x hx
    simp only [List.mem_cons, List.not_mem_nil, or_false] at hx
    rcases hx with rfl | rfl | rfl | rfl <;> assumption
  obtain ⟨h', c1, c2, c3⟩ := comp_up (F := nB) ev rfl (show 4 < 1000 by decide) (fun h' u j => rfl) (e := gCall g [] 1 (gCons (gVar sl) (gNil))) (sl := sl) (fun x hx h' u => ⟨h', (call1 (n := 1) (hv x h') rfl).trans (hg x h' (at' x hx)), .refl⟩)
  refine ⟨h', ?_, c3⟩
  have ma : mAll (.ref h.n) h' = .ok (.bl ([isN x1, isN x2, isN x3, isN x4].all id)) h' := by
    simp only [mAll, c2]
    rfl
  unfold gTru
  simp only [gCB, f1, gCons, gNil, c1, Out.bind, ma, mTru]
  simp
abbrev MU (xs : List MV) : ML := [some (.tup xs), none, none, none, none, none, none, none]
theorem unp_ok {h : MH} {xs : List MV} (ha : ∀ x ∈ xs, atS x = true) (l : xs.length < 1000) : ∃ v h', mUnp [.tup xs] h = .ok v h' ∧ PV h' h.n v (unp xs) ∧ Up h h' := by
  by_cases l5 : xs.length < 5
  · refine ⟨.non, h, body_rt (v := .non) (seq_rt ((ifS_t (h1 := h) (or_t ?_)).trans rfl)), by rw [unp_short l5]; rfl, .refl⟩
    show Out.ok (decide ((xs.length : Int) < 5)) h = _
    rw [decide_eq_true (by omega)]
  · obtain ⟨x0, x1, x2, x3, x4, r, rfl⟩ : ∃ x0 x1 x2 x3 x4 r, xs = x0 :: x1 :: x2 :: x3 :: x4 :: r := by
      match xs, l5 with
      | x0 :: x1 :: x2 :: x3 :: x4 :: r, _ => exact ⟨x0, x1, x2, x3, x4, r, rfl⟩
      | [], h => exact absurd (by simp) h
      | [_], h => exact absurd (by simp) h
      | [_, _], h => exact absurd (by simp) h
      | [_, _, _], h => exact absurd (by simp) h
      | [_, _, _, _], h => exact absurd (by simp) h
    have lr : r.length + 5 < 1000 := by simpa using l
    have a0 := ha x0 (by simp)
    have a1 := ha x1 (by simp)
    have a2 := ha x2 (by simp)
    have a3 := ha x3 (by simp)
    have a4 := ha x4 (by simp)
    obtain ⟨c, n1, n2⟩ := ne_log (h := h) (atS.b a0)
    have f1' : gB (gBin mLtI (gCB (f1 mLenV) (gCons (gVar 0) (gNil))) (gC (.int 5))) (MU (x0 :: x1 :: x2 :: x3 :: x4 :: r)) h = .ok false h := by
      show Out.ok (decide (((x0 :: x1 :: x2 :: x3 :: x4 :: r).length : Int) < 5)) h = _
      rw [decide_eq_false (by simp; omega)]
    have f2 : gB (gBin mNeX (gBin mIx (gVar 0) (gC (.int 0))) (gC (.str [108, 111, 103]))) (MU (x0 :: x1 :: x2 :: x3 :: x4 :: r)) h = .ok c h := by
      have ix : gBin mIx (gVar 0) (gC (.int 0)) (MU (x0 :: x1 :: x2 :: x3 :: x4 :: r)) h = .ok x0 h := (Sq.tup (x0 :: x1 :: x2 :: x3 :: x4 :: r)).ix (k := 0) rfl
      unfold gB
      show ((gBin mIx (gVar 0) (gC (.int 0)) (MU (x0 :: x1 :: x2 :: x3 :: x4 :: r)) h).bind fun x h1 => mNeX x (.str log) h1).bind _ = _
      rw [ix]
      show (mNeX x0 (.str log) h).bind _ = _
      rw [n1]; rfl
    cases c with
    | true =>
      refine ⟨.non, h, body_rt (v := .non) (seq_rt ((ifS_t (h1 := h) ((or_f f1').trans f2)).trans rfl)), ?_, .refl⟩
      have : unp (x0 :: x1 :: x2 :: x3 :: x4 :: r) = none := by
        cases k : unp (x0 :: x1 :: x2 :: x3 :: x4 :: r) with
        | none => rfl
        | some t =>
          obtain ⟨a, e, f, m, r', rs, e1, _⟩ := unp_some k
          have := n2.mpr (by injection e1)
          cases this
      rw [this]; rfl
    | false =>
      have x0e := n2.mp rfl
      subst x0e
      have s1 : gIfS (gOr (gB (gBin mLtI (gCB (f1 mLenV) (gCons (gVar 0) (gNil))) (gC (.int 5)))) (gB (gBin mNeX (gBin mIx (gVar 0) (gC (.int 0))) (gC (.str [108, 111, 103]))))) (gRet (gC .non)) (gNext) (MU (.str log :: x1 :: x2 :: x3 :: x4 :: r)) h = .nx (MU (.str log :: x1 :: x2 :: x3 :: x4 :: r)) h := (ifS_f ((or_f f1').trans f2)).trans rfl
      have ev : gIter (gSl (gVar 0) (gPs (gC (.int 1))) (gPs (gC (.int 5)))) (MU (.str log :: x1 :: x2 :: x3 :: x4 :: r)) h = .ok (it1 [x1, x2, x3, x4]) h := by
        have sl : gSl (gVar 0) (gPs (gC (.int 1))) (gPs (gC (.int 5))) (MU (.str log :: x1 :: x2 :: x3 :: x4 :: r)) h = .ok (.tup (mcut (.str log :: x1 :: x2 :: x3 :: x4 :: r) (some ((1 : Nat) : Int)) (some ((5 : Nat) : Int)))) h := rfl
        unfold gIter
        rw [sl, mcut2 (by decide) (by simp)]
        rfl
      obtain ⟨h1, t1, u1⟩ := all4 a1 a2 a3 a4 (g := mCnt) (sl := 7) (fun x h a => cnt_ok a) ev (fun x h => rfl)
      have t1' : gNot (gTru (gCB (f1 mAll) (gCons (gLc (gIter (gSl (gVar 0) (gPs (gC (.int 1))) (gPs (gC (.int 5))))) (.one 7) (gYes) (gCall mCnt [] 1 (gCons (gVar 7) (gNil))) [7]) (gNil)))) (MU (.str log :: x1 :: x2 :: x3 :: x4 :: r)) h = .ok (!(isN x1 && (isN x2 && (isN x3 && isN x4)))) h1 := by unfold gNot; rw [t1]; rfl
      by_cases nn : (isN x1 && (isN x2 && (isN x3 && isN x4))) = true
      · rw [nn] at t1'
        simp only [Bool.and_eq_true] at nn
        obtain ⟨i1, i2, i3, i4⟩ := nn
        obtain ⟨a, rfl, p1⟩ := isN_int i1
        obtain ⟨e, rfl, p2⟩ := isN_int i2
        obtain ⟨f, rfl, p3⟩ := isN_int i3
        obtain ⟨m, rfl, p4⟩ := isN_int i4
        have s2 : gIfS (gNot (gTru (gCB (f1 mAll) (gCons (gLc (gIter (gSl (gVar 0) (gPs (gC (.int 1))) (gPs (gC (.int 5))))) (.one 7) (gYes) (gCall mCnt [] 1 (gCons (gVar 7) (gNil))) [7]) (gNil))))) (gRet (gC .non)) (gNext) (MU (.str log :: .int a :: .int e :: .int f :: .int m :: r)) h = .nx (MU (.str log :: .int a :: .int e :: .int f :: .int m :: r)) h1 := (ifS_f t1').trans rfl
        have s3 : gAsg (gSl (gVar 0) (gPn) (gPs (gC (.int 5)))) (tgTup [1, 5, 2, 3, 4]) (MU (.str log :: .int a :: .int e :: .int f :: .int m :: r)) h1 = .nx [some (.tup (.str log :: .int a :: .int e :: .int f :: .int m :: r)), some (.str log), some (.int e), some (.int f), some (.int m), some (.int a), none, none] h1 := by
          have sl : gSl (gVar 0) (gPn) (gPs (gC (.int 5))) (MU (.str log :: .int a :: .int e :: .int f :: .int m :: r)) h1 = .ok (.tup (mcut (.str log :: .int a :: .int e :: .int f :: .int m :: r) none (some ((5 : Nat) : Int)))) h1 := rfl
          unfold gAsg
          rw [sl, mcut_to (by simp)]
          rfl
        obtain ⟨q, eq⟩ : ∃ q, q = unp (.str log :: .int a :: .int e :: .int f :: .int m :: r) := ⟨_, rfl⟩
        rw [← eq]
        rw [unp_eq p1 p2 p3 p4] at eq
        have rk := recs_ok (h := h1) (xs := r) (fun x hx => ha x (by simp [hx])) (by omega)
        have cl : ∀ {v : MV} {h2 : MH}, mRecs [.tup r] h1 = .ok v h2 → gAsg (gCall mRecs [] 1 (gCons (gSl (gVar 0) (gPs (gC (.int 5))) (gPn)) (gNil))) (tgName 6) [some (.tup (.str log :: .int a :: .int e :: .int f :: .int m :: r)), some (.str log), some (.int e), some (.int f), some (.int m), some (.int a), none, none] h1 = .nx [some (.tup (.str log :: .int a :: .int e :: .int f :: .int m :: r)), some (.str log), some (.int e), some (.int f), some (.int m), some (.int a), some v, none] h2 := fun {v h2} e0 => by
          refine asg_nx ((call1 (n := 1) (x := .tup r) (h2 := h1) ?_ rfl).trans e0)
          have sl : gSl (gVar 0) (gPs (gC (.int 5))) (gPn) [some (.tup (.str log :: .int a :: .int e :: .int f :: .int m :: r)), some (.str log), some (.int e), some (.int f), some (.int m), some (.int a), none, none] h1 = .ok (.tup (mcut (.str log :: .int a :: .int e :: .int f :: .int m :: r) (some ((5 : Nat) : Int)) none)) h1 := rfl
          rw [sl, cutD (by simp)]
          rfl
        cases k : recs (r.length + 1) r with
        | none =>
          obtain ⟨h2, b1, b2⟩ := rk.2 k
          rw [k] at eq
          refine ⟨.non, h2, body_rt (v := .non) ((seq_nx s1).trans ((seq_nx s2).trans ((seq_nx s3).trans ((seq_nx (cl b1)).trans (seq_rt ((ifS_t (h1 := h2) (or_t rfl)).trans rfl)))))), by rw [eq]; rfl, u1.trans b2⟩
        | some rs =>
          obtain ⟨h2, b1, b2, b3⟩ := rk.1 rs k
          rw [k] at eq
          have eq' : q = if (rs.length : Int) = m then some (a, e, f, rs) else none := eq
          have nl : mNeX (.int (rs.length : Nat)) (.int m) h2 = .ok (.bl (!decide (((rs.length : Nat) : Int) = m))) h2 := rfl
          have c3 : gOr (gB (gIsN (gVar 6))) (gB (gBin mNeX (gCB (f1 mLenV) (gCons (gVar 6) (gNil))) (gVar 4))) [some (.tup (.str log :: .int a :: .int e :: .int f :: .int m :: r)), some (.str log), some (.int e), some (.int f), some (.int m), some (.int a), some (.ref h1.n), none] h2 = .ok (!decide (((rs.length : Nat) : Int) = m)) h2 := by
            refine (or_f (h1 := h2) rfl).trans ?_
            have v6 : gVar 6 [some (.tup (.str log :: .int a :: .int e :: .int f :: .int m :: r)), some (.str log), some (.int e), some (.int f), some (.int m), some (.int a), some (.ref h1.n), none] h2 = .ok (.ref h1.n) h2 := rfl
            have v4 : gVar 4 [some (.tup (.str log :: .int a :: .int e :: .int f :: .int m :: r)), some (.str log), some (.int e), some (.int f), some (.int m), some (.int a), some (.ref h1.n), none] h2 = .ok (.int m) h2 := rfl
            simp only [gB, gBin, gCB, f1, gCons, gNil, v6, v4, Out.bind, mLenV, mLen, b2, List.length_map, nl]
          by_cases lm : (rs.length : Int) = m
          · rw [decide_eq_true lm] at c3
            rw [if_pos lm] at eq'
            refine ⟨_, h2, body_rt (v := .tup [.int a, .int e, .int f, .ref h1.n]) ((seq_nx s1).trans ((seq_nx s2).trans ((seq_nx s3).trans ((seq_nx (cl b1)).trans ((seq_nx (h' := h2) ((ifS_f c3).trans rfl)).trans rfl))))), by rw [eq']; exact ⟨_, rfl, u1.n, b2⟩, u1.trans b3⟩
          · rw [decide_eq_false lm] at c3
            rw [if_neg lm] at eq'
            refine ⟨.non, h2, body_rt (v := .non) ((seq_nx s1).trans ((seq_nx s2).trans ((seq_nx s3).trans ((seq_nx (cl b1)).trans (seq_rt ((ifS_t c3).trans rfl)))))), by rw [eq']; rfl, u1.trans b3⟩
      · have nf : (isN x1 && (isN x2 && (isN x3 && isN x4))) = false := by simpa using nn
        rw [nf] at t1'
        refine ⟨.non, h1, body_rt (v := .non) ((seq_nx s1).trans (seq_rt ((ifS_t t1').trans rfl))), ?_, u1⟩
        have : unp (.str log :: x1 :: x2 :: x3 :: x4 :: r) = none := by
          cases k : unp (.str log :: x1 :: x2 :: x3 :: x4 :: r) with
          | none => rfl
          | some t =>
            obtain ⟨a, e, f, m, r', rs, e1, p1, p2, p3, p4, _⟩ := unp_some k
            injection e1 with _ e1
            injection e1 with q1 e1
            injection e1 with q2 e1
            injection e1 with q3 e1
            injection e1 with q4 e1
            subst q1 q2 q3 q4
            exact absurd (by simp [isN, p1, p2, p3, p4]) nn
        rw [this]; rfl
end LG
set_option Elab.async false
set_option linter.all false
set_option maxRecDepth 100000
set_option maxHeartbeats 4000000
namespace LG
open MI XG XM XK DK PySem
open L2 (atI ixN)
abbrev fDisk : Nat := 2069682063868491180489572447
abbrev fFirst : Nat := 4705521252471747094147440299737183
abbrev fCount : Nat := 4705521155757709195119605160345695
abbrev fLowB : Nat := 83956272751114154801631165565160080792253879465911796105311
abbrev fLow : Nat := 1097581760569107546207
abbrev fNext : Nat := 176069065312544551970550402127306593753578779473364670370858139743
abbrev fRec : Nat := 20516694089711970705211133144808195618838151263
abbrev fSafe : Nat := 1953625065281615116265062495
abbrev fEpo : Nat := 4218743112499069512542313303244895
abbrev Part := Int × Int × Int × List (List MV)
structure RS where
  nx : Nat
  fl : Int
  acc : List (List MV)
def tak (lo : Nat) (s : RS) : Option Part → Option RS
  | some (a, e, f, rs) => if a = (s.nx : Int) ∧ f = ((lo + s.acc.length : Nat) : Int) ∧ s.fl ≤ e then some ⟨s.nx + 1, e, s.acc ++ rs⟩ else none
  | none => none
def stp (g : List (Option Part)) (lo : Nat) (s : RS) : Option RS := (g[s.nx % g.length]?).bind (tak lo s)
def nxt (g : List (Option Part)) (lo : Nat) (s : RS) : RS := (stp g lo s).getD s
def run (g : List (Option Part)) (lo : Nat) : Nat → RS → RS
  | 0, s => s
  | n + 1, s => nxt g lo (run g lo n s)
theorem run_fix {g : List (Option Part)} {lo : Nat} {s : RS} {j : Nat} (e : stp g lo (run g lo j s) = none) : ∀ d, run g lo (j + d) s = run g lo j s
  | 0 => rfl
  | d + 1 => by
    show nxt g lo (run g lo (j + d) s) = _
    rw [run_fix e d]
    unfold nxt
    rw [e]; rfl
abbrev lfs (dk fi cn lb lo nx rq sf : Nat) (tl : List (Nat × MV)) : List (Nat × MV) := (fDisk, .ref dk) :: (fFirst, .int (fi : Nat)) :: (fCount, .int (cn : Nat)) :: (fLowB, .int (lb : Nat)) :: (fLow, .int (lo : Nat)) :: (fNext, .int (nx : Nat)) :: (fRec, .ref rq) :: (fSafe, .int (sf : Nat)) :: tl
structure Lg (C : Nat) (h : MH) (p dk fi cn lb lo nx rq sf : Nat) (R : List (List MV)) (tl : List (Nat × MV)) : Prop where
  ins : h.get p = some (.ins C (lfs dk fi cn lb lo nx rq sf tl))
  rl : h.get rq = some (.lst (R.map .tup))
theorem aug_ok {C f s : Nat} {op : Int → Int → Int} {e : ME} {m : ML} {h : MH} {fs : List (Nat × MV)} {x y : Int} (e0 : m[0]? = some (some (.ref s))) (g : h.get s = some (.ins C fs)) (l : fs.lookup f = some (.int x)) (ev : e m h = .ok (.int y) h) (n : fs.length < 900) :
    gFldAug [C] f op (gVar 0) e m h = .nx m (h.set s (.ins C (mput f (.int (op x y)) fs))) := by
  have v0 : gVar 0 m h = .ok (.ref s) h := var_at e0
  simp [gFldAug, v0, Out.bindS, mFld, g, l, ev, n]
theorem mod_ok {a b : Nat} (hb : 0 < b) {h : MH} : mMod (.int (a : Nat)) (.int (b : Nat)) h = .ok (.int ((a % b : Nat) : Int)) h := by
  have : decide ((0 : Int) < (b : Nat)) = true := decide_eq_true (by omega)
  unfold mMod mIc
  simp only [this, if_pos]
  rfl
section
variable {C : Nat} {h h' : MH} {p dk fi cn lb lo nx rq sf : Nat} {R : List (List MV)} {tl : List (Nat × MV)}
theorem Lg.ne (d : Lg C h p dk fi cn lb lo nx rq sf R tl) : p ≠ rq := fun z => by
  have := d.ins
  rw [z, d.rl] at this
  cases this
theorem Lg.kp {F : List Nat} (d : Lg C h p dk fi cn lb lo nx rq sf R tl) (k : Kp F h h') (f1 : p ∉ F) (f2 : rq ∉ F) : Lg C h' p dk fi cn lb lo nx rq sf R tl := ⟨k.at d.ins f1, k.at d.rl f2⟩
theorem Lg.up (d : Lg C h p dk fi cn lb lo nx rq sf R tl) (u : Up h h') : Lg C h' p dk fi cn lb lo nx rq sf R tl := d.kp (F := []) u.kp (by simp) (by simp)
end
section
variable (C : Nat)
def bRd : MS := gSeq (gAsg (gBin mIx (gVar 1) (gBin mMod (gFld [C] fNext (gVar 0)) (gFld [C] fCount (gVar 0)))) (tgName 7)) (gSeq (gIfS (gB (gIsN (gVar 7))) (gRetN) (gNext)) (gSeq (gAsg (gVar 7) (tgTup [6, 4, 5, 8])) (gSeq (gIfS (gOr (gB (gBin mNeX (gVar 6) (gFld [C] fNext (gVar 0)))) (gOr (gB (gBin mNeX (gVar 5) (gFld [C] fSafe (gVar 0)))) (gB (gBin mLtI (gVar 4) (gVar 2))))) (gRetN) (gNext)) (gSeq (gAsg (gVar 4) (tgName 2)) (gSeq (gFldAug [C] fNext (fun i j => i + j) (gVar 0) (gC (.int 1))) (gSeq (gFldAug [C] fSafe (fun i j => i + j) (gVar 0) (gCB (f1 mLenV) (gCons (gVar 8) (gNil)))) (gExpr (gBM "list" lExtA (gFld [C] fRec (gVar 0)) (gCons (gVar 8) (gNil))))))))))
def mLRead : MF := gBody 9 (gFor (gRng1 (gFld [C] fCount (gVar 0))) (tgName 3) (bRd C))
end
structure Ring (h : MH) (n rg : Nat) (vs : List MV) (g : List (Option Part)) : Prop where
  at_ : h.get rg = some (.lst vs)
  len : vs.length = g.length
  pv : ∀ (k : Nat) (v : MV), vs[k]? = some v → ∃ o : Option Part, g[k]? = some o ∧ PV h n v o
theorem Ring.kp {h h' : MH} {n rg : Nat} {vs : List MV} {g : List (Option Part)} {F : List Nat} (r : Ring h n rg vs g) (k : Kp F h h') (f1 : rg ∉ F) (f2 : ∀ j ∈ F, j < n) : Ring h' n rg vs g :=
  ⟨k.at r.at_ f1, r.len, fun i v e => by
    obtain ⟨o, a, b⟩ := r.pv i v e
    exact ⟨o, a, b.kp k f2⟩⟩
section
variable {C : Nat} {h h' : MH} {p dk fi cn lb lo rq n rg : Nat} {vs : List MV} {g : List (Option Part)} {tl : List (Nat × MV)} {s : RS}
abbrev mRd (p rg : Nat) (fl : Int) (o3 o4 o5 o6 o7 o8 : Option MV) : ML := [some (.ref p), some (.ref rg), some (.int fl), o3, o4, o5, o6, o7, o8]
theorem rd_step (d : Lg C h p dk fi cn lb lo s.nx rq (lo + s.acc.length) s.acc tl) (r : Ring h n rg vs g) (gc : g.length = cn) (c0 : 0 < cn) (rn : rq < n) (pn : p < n) (nr : rg ≠ rq) (la : s.acc.length < 10000) (lt : tl.length < 800) (lg : ∀ a e f rs, some (a, e, f, rs) ∈ g → rs.length < 1000) {o3 o4 o5 o6 o7 o8 : Option MV} :
    (∀ s', stp g lo s = some s' → ∃ p4 p5 p6 p7 p8 h', bRd C (mRd p rg s.fl o3 o4 o5 o6 o7 o8) h = .nx (mRd p rg s'.fl o3 p4 p5 p6 p7 p8) h' ∧ Lg C h' p dk fi cn lb lo s'.nx rq (lo + s'.acc.length) s'.acc tl ∧ Kp [p, rq] h h') ∧ (stp g lo s = none → bRd C (mRd p rg s.fl o3 o4 o5 o6 o7 o8) h = .rt .non h) := by
  have pr := d.ne
  have rl := r.len
  have hk : s.nx % cn < vs.length := by rw [rl, gc]; exact Nat.mod_lt _ c0
  have hv : vs[s.nx % cn]? = some vs[s.nx % cn] := List.getElem?_eq_getElem hk
  obtain ⟨v, ev⟩ : ∃ v, v = vs[s.nx % cn] := ⟨_, rfl⟩
  rw [← ev] at hv
  obtain ⟨o, go, po⟩ := r.pv _ _ hv
  have fN : ∀ {m : ML}, m[0]? = some (some (.ref p)) → gFld [C] fNext (gVar 0) m h = .ok (.int (s.nx : Nat)) h := fun {m} e => fld_at e d.ins rfl
  have fC : ∀ {m : ML}, m[0]? = some (some (.ref p)) → gFld [C] fCount (gVar 0) m h = .ok (.int (cn : Nat)) h := fun {m} e => fld_at e d.ins rfl
  have fS : ∀ {m : ML}, m[0]? = some (some (.ref p)) → gFld [C] fSafe (gVar 0) m h = .ok (.int ((lo + s.acc.length : Nat) : Int)) h := fun {m} e => fld_at e d.ins rfl
  have s1 : gAsg (gBin mIx (gVar 1) (gBin mMod (gFld [C] fNext (gVar 0)) (gFld [C] fCount (gVar 0)))) (tgName 7) (mRd p rg s.fl o3 o4 o5 o6 o7 o8) h = .nx (mRd p rg s.fl o3 o4 o5 o6 (some v) o8) h := by
    refine (asg_nx (v := v) (h' := h) ?_).trans rfl
    have v1 : gVar 1 (mRd p rg s.fl o3 o4 o5 o6 o7 o8) h = .ok (.ref rg) h := rfl
    have ix := (Sq.ref r.at_).ix hv
    simp only [gBin, v1, fN (m := mRd p rg s.fl o3 o4 o5 o6 o7 o8) rfl, fC (m := mRd p rg s.fl o3 o4 o5 o6 o7 o8) rfl, Out.bind, mod_ok c0, ix]
  have st : stp g lo s = tak lo s o := by
    unfold stp
    rw [gc, go]
    rfl
  rw [st]
  cases o with
  | none =>
    have pv : v = .non := po
    subst pv
    exact ⟨fun s' e => (by cases e), fun _ => (seq_nx s1).trans (seq_rt ((ifS_t (h1 := h) rfl).trans rfl))⟩
  | some t =>
    obtain ⟨a, e, f, rs⟩ := t
    obtain ⟨q, rfl, qn, gq⟩ := po
    have lr := lg a e f rs (List.mem_of_getElem? go)
    let M : ML := mRd p rg s.fl o3 (some (.int e)) (some (.int f)) (some (.int a)) (some (.tup [.int a, .int e, .int f, .ref q])) (some (.ref q))
    have s2 : ∀ b : MS, bRd C (mRd p rg s.fl o3 o4 o5 o6 o7 o8) h = (gSeq (gIfS (gOr (gB (gBin mNeX (gVar 6) (gFld [C] fNext (gVar 0)))) (gOr (gB (gBin mNeX (gVar 5) (gFld [C] fSafe (gVar 0)))) (gB (gBin mLtI (gVar 4) (gVar 2))))) (gRetN) (gNext)) (gSeq (gAsg (gVar 4) (tgName 2)) (gSeq (gFldAug [C] fNext (fun i j => i + j) (gVar 0) (gC (.int 1))) (gSeq (gFldAug [C] fSafe (fun i j => i + j) (gVar 0) (gCB (f1 mLenV) (gCons (gVar 8) (gNil)))) (gExpr (gBM "list" lExtA (gFld [C] fRec (gVar 0)) (gCons (gVar 8) (gNil)))))))) M h := fun b =>
      (seq_nx s1).trans ((seq_nx (m' := mRd p rg s.fl o3 o4 o5 o6 (some (.tup [.int a, .int e, .int f, .ref q])) o8) (h' := h) ((ifS_f (h1 := h) rfl).trans rfl)).trans ((seq_nx (m' := M) (h' := h) rfl)))
    have c1 : gB (gBin mNeX (gVar 6) (gFld [C] fNext (gVar 0))) M h = .ok (!decide (a = (s.nx : Int))) h := by
      have v6 : gVar 6 M h = .ok (.int a) h := rfl
      simp only [gB, gBin, v6, fN (m := M) rfl, Out.bind]
      rfl
    have c2 : gB (gBin mNeX (gVar 5) (gFld [C] fSafe (gVar 0))) M h = .ok (!decide (f = ((lo + s.acc.length : Nat) : Int))) h := by
      have v5 : gVar 5 M h = .ok (.int f) h := rfl
      simp only [gB, gBin, v5, fS (m := M) rfl, Out.bind]
      rfl
    have c3 : gB (gBin mLtI (gVar 4) (gVar 2)) M h = .ok (decide (e < s.fl)) h := rfl
    by_cases cc : a = (s.nx : Int) ∧ f = ((lo + s.acc.length : Nat) : Int) ∧ s.fl ≤ e
    · obtain ⟨z1, z2, z3⟩ := cc
      refine ⟨fun s' es => ?_, fun es => ?_⟩
      · have es' : some (⟨s.nx + 1, e, s.acc ++ rs⟩ : RS) = some s' := (if_pos ⟨z1, z2, z3⟩).symm.trans es
        cases es'
        rw [decide_eq_true z1] at c1
        rw [decide_eq_true z2] at c2
        rw [decide_eq_false (by omega)] at c3
        let M2 : ML := mRd p rg e o3 (some (.int e)) (some (.int f)) (some (.int a)) (some (.tup [.int a, .int e, .int f, .ref q])) (some (.ref q))
        have a1 := aug_ok (op := fun i j => i + j) (f := fNext) (m := M2) (e := gC (.int 1)) (y := 1) rfl d.ins rfl rfl (by show tl.length + 8 < 900; omega)
        have i1 : (h.set p (.ins C (lfs dk fi cn lb lo (s.nx + 1) rq (lo + s.acc.length) tl))).get p = some (.ins C (lfs dk fi cn lb lo (s.nx + 1) rq (lo + s.acc.length) tl)) := set_get d.ins
        have pq : q ≠ p := by omega
        have g1 : (h.set p (.ins C (lfs dk fi cn lb lo (s.nx + 1) rq (lo + s.acc.length) tl))).get q = some (.lst (rs.map .tup)) := by rw [set_ne d.ins pq]; exact gq
        have l8 : gCB (f1 mLenV) (gCons (gVar 8) (gNil)) M2 (h.set p (.ins C (lfs dk fi cn lb lo (s.nx + 1) rq (lo + s.acc.length) tl))) = .ok (.int (rs.length : Nat)) (h.set p (.ins C (lfs dk fi cn lb lo (s.nx + 1) rq (lo + s.acc.length) tl))) := by
          have := (Sq.ref g1).len
          rw [List.length_map] at this
          exact this
        have a2 := aug_ok (op := fun i j => i + j) (f := fSafe) (m := M2) (y := (rs.length : Nat)) rfl i1 rfl l8 (by show tl.length + 8 < 900; omega)
        let h2 := (h.set p (.ins C (lfs dk fi cn lb lo (s.nx + 1) rq (lo + s.acc.length) tl))).set p (.ins C (lfs dk fi cn lb lo (s.nx + 1) rq (lo + (s.acc ++ rs).length) tl))
        have eq2 : ((h.set p (.ins C (lfs dk fi cn lb lo (s.nx + 1) rq (lo + s.acc.length) tl))).set p (.ins C (mput fSafe (.int ((fun i j => i + j) ((lo + s.acc.length : Nat) : Int) ((rs.length : Nat) : Int))) (lfs dk fi cn lb lo (s.nx + 1) rq (lo + s.acc.length) tl)))) = h2 := by
          have : ((lo + s.acc.length : Nat) : Int) + ((rs.length : Nat) : Int) = ((lo + (s.acc ++ rs).length : Nat) : Int) := by rw [List.length_append]; omega
          show (h.set p _).set p (.ins C (lfs dk fi cn lb lo (s.nx + 1) rq _ tl)) = _
          show (h.set p _).set p (.ins C ((fDisk, .ref dk) :: (fFirst, .int (fi : Nat)) :: (fCount, .int (cn : Nat)) :: (fLowB, .int (lb : Nat)) :: (fLow, .int (lo : Nat)) :: (fNext, .int ((s.nx + 1 : Nat) : Int)) :: (fRec, .ref rq) :: (fSafe, .int (((lo + s.acc.length : Nat) : Int) + ((rs.length : Nat) : Int))) :: tl)) = _
          rw [this]
        have i2 : h2.get p = some (.ins C (lfs dk fi cn lb lo (s.nx + 1) rq (lo + (s.acc ++ rs).length) tl)) := set_get i1
        have k2 : Kp [p] h h2 := (Kp.set (MH.get_lt d.ins) (by simp)).trans (Kp.set (MH.get_lt i1) (by simp))
        have gr : h2.get rq = some (.lst (s.acc.map .tup)) := k2.at d.rl (by simpa using fun z => pr z.symm)
        have gq2 : h2.get q = some (.lst (rs.map .tup)) := k2.at gq (by simpa using pq)
        have ex : gExpr (gBM "list" lExtA (gFld [C] fRec (gVar 0)) (gCons (gVar 8) (gNil))) M2 h2 = .nx M2 (h2.set rq (.lst ((s.acc ++ rs).map .tup))) := by
          refine expr_nx (v := .non) ?_
          have fR : gFld [C] fRec (gVar 0) M2 h2 = .ok (.ref rq) h2 := fld_at rfl i2 rfl
          have v8 : gVar 8 M2 h2 = .ok (.ref q) h2 := rfl
          have ty : isTy h2 "list" (.ref rq) = true := by simp [isTy, gr]
          have ll : s.acc.length + rs.length < 1000000 := by omega
          simp only [gBM, fR, Out.bind, ty, if_pos, gCons, gNil, v8, lExtA, lExt, gr, gq2, List.length_map, ll, List.map_append]
        refine ⟨some (.int e), some (.int f), some (.int a), some (.tup [.int a, .int e, .int f, .ref q]), some (.ref q), h2.set rq (.lst ((s.acc ++ rs).map .tup)), (s2 gNext).trans ((seq_nx (m' := M) (h' := h) ((ifS_f ((or_f c1).trans ((or_f c2).trans c3))).trans rfl)).trans ((seq_nx (m' := M2) (h' := h) rfl).trans ((seq_nx (a1.trans rfl)).trans ((seq_nx (a2.trans (congrArg (SO.nx M2) eq2))).trans ex)))), ⟨?_, set_get gr⟩, ?_⟩
        · rw [set_ne gr pr]; exact i2
        · exact (k2.le (by simp)).trans (Kp.set (MH.get_lt gr) (by simp))
      · have es' : some (⟨s.nx + 1, e, s.acc ++ rs⟩ : RS) = none := (if_pos ⟨z1, z2, z3⟩).symm.trans es
        cases es'
    · refine ⟨fun s' es => ?_, fun es => (s2 gNext).trans (seq_rt ((ifS_t (h1 := h) ?_).trans rfl))⟩
      · have es' : (none : Option RS) = some s' := (if_neg cc).symm.trans es
        cases es'
      · by_cases z1 : a = (s.nx : Int)
        · rw [decide_eq_true z1] at c1
          refine (or_f c1).trans ?_
          by_cases z2 : f = ((lo + s.acc.length : Nat) : Int)
          · rw [decide_eq_true z2] at c2
            refine (or_f c2).trans (c3.trans ?_)
            rw [decide_eq_true]
            by_cases z3 : s.fl ≤ e
            · exact absurd ⟨z1, z2, z3⟩ cc
            · omega
          · rw [decide_eq_false z2] at c2
            exact or_t c2
        · rw [decide_eq_false z1] at c1
          exact or_t c1
end
end LG
set_option Elab.async false
set_option linter.all false
set_option maxRecDepth 100000
set_option maxHeartbeats 4000000
namespace LG
open MI XG XM XK DK PySem
open L2 (atI ixN)
theorem for_stop {it : It1} {t : MG} {b : MS} {N : Nat} (Q : Nat → ML → MH → Prop) (P : MV → MH → Prop) (hend : ∀ m h, Q N m h → it.at_ N h = some none)
    (hstep : ∀ i m h, i < N → Q i m h → ∃ x m1 h1, it.at_ i h = some (some x) ∧ t x m h = .nx m1 h1 ∧ ((∃ m2 h2, b m1 h1 = .nx m2 h2 ∧ Q (i + 1) m2 h2) ∨ ∃ v h2, b m1 h1 = .rt v h2 ∧ P v h2)) :
    ∀ (n i : Nat) (m : ML) (h : MH), i + n = N + 1 → i ≤ N → Q i m h → (∃ m' h', gForN it t b n i m h = .nx m' h' ∧ Q N m' h') ∨ ∃ v h', gForN it t b n i m h = .rt v h' ∧ P v h'
  | 0, i, m, h, e0, hi, _ => by omega
  | n + 1, i, m, h, e0, hi, q => by
    unfold gForN
    by_cases hiN : i = N
    · subst hiN
      rw [hend m h q]
      exact .inl ⟨m, h, rfl, q⟩
    · obtain ⟨x, m1, h1, a1, a2, a3⟩ := hstep i m h (by omega) q
      rw [a1]
      simp only [a2]
      rcases a3 with ⟨m2, h2, a3, a4⟩ | ⟨v, h2, a3, a4⟩
      · rw [a3]
        exact for_stop Q P hend hstep n (i + 1) m2 h2 (by omega) (by omega) a4
      · rw [a3]
        exact .inr ⟨v, h2, rfl, a4⟩
theorem stp_acc {g : List (Option Part)} {lo : Nat} {s s' : RS} (e : stp g lo s = some s') : ∃ a ep f rs, some (a, ep, f, rs) ∈ g ∧ s'.acc = s.acc ++ rs ∧ s'.nx = s.nx + 1 ∧ s'.fl = ep ∧ s.fl ≤ ep := by
  obtain ⟨o, k, e⟩ := Option.bind_eq_some_iff.mp e
  cases o with
  | none => cases e
  | some t =>
    obtain ⟨a, ep, f, rs⟩ := t
    by_cases c : a = (s.nx : Int) ∧ f = ((lo + s.acc.length : Nat) : Int) ∧ s.fl ≤ ep
    · have e' : some (⟨s.nx + 1, ep, s.acc ++ rs⟩ : RS) = some s' := (if_pos c).symm.trans e
      cases e'
      exact ⟨a, ep, f, rs, List.mem_of_getElem? k, rfl, rfl, rfl, c.2.2⟩
    · have e' : (none : Option RS) = some s' := (if_neg c).symm.trans e
      cases e'
theorem run_acc {g : List (Option Part)} {lo B : Nat} {s : RS} {P : List MV → Prop} (lg : ∀ a e f rs, some (a, e, f, rs) ∈ g → rs.length ≤ B ∧ ∀ r ∈ rs, P r) (ps : ∀ r ∈ s.acc, P r) : ∀ n, (run g lo n s).acc.length ≤ s.acc.length + n * B ∧ (∀ r ∈ (run g lo n s).acc, P r) ∧ s.nx ≤ (run g lo n s).nx ∧ (run g lo n s).nx ≤ s.nx + n
  | 0 => ⟨by simp [run], ps, Nat.le_refl _, Nat.le_refl _⟩
  | n + 1 => by
    obtain ⟨i1, i2, i3, i4⟩ := run_acc (lo := lo) lg ps n
    show (nxt g lo (run g lo n s)).acc.length ≤ _ ∧ (∀ r ∈ (nxt g lo (run g lo n s)).acc, P r) ∧ s.nx ≤ (nxt g lo (run g lo n s)).nx ∧ (nxt g lo (run g lo n s)).nx ≤ _
    unfold nxt
    cases k : stp g lo (run g lo n s) with
    | none =>
      refine ⟨?_, i2, i3, ?_⟩
      · show (run g lo n s).acc.length ≤ _
        rw [Nat.succ_mul]; omega
      · show (run g lo n s).nx ≤ _
        omega
    | some s' =>
      obtain ⟨a, ep, f, rs, m, e1, e2, _⟩ := stp_acc k
      obtain ⟨l1, l2⟩ := lg a ep f rs m
      refine ⟨?_, fun r hr => ?_, ?_, ?_⟩
      · show s'.acc.length ≤ _
        rw [e1, List.length_append, Nat.succ_mul]; omega
      · have hr' : r ∈ s'.acc := hr
        rw [e1] at hr'
        rcases List.mem_append.mp hr' with z | z
        · exact i2 r z
        · exact l2 r z
      · show s.nx ≤ s'.nx
        rw [e2]; omega
      · show s'.nx ≤ _
        rw [e2]; omega
section
variable {C : Nat} {h h' : MH} {p dk fi cn lb lo rq n rg B : Nat} {vs : List MV} {g : List (Option Part)} {tl : List (Nat × MV)} {s : RS}
theorem rd_ok (d : Lg C h p dk fi cn lb lo s.nx rq (lo + s.acc.length) s.acc tl) (r : Ring h n rg vs g) (gc : g.length = cn) (c0 : 0 < cn) (c1 : cn < 1000) (rn : rq < n) (pn : p < n) (nr : rg ≠ rq) (np : rg ≠ p) (la : s.acc.length + cn * B < 10000) (lB : B < 1000) (lt : tl.length < 800) (lg : ∀ a e f rs, some (a, e, f, rs) ∈ g → rs.length ≤ B) :
    ∃ h', mLRead C [.ref p, .ref rg, .int s.fl] h = .ok .non h' ∧ Lg C h' p dk fi cn lb lo (run g lo cn s).nx rq (lo + (run g lo cn s).acc.length) (run g lo cn s).acc tl ∧ Kp [p, rq] h h' := by
  have pr := d.ne
  let Q : Nat → ML → MH → Prop := fun j m h' => ∃ o3 o4 o5 o6 o7 o8, m = mRd p rg (run g lo j s).fl o3 o4 o5 o6 o7 o8 ∧ Lg C h' p dk fi cn lb lo (run g lo j s).nx rq (lo + (run g lo j s).acc.length) (run g lo j s).acc tl ∧ Kp [p, rq] h h'
  let P : MV → MH → Prop := fun v h' => v = .non ∧ Lg C h' p dk fi cn lb lo (run g lo cn s).nx rq (lo + (run g lo cn s).acc.length) (run g lo cn s).acc tl ∧ Kp [p, rq] h h'
  have fC : gFld [C] fCount (gVar 0) (mRd p rg s.fl none none none none none none) h = .ok (.int (cn : Nat)) h := fld_at rfl d.ins rfl
  have it : gRng1 (gFld [C] fCount (gVar 0)) (mRd p rg s.fl none none none none none none) h = .ok (it1R 0 cn) h := by
    simp [gRng1, fC, Out.bind]
    omega
  have lp := for_stop (it := it1R 0 cn) (t := tgName 3) (b := bRd C) (N := cn) Q P (fun _ _ _ => rng_end) (fun j m h1 hj q => by
    obtain ⟨o3, o4, o5, o6, o7, o8, rfl, d1, k1⟩ := q
    have aj := (run_acc (P := fun _ => True) (lo := lo) (s := s) (fun a e f rs m => ⟨lg a e f rs m, fun _ _ => trivial⟩) (fun _ _ => trivial) j).1
    have jb : j * B ≤ cn * B := Nat.mul_le_mul_right B (by omega)
    have st := rd_step d1 (r.kp k1 (by simp; exact ⟨np, nr⟩) (by simp; exact ⟨pn, rn⟩)) gc c0 rn pn nr (by omega) lt (fun a e f rs m => by have := lg a e f rs m; omega) (o3 := some (.int (j : Nat))) (o4 := o4) (o5 := o5) (o6 := o6) (o7 := o7) (o8 := o8)
    refine ⟨.int (j : Nat), mRd p rg (run g lo j s).fl (some (.int (j : Nat))) o4 o5 o6 o7 o8, h1, rng_at0 hj, rfl, ?_⟩
    cases k : stp g lo (run g lo j s) with
    | none =>
      refine .inr ⟨.non, h1, st.2 k, rfl, ?_⟩
      obtain ⟨dd, ed⟩ : ∃ dd, cn = j + dd := ⟨cn - j, by omega⟩
      have ef := run_fix k dd
      rw [← ed] at ef
      rw [ef]
      exact ⟨d1, k1⟩
    | some s' =>
      obtain ⟨o4', o5', o6', o7', o8', h2, b1, b2, b3⟩ := st.1 s' k
      have es : run g lo (j + 1) s = s' := by
        show nxt g lo (run g lo j s) = s'
        unfold nxt
        rw [k]; rfl
      refine .inl ⟨_, h2, b1, some (.int (j : Nat)), o4', o5', o6', o7', o8', by rw [es], by rw [es]; exact b2, k1.trans b3⟩) (cn + 1) 0 (mRd p rg s.fl none none none none none none) h (by omega) (Nat.zero_le _) ⟨none, none, none, none, none, none, rfl, d, .refl⟩
  have fe : gFor (gRng1 (gFld [C] fCount (gVar 0))) (tgName 3) (bRd C) (mRd p rg s.fl none none none none none none) h = gForN (it1R 0 cn) (tgName 3) (bRd C) (cn + 1) 0 (mRd p rg s.fl none none none none none none) h := by
    unfold gFor
    rw [it]
    rfl
  rcases lp with ⟨m', h', e1, o3, o4, o5, o6, o7, o8, em, d2, k2⟩ | ⟨v, h', e1, rfl, d2, k2⟩
  · exact ⟨h', body_nx (m := m') (fe.trans e1), d2, k2⟩
  · exact ⟨h', body_rt (v := .non) (fe.trans e1), d2, k2⟩
end
end LG
set_option Elab.async false
set_option linter.all false
set_option maxRecDepth 100000
set_option maxHeartbeats 4000000
namespace LG
open MI XG XM XK DK PySem
open L2 (atI ixN)
abbrev nRead : Nat := 922337630296200970354
abbrev nRd : Nat := 1934282206050938457379831903
section
variable (C D eB : Nat)
def eRing : ME := gLc (gRng1 (gVar 3)) (.one 9) (gYes) (gCall mUnp [] 1 (gCons (gMeth D nRead (mDRead D eB) [] 2 (gVar 1) (gCons (gBin mAdd (gVar 2) (gVar 9)) (gNil))) (gNil))) [9]
def eEpo : ME := gLc (gIter (gVar 8)) (.one 10) (gB (gNotN (gVar 10))) (gBin mIx (gVar 10) (gC (.int 1))) [10]
def mLInit : MF := gBody 11 (gSeq (gFldS [C] fDisk (gVar 1) (gVar 0)) (gSeq (gFldS [C] fFirst (gVar 2) (gVar 0)) (gSeq (gFldS [C] fCount (gVar 3) (gVar 0)) (gSeq (gFldS [C] fLowB (gVar 4) (gVar 0)) (gSeq (gFldS [C] fLow (gVar 5) (gVar 0)) (gSeq (gFldS [C] fNext (gVar 4) (gVar 0)) (gSeq (gFldS [C] fRec (gLst (gNil)) (gVar 0)) (gSeq (gFldS [C] fSafe (gVar 5) (gVar 0)) (gSeq (gAsg (eRing D eB) (tgName 8)) (gSeq (gExpr (gMeth C nRd (mLRead C) [] 3 (gVar 0) (gCons (gVar 8) (gCons (gVar 6) (gNil))))) (gSeq (gAsg eEpo (tgName 7)) (gFldS [C] fEpo (gBin mAdd (gC (.int 1)) (gCB (f1 mMaxL) (gCons (gLst (gCons (gVar 6) (gStar (gVar 7) (gNil)))) (gNil)))) (gVar 0)))))))))))))
end
theorem unp_rec {xs : List MV} {a e f : Int} {rs : List (List MV)} (u : unp xs = some (a, e, f, rs)) (ha : ∀ x ∈ xs, atS x = true) : (∀ r ∈ rs, 1 ≤ r.length ∧ r.length ≤ 8 ∧ ∀ x ∈ r, atS x = true) ∧ rs.length ≤ xs.length ∧ 0 ≤ e := by
  obtain ⟨a', e', f', m, r, rs', rfl, p1, p2, p3, p4, p5, p6, p7⟩ := unp_some u
  cases p7
  obtain ⟨q1, q2⟩ := recs_of _ _ _ p5 fun x hx => ha x (by simp [hx])
  refine ⟨q1, ?_, p2⟩
  simp only [List.length_cons]; omega
def epos (g : List (Option Part)) : List Int := g.filterMap fun o => o.map fun t => t.2.1
theorem epos_take {g : List (Option Part)} {j : Nat} {o : Option Part} (e : g[j]? = some o) : epos (g.take (j + 1)) = epos (g.take j) ++ (o.map fun t => t.2.1).toList := by
  unfold epos
  rw [List.take_succ, e, List.filterMap_append]
  cases o <;> rfl
theorem fset {C f p : Nat} {v : ME} {m : ML} {h0 h h1 : MH} {y : MV} {fs : List (Nat × MV)} (k : Kp [p] h0 h) (g : h.get p = some (.ins C fs)) (ev : v m h = .ok y h1) (u : Up h h1) (e0 : m[0]? = some (some (.ref p))) (l : fs.length < 900) : ∃ h', gFldS [C] f v (gVar 0) m h = .nx m h' ∧ h'.get p = some (.ins C (mput f y fs)) ∧ Kp [p] h0 h' ∧ Kp [p] h1 h' := by
  have g1 := u.at g
  have k1 : Kp [p] h1 (h1.set p (.ins C (mput f y fs))) := Kp.set (MH.get_lt g1) (by simp)
  exact ⟨_, fldS_ok ev e0 g1 l, set_get g1, (k.trans u.kp).trans k1, k1⟩
section
variable {C D eB : Nat} {h h' : MH} {p dk a b c fi cn lb lo rq n rg : Nat} {A B : List MV} {L : List (Nat × MV)} {w : Int} {lv : MV} {bs : List (List MV)} {fl : Int}
theorem ring_ok {m : ML} (d : Dsk D h dk a b c A B L w lv) (hb : ∀ k xs, bs[k]? = some xs → B[fi + k]? = some (.tup xs)) (hbs : ∀ xs ∈ bs, xs.length < 1000 ∧ ∀ x ∈ xs, atS x = true) (l : bs.length = cn) (cn0 : cn < 1000)
    (m1 : ∀ x h, gVar 1 ((m.set 9 none).set 9 (some x)) h = .ok (.ref dk) h) (m2 : ∀ x h, gVar 2 ((m.set 9 none).set 9 (some x)) h = .ok (.int (fi : Nat)) h) (m3 : gVar 3 m h = .ok (.int (cn : Nat)) h) (m9 : ∀ x h, gVar 9 ((m.set 9 none).set 9 (some x)) h = .ok x h) :
    ∃ h' vs, eRing D eB m h = .ok (.ref h.n) h' ∧ Ring h' (h.n + 1) h.n vs (bs.map unp) ∧ Up h h' := by
  have it : gRng1 (gVar 3) m h = .ok (it1R 0 cn) h := by
    simp [gRng1, m3, Out.bind]
    omega
  obtain ⟨acc, h1, e1, ⟨u1, la, q1⟩, g1⟩ := lc_loop (it := it1R 0 cn) (c := .one 9) (t := gYes) (e := gCall mUnp [] 1 (gCons (gMeth D nRead (mDRead D eB) [] 2 (gVar 1) (gCons (gBin mAdd (gVar 2) (gVar 9)) (gNil))) (gNil))) (D := h.n) (mw := m.set 9 none) (N := cn) (by omega)
    (fun j acc h' => (Up h h' ∧ h.n + 1 ≤ h'.n) ∧ acc.length = j ∧ ∀ k v, acc[k]? = some v → ∃ xs, bs[k]? = some xs ∧ PV h' (h.n + 1) v (unp xs)) (fun acc h' p => rng_end) (fun j acc h' hj q g => by
      obtain ⟨⟨u, un⟩, la, q⟩ := q
      have hj' : j < bs.length := by omega
      have hx : bs[j]? = some bs[j] := List.getElem?_eq_getElem hj'
      obtain ⟨x1, x2⟩ := hbs _ (List.getElem_mem hj')
      obtain ⟨v, h2, c1, c2, c3⟩ := unp_ok (h := h') x2 x1
      have rd := read_ok (eB := eB) (d.up u) (hb j _ hx)
      have ad : gBin mAdd (gVar 2) (gVar 9) ((m.set 9 none).set 9 (some (.int (j : Nat)))) h' = .ok (.int ((fi + j : Nat) : Int)) h' := by
        simp only [gBin, m2, m9, Out.bind]
        rfl
      have call : gMeth D nRead (mDRead D eB) [] 2 (gVar 1) (gCons (gBin mAdd (gVar 2) (gVar 9)) (gNil)) ((m.set 9 none).set 9 (some (.int (j : Nat)))) h' = .ok (.tup bs[j]) h' := (meth1 (n := 2) (m1 _ _) (d.up u).ins rfl ad rfl).trans rd
      have ec : gCall mUnp [] 1 (gCons (gMeth D nRead (mDRead D eB) [] 2 (gVar 1) (gCons (gBin mAdd (gVar 2) (gVar 9)) (gNil))) (gNil)) ((m.set 9 none).set 9 (some (.int (j : Nat)))) h' = .ok v h2 := (call1 (n := 1) call rfl).trans c1
      have g2 := c3.at g
      have hn : h.n < h2.n := MH.get_lt g2
      refine ⟨.int (j : Nat), (m.set 9 none).set 9 (some (.int (j : Nat))), h', true, h', rng_at0 hj, rfl, rfl, (fun z => nomatch z), fun _ => ⟨v, h2, ec, g2, ⟨(u.trans c3).set (Nat.le_refl _) g2, ?_⟩, ?_, fun k v' e => ?_⟩⟩
      · show h.n + 1 ≤ h2.n; omega
      · rw [List.length_append, la]; rfl
      · have ks : Kp [h.n] h2 (h2.set h.n (.lst (acc ++ [v]))) := Kp.set hn (by simp)
        by_cases hk : k < acc.length
        · rw [List.getElem?_append_left hk] at e
          obtain ⟨xs, e1, e2⟩ := q k v' e
          exact ⟨xs, e1, (e2.up c3).kp ks (by simp)⟩
        · have kl : k < (acc ++ [v]).length := (List.getElem?_eq_some_iff.mp e).1
          rw [List.length_append, List.length_singleton] at kl
          have kj : k = acc.length := by omega
          subst kj
          rw [List.getElem?_append_right (Nat.le_refl _), Nat.sub_self] at e
          cases e
          rw [la]
          exact ⟨_, hx, (c2.le un).kp ks (by simp)⟩)
    (cn + 1) 0 [] (h.push (.lst [])) (by omega) (Nat.zero_le _) (by simp) ⟨⟨Up.push, Nat.le_refl _⟩, rfl, fun k v e => (by cases e)⟩ get_top
  refine ⟨h1, acc, ?_, ⟨g1, by rw [la, List.length_map, l], fun k v e => ?_⟩, u1.1⟩
  · unfold eRing gLc
    rw [it]
    simp only [Out.bind]
    exact e1
  · obtain ⟨xs, e1, e2⟩ := q1 k v e
    exact ⟨unp xs, by rw [List.getElem?_map, e1]; rfl, e2⟩
theorem epo_ok {vs : List MV} {g : List (Option Part)} {m : ML} (r : Ring h n rg vs g) (lv : vs.length < 1000) (m8 : gVar 8 m h = .ok (.ref rg) h) (m10 : ∀ x h, gVar 10 ((m.set 10 none).set 10 (some x)) h = .ok x h) :
    ∃ h', eEpo m h = .ok (.ref h.n) h' ∧ h'.get h.n = some (.lst ((epos g).map .int)) ∧ Up h h' := by
  obtain ⟨it, t1, t2, t3⟩ := XM.iter_it (Sq.ref r.at_)
  obtain ⟨acc, h1, e1, ⟨u1, rfl⟩, g1⟩ := lc_loop (it := it) (c := .one 10) (t := gB (gNotN (gVar 10))) (e := gBin mIx (gVar 10) (gC (.int 1))) (D := h.n) (mw := m.set 10 none) (N := vs.length) (by omega)
    (fun j acc h' => Up h h' ∧ acc = (epos (g.take j)).map .int) (fun acc h' p => by rw [t3 h' (Sq.ref (p.1.at r.at_)), List.getElem?_eq_none (Nat.le_refl _)]) (fun j acc h' hj p gd => by
      obtain ⟨u, rfl⟩ := p
      have hx : vs[j]? = some vs[j] := List.getElem?_eq_getElem hj
      obtain ⟨o, go, po⟩ := r.pv _ _ hx
      have et := epos_take go
      have ia : it.at_ j h' = some (some vs[j]) := by rw [t3 h' (Sq.ref (u.at r.at_)), hx]
      cases o with
      | none =>
        have pv : vs[j] = .non := po
        rw [pv] at ia
        refine ⟨.non, (m.set 10 none).set 10 (some .non), h', false, h', ia, rfl, ?_, fun _ => ⟨⟨u, by rw [et]; simp⟩, gd⟩, fun z => (by cases z)⟩
        simp only [gB, gNotN, gUn, m10, Out.bind]
        rfl
      | some t =>
        obtain ⟨a, e, f, rs⟩ := t
        obtain ⟨q, ev, _, _⟩ := po
        rw [ev] at ia
        refine ⟨_, (m.set 10 none).set 10 (some (.tup [.int a, .int e, .int f, .ref q])), h', true, h', ia, rfl, ?_, fun z => (by cases z), fun _ => ⟨.int e, h', ?_, gd, u.set (Nat.le_refl _) gd, by rw [et]; simp⟩⟩
        · simp only [gB, gNotN, gUn, m10, Out.bind]
          rfl
        · simp only [gBin, m10, Out.bind]
          rfl)
    (vs.length + 1) 0 [] (h.push (.lst [])) (by omega) (Nat.zero_le _) (by simp) ⟨Up.push, rfl⟩ get_top
  have gl : g.take vs.length = g := List.take_of_length_le (by rw [r.len]; exact Nat.le_refl _)
  rw [gl] at g1
  refine ⟨h1, ?_, g1, u1⟩
  unfold eEpo gLc
  rw [t1 m (gVar 8) m8]
  simp only [Out.bind]
  rw [t2]
  exact e1
end
end LG
set_option Elab.async false
set_option linter.all false
set_option maxRecDepth 100000
set_option maxHeartbeats 4000000
namespace LG
open MI XG XM XK DK PySem
open L2 (atI ixN)
section
variable {C D eB : Nat} {h h' : MH} {p dk a b c fi cn lb lo rq n rg M : Nat} {A B : List MV} {L : List (Nat × MV)} {w : Int} {lv : MV} {bs : List (List MV)} {fl : Int}
abbrev opn (bs : List (List MV)) (cn lb lo : Nat) (fl : Int) : RS := run (bs.map unp) lo cn ⟨lb, fl, []⟩
abbrev tlE (bs : List (List MV)) (fl : Int) : List (Nat × MV) := [(fEpo, .int (1 + lmax fl (epos (bs.map unp))))]
theorem ring_len (hbs : ∀ xs ∈ bs, xs.length ≤ M ∧ ∀ x ∈ xs, atS x = true) : ∀ a e f rs, some (a, e, f, rs) ∈ bs.map unp → rs.length ≤ M ∧ (∀ r ∈ rs, 1 ≤ r.length ∧ r.length ≤ 8 ∧ ∀ x ∈ r, atS x = true) := fun a e f rs m => by
  obtain ⟨xs, hx, u⟩ := List.mem_map.mp m
  obtain ⟨x1, x2⟩ := hbs xs hx
  obtain ⟨y1, y2, _⟩ := unp_rec u x2
  exact ⟨by omega, y1⟩
theorem linit_ok (hp : h.get p = some (.ins C [])) (d : Dsk D h dk a b c A B L w lv) (np : p ∉ [dk, a, b, c]) (hb : ∀ k xs, bs[k]? = some xs → B[fi + k]? = some (.tup xs)) (hbs : ∀ xs ∈ bs, xs.length ≤ M ∧ ∀ x ∈ xs, atS x = true) (l : bs.length = cn) (c0 : 0 < cn) (c1 : cn < 1000) (lM : M < 1000) (cM : cn * M < 10000) :
    ∃ h' rq, mLInit C D eB [.ref p, .ref dk, .int (fi : Nat), .int (cn : Nat), .int (lb : Nat), .int (lo : Nat), .int fl] h = .ok .non h' ∧ Lg C h' p dk fi cn lb lo (opn bs cn lb lo fl).nx rq (lo + (opn bs cn lb lo fl).acc.length) (opn bs cn lb lo fl).acc (tlE bs fl) ∧ Kp [p] h h' ∧ h.n ≤ rq := by
  let m0 : ML := [some (.ref p), some (.ref dk), some (.int (fi : Nat)), some (.int (cn : Nat)), some (.int (lb : Nat)), some (.int (lo : Nat)), some (.int fl), none, none, none, none]
  have pl := MH.get_lt hp
  obtain ⟨h1, e1, g1, k1, _⟩ := fset (C := C) (f := fDisk) (v := gVar 1) (m := m0) (y := .ref dk) (h1 := h) .refl hp rfl .refl rfl (by show (0 : Nat) < 900; omega)
  obtain ⟨h2, e2, g2, k2, _⟩ := fset (C := C) (f := fFirst) (v := gVar 2) (m := m0) (y := .int (fi : Nat)) (h1 := h1) k1 g1 rfl .refl rfl (by show (1 : Nat) < 900; omega)
  obtain ⟨h3, e3, g3, k3, _⟩ := fset (C := C) (f := fCount) (v := gVar 3) (m := m0) (y := .int (cn : Nat)) (h1 := h2) k2 g2 rfl .refl rfl (by show (2 : Nat) < 900; omega)
  obtain ⟨h4, e4, g4, k4, _⟩ := fset (C := C) (f := fLowB) (v := gVar 4) (m := m0) (y := .int (lb : Nat)) (h1 := h3) k3 g3 rfl .refl rfl (by show (3 : Nat) < 900; omega)
  obtain ⟨h5, e5, g5, k5, _⟩ := fset (C := C) (f := fLow) (v := gVar 5) (m := m0) (y := .int (lo : Nat)) (h1 := h4) k4 g4 rfl .refl rfl (by show (4 : Nat) < 900; omega)
  obtain ⟨h6, e6, g6, k6, _⟩ := fset (C := C) (f := fNext) (v := gVar 4) (m := m0) (y := .int (lb : Nat)) (h1 := h5) k5 g5 rfl .refl rfl (by show (5 : Nat) < 900; omega)
  obtain ⟨h7, e7, g7, k7, q7⟩ := fset (C := C) (f := fRec) (v := gLst gNil) (m := m0) (y := .ref h6.n) (h1 := h6.push (.lst [])) k6 g6 rfl Up.push rfl (by show (6 : Nat) < 900; omega)
  obtain ⟨h8, e8, g8, k8, q8⟩ := fset (C := C) (f := fSafe) (v := gVar 5) (m := m0) (y := .int (lo : Nat)) (h1 := h7) k7 g7 rfl .refl rfl (by show (7 : Nat) < 900; omega)
  have n6 := k6.n
  have r8 : h8.get h6.n = some (.lst []) := (q7.trans q8).at get_top (by simp; omega)
  have l8 : Lg C h8 p dk fi cn lb lo lb h6.n lo [] [] := ⟨g8, r8⟩
  have n8 := MH.get_lt r8
  obtain ⟨h9, vs, f1', f2, f3⟩ := ring_ok (eB := eB) (m := m0) (d.kp k8 (by
    intro j hj z
    rw [List.mem_singleton] at z
    subst z
    exact np hj)) hb (fun xs hx => ⟨by have := (hbs xs hx).1; omega, (hbs xs hx).2⟩) l c1 (fun _ _ => rfl) (fun _ _ => rfl) rfl (fun _ _ => rfl)
  have l9 := l8.up f3
  have rv : vs.length = cn := by rw [f2.len, List.length_map, l]
  have rL := ring_len hbs
  let m1 : ML := [some (.ref p), some (.ref dk), some (.int (fi : Nat)), some (.int (cn : Nat)), some (.int (lb : Nat)), some (.int (lo : Nat)), some (.int fl), none, some (.ref h8.n), none, none]
  obtain ⟨h10, b1, b2, b3⟩ := rd_ok (B := M) (s := ⟨lb, fl, []⟩) (cn := cn) l9 f2 (by rw [List.length_map, l]) c0 c1 (by omega) (by omega) (by omega) (by omega) (by show 0 + cn * M < 10000; omega) lM (by show (0 : Nat) < 800; omega) (fun a e f rs m => (rL a e f rs m).1)
  have s10 : gExpr (gMeth C nRd (mLRead C) [] 3 (gVar 0) (gCons (gVar 8) (gCons (gVar 6) (gNil)))) m1 h9 = .nx m1 h10 := expr_nx ((meth2 (n := 3) (h1 := h9) (h2 := h9) (h3 := h9) (i := p) rfl l9.ins rfl rfl rfl rfl).trans b1)
  have np' : h8.n ∉ [p, h6.n] := by simp; omega
  have r10 := f2.kp b3 np' (by simp; omega)
  obtain ⟨h11, c2, c3, c4⟩ := epo_ok (m := m1) r10 (by omega) rfl (fun _ _ => rfl)
  let m2 : ML := [some (.ref p), some (.ref dk), some (.int (fi : Nat)), some (.int (cn : Nat)), some (.int (lb : Nat)), some (.int (lo : Nat)), some (.int fl), some (.ref h10.n), some (.ref h8.n), none, none]
  have l11 := b2.up c4
  have ev : gBin mAdd (gC (.int 1)) (gCB (f1 mMaxL) (gCons (gLst (gCons (gVar 6) (gStar (gVar 7) (gNil)))) (gNil))) m2 h11 = .ok (.int (1 + lmax fl (epos (bs.map unp)))) (h11.push (.lst (.int fl :: (epos (bs.map unp)).map .int))) := by
    have v6 : gVar 6 m2 h11 = .ok (.int fl) h11 := rfl
    have v7 : gVar 7 m2 h11 = .ok (.ref h10.n) h11 := rfl
    have sq : seqOf h11 (.ref h10.n) = some ((epos (bs.map unp)).map .int) := by simp [seqOf, c3]
    have mx : mMaxL (.ref h11.n) (h11.push (.lst (.int fl :: (epos (bs.map unp)).map .int))) = .ok (.int (lmax fl (epos (bs.map unp)))) (h11.push (.lst (.int fl :: (epos (bs.map unp)).map .int))) := by
      have iO : intsOf (.int fl :: (epos (bs.map unp)).map .int) = some (fl :: epos (bs.map unp)) := by
        have := ints_map (fl :: epos (bs.map unp))
        exact this
      simp [mMaxL, seqOf, get_top, iO, isL]
    have el : (MV.int fl :: (epos (bs.map unp)).map MV.int).length ≤ 1000000 := by
      have e1 : (epos (bs.map unp)).length ≤ (bs.map unp).length := List.length_filterMap_le _ _
      rw [List.length_map] at e1
      rw [List.length_cons, List.length_map]
      omega
    simp only [gBin, gC, Out.bind, gCB, f1, gCons, gNil, gLst, gStar, v6, v7, sq, List.append_nil, el, if_pos, mx]
    rfl
  have kx : Kp [p] h h10 := (((k8.trans f3.kp).le (G := [p, h6.n]) (by simp)).trans b3).le (by
    intro j hj hl
    simp only [List.mem_cons, List.not_mem_nil, or_false] at hj ⊢
    rcases hj with z | z
    · exact z
    · omega)
  obtain ⟨h12, e12, g12, k12, q12⟩ := fset (C := C) (f := fEpo) (m := m2) (kx.trans c4.kp) l11.ins ev Up.push rfl (by show (8 : Nat) < 900; omega)
  refine ⟨h12, h6.n, body_nx (m := m2) ?_, ⟨g12, q12.at (Up.push.at l11.rl) ?_⟩, k12, n6⟩
  · exact (seq_nx e1).trans ((seq_nx e2).trans ((seq_nx e3).trans ((seq_nx e4).trans ((seq_nx e5).trans ((seq_nx e6).trans ((seq_nx e7).trans ((seq_nx e8).trans ((seq_nx (asg_nx f1')).trans ((seq_nx s10).trans ((seq_nx (asg_nx c2)).trans e12))))))))))
  · simp; omega
end
end LG
set_option Elab.async false
set_option linter.all false
set_option maxRecDepth 100000
set_option maxHeartbeats 4000000
namespace LG
open MI XG XM XK DK PySem
open L2 (atI ixN)
abbrev nRecs : Nat := 9783122105461106636624876568225953874034
abbrev nMany : Nat := 1116028500244747518061
abbrev nRoom : Nat := 1005348040200566079602
abbrev nWrt : Nat := 1953625194408858816601915511
abbrev nBarr : Nat := 9698051554295517142772019439742610309218
abbrev nNum : Nat := 4624391343257609244839718701498478
abbrev nCo : Nat := 2243767335776190373954584675
section
variable (C eG : Nat)
def mLMany : MF := gBody 1 (gRet (gBin mAdd (gFld [C] fLow (gVar 0)) (gCB (f1 mLenV) (gCons (gFld [C] fRec (gVar 0)) (gNil)))))
def mLApp : MF := gBody 2 (gSeq (gExpr (gBM "list" lApp (gFld [C] fRec (gVar 0)) (gCons (gCB (f1 mTuple) (gCons (gVar 1) (gNil))) (gNil)))) (gRet (gBin mSub (gMeth C nMany (mLMany C) [] 1 (gVar 0) gNil) (gC (.int 1)))))
def mLRecs : MF := gBody 2 (gSeq (gIfS (gOr (gB (gBin mLtI (gVar 1) (gFld [C] fLow (gVar 0)))) (gB (gBin mGtI (gVar 1) (gMeth C nMany (mLMany C) [] 1 (gVar 0) gNil)))) (gRaise1 eG nNum (gVar 1)) (gNext)) (gRet (gSl (gFld [C] fRec (gVar 0)) (gPs (gBin mSub (gVar 1) (gFld [C] fLow (gVar 0)))) (gPn))))
def mLRoom : MF := gBody 1 (gRet (gBin mSub (gFld [C] fCount (gVar 0)) (gBin mSub (gFld [C] fNext (gVar 0)) (gFld [C] fLowB (gVar 0)))))
def mLNext : MF := gBody 1 (gRet (gFld [C] fNext (gVar 0)))
def mLEpo : MF := gBody 1 (gRet (gFld [C] fEpo (gVar 0)))
def mLSafe : MF := gBody 1 (gRet (gFld [C] fSafe (gVar 0)))
end
theorem cutR {xs : List (List MV)} {m : Nat} (hm : m ≤ xs.length) : mcut (xs.map MV.tup) (some (m : Int)) none = (xs.drop m).map MV.tup := by
  rw [cutD (by simpa using hm), List.map_drop]
section
variable {C eG : Nat} {h h' : MH} {p dk fi cn lb lo nx rq sf : Nat} {R : List (List MV)} {tl : List (Nat × MV)} {ep : Int}
theorem lmany_ok (d : Lg C h p dk fi cn lb lo nx rq sf R tl) : mLMany C [.ref p] h = .ok (.int ((lo + R.length : Nat) : Int)) h := by
  have f1' : gFld [C] fLow (gVar 0) [some (.ref p)] h = .ok (.int (lo : Nat)) h := fld_at rfl d.ins rfl
  have f2' : gFld [C] fRec (gVar 0) [some (.ref p)] h = .ok (.ref rq) h := fld_at rfl d.ins rfl
  have l := (Sq.ref d.rl).len
  rw [List.length_map] at l
  refine body_rt (v := .int ((lo + R.length : Nat) : Int)) ?_
  show gRet _ [some (.ref p)] h = _
  simp only [gRet, gBin, f1', Out.bind, gCB, f1, gCons, gNil, f2', l, Out.bindS]
  rfl
theorem lnext_ok (d : Lg C h p dk fi cn lb lo nx rq sf R tl) : mLNext C [.ref p] h = .ok (.int (nx : Nat)) h := by
  have f := fld_at (C := C) (f := fNext) (m := [some (.ref p)]) (y := .int (nx : Nat)) rfl d.ins rfl
  refine body_rt (v := .int (nx : Nat)) ?_
  show gRet _ [some (.ref p)] h = _
  simp only [gRet, f, Out.bindS]
theorem lsafe_ok (d : Lg C h p dk fi cn lb lo nx rq sf R tl) : mLSafe C [.ref p] h = .ok (.int (sf : Nat)) h := by
  have f := fld_at (C := C) (f := fSafe) (m := [some (.ref p)]) (y := .int (sf : Nat)) rfl d.ins rfl
  refine body_rt (v := .int (sf : Nat)) ?_
  show gRet _ [some (.ref p)] h = _
  simp only [gRet, f, Out.bindS]
theorem lepo_ok (d : Lg C h p dk fi cn lb lo nx rq sf R [(fEpo, .int ep)]) : mLEpo C [.ref p] h = .ok (.int ep) h := by
  have f := fld_at (C := C) (f := fEpo) (m := [some (.ref p)]) (y := .int ep) rfl d.ins rfl
  refine body_rt (v := .int ep) ?_
  show gRet _ [some (.ref p)] h = _
  simp only [gRet, f, Out.bindS]
theorem lroom_ok (d : Lg C h p dk fi cn lb lo nx rq sf R tl) : mLRoom C [.ref p] h = .ok (.int ((cn : Int) - ((nx : Int) - (lb : Int)))) h := by
  have f1' : gFld [C] fCount (gVar 0) [some (.ref p)] h = .ok (.int (cn : Nat)) h := fld_at rfl d.ins rfl
  have f2' : gFld [C] fNext (gVar 0) [some (.ref p)] h = .ok (.int (nx : Nat)) h := fld_at rfl d.ins rfl
  have f3' : gFld [C] fLowB (gVar 0) [some (.ref p)] h = .ok (.int (lb : Nat)) h := fld_at rfl d.ins rfl
  refine body_rt (v := .int ((cn : Int) - ((nx : Int) - (lb : Int)))) ?_
  show gRet _ [some (.ref p)] h = _
  simp only [gRet, gBin, f1', Out.bind, f2', f3', Out.bindS]
  rfl
theorem lrecs_ok (d : Lg C h p dk fi cn lb lo nx rq sf R [(fEpo, .int ep)]) {k : Nat} (k1 : lo ≤ k) (k2 : k ≤ lo + R.length) : mLRecs C eG [.ref p, .int (k : Nat)] h = .ok (.ref h.n) (h.push (.lst ((R.drop (k - lo)).map .tup))) := by
  have f1' : gFld [C] fLow (gVar 0) [some (.ref p), some (.int (k : Nat))] h = .ok (.int (lo : Nat)) h := fld_at rfl d.ins rfl
  have f2' : gFld [C] fRec (gVar 0) [some (.ref p), some (.int (k : Nat))] h = .ok (.ref rq) h := fld_at rfl d.ins rfl
  have mm : gMeth C nMany (mLMany C) [] 1 (gVar 0) gNil [some (.ref p), some (.int (k : Nat))] h = .ok (.int ((lo + R.length : Nat) : Int)) h := (meth0 (n := 1) rfl d.ins rfl rfl).trans (lmany_ok d)
  have v1 : gVar 1 [some (.ref p), some (.int (k : Nat))] h = .ok (.int (k : Nat)) h := rfl
  have c1 : gB (gBin mLtI (gVar 1) (gFld [C] fLow (gVar 0))) [some (.ref p), some (.int (k : Nat))] h = .ok false h := by
    simp only [gB, gBin, v1, f1', Out.bind, mLtI, mI]
    rw [decide_eq_false (by omega)]
  have c2 : gB (gBin mGtI (gVar 1) (gMeth C nMany (mLMany C) [] 1 (gVar 0) gNil)) [some (.ref p), some (.int (k : Nat))] h = .ok false h := by
    simp only [gB, gBin, v1, mm, Out.bind, mGtI, mI]
    rw [decide_eq_false (by omega)]
  refine body_rt (v := .ref h.n) ((seq_nx (m' := [some (.ref p), some (.int (k : Nat))]) (h' := h) ((ifS_f ((or_f c1).trans c2)).trans rfl)).trans ?_)
  have sq : seqOf h (.ref rq) = some (R.map .tup) := by simp [seqOf, d.rl]
  have sb : gPs (gBin mSub (gVar 1) (gFld [C] fLow (gVar 0))) [some (.ref p), some (.int (k : Nat))] h = .ok (some ((k - lo : Nat) : Int)) h := by
    have : ((k : Int) - (lo : Int)) = ((k - lo : Nat) : Int) := by omega
    simp only [gPs, gBin, v1, f1', Out.bind, mSub, mI]
    rw [this]
  simp only [gRet, gSl, f2', Out.bind, sb, gPn, mSl, isL, if_pos, sq, Out.bindS]
  rw [cutR (by omega)]
theorem lapp_ok (d : Lg C h p dk fi cn lb lo nx rq sf R tl) (tn : tl.lookup nMany = none) (lR : R.length < 900000) {v : MV} {xs : List MV} (s : Sq h v xs) :
    ∃ h', mLApp C [.ref p, v] h = .ok (.int ((lo + R.length : Nat) : Int)) h' ∧ Lg C h' p dk fi cn lb lo nx rq sf (R ++ [xs]) tl ∧ Kp [rq] h h' := by
  have f2' : gFld [C] fRec (gVar 0) [some (.ref p), some v] h = .ok (.ref rq) h := fld_at rfl d.ins rfl
  have ty : isTy h "list" (.ref rq) = true := by simp [isTy, d.rl]
  have v1 : gVar 1 [some (.ref p), some v] h = .ok v h := rfl
  have tp := s.tuple
  have ll : (R.map MV.tup).length < 1000000 := by rw [List.length_map]; omega
  have d1 : Lg C (h.set rq (.lst ((R ++ [xs]).map .tup))) p dk fi cn lb lo nx rq sf (R ++ [xs]) tl := ⟨by rw [set_ne d.rl d.ne]; exact d.ins, set_get d.rl⟩
  have s1 : gExpr (gBM "list" lApp (gFld [C] fRec (gVar 0)) (gCons (gCB (f1 mTuple) (gCons (gVar 1) (gNil))) (gNil))) [some (.ref p), some v] h = .nx [some (.ref p), some v] (h.set rq (.lst ((R ++ [xs]).map .tup))) := by
    refine expr_nx (v := .non) ?_
    simp only [gBM, f2', Out.bind, ty, if_pos, gCons, gNil, gCB, f1, v1, tp, lApp, d.rl, ll, List.map_append, List.map_cons, List.map_nil]
  refine ⟨_, body_rt (v := .int ((lo + R.length : Nat) : Int)) ((seq_nx s1).trans ?_), d1, Kp.set (MH.get_lt d.rl) (by simp)⟩
  have lk : (lfs dk fi cn lb lo nx rq sf tl).lookup nMany = none := tn
  have mm : gMeth C nMany (mLMany C) [] 1 (gVar 0) gNil [some (.ref p), some v] (h.set rq (.lst ((R ++ [xs]).map .tup))) = .ok (.int ((lo + (R ++ [xs]).length : Nat) : Int)) (h.set rq (.lst ((R ++ [xs]).map .tup))) := (meth0 (n := 1) rfl d1.ins lk rfl).trans (lmany_ok d1)
  have e : ((lo + (R ++ [xs]).length : Nat) : Int) - 1 = ((lo + R.length : Nat) : Int) := by rw [List.length_append, List.length_singleton]; omega
  simp only [gRet, gBin, mm, Out.bind, gC, mSub, mI, Out.bindS, e]
end
end LG
set_option Elab.async false
set_option linter.all false
set_option maxRecDepth 100000
set_option maxHeartbeats 4000000
namespace LG
open MI XG XM XK DK PySem
open L2 (atI ixN)
def bPk : MS := gSeq (gAsg (gBin mAdd (gC (.int 1)) (gCB (f1 mLenV) (gCons (gVar 3) (gNil)))) (tgName 2)) (gSeq (gIfS (gB (gBin mGtI (gVar 2) (gVar 1))) (gSeq (gExpr (gBM "list" lApp (gVar 4) (gCons (gLst (gNil)) (gNil)))) (gAsg (gBin mSub (gC (.int 24)) (gC (.int 5))) (tgName 1))) (gNext)) (gSeq (gExpr (gBM "list" lApp (gBin mIx (gVar 4) (gUn mNeg (gC (.int 1)))) (gCons (gVar 3) (gNil)))) (gAug 1 (fun i j => i - j) (gVar 2))))
def mPacks : MF := gBody 5 (gSeq (gAsg (gLst (gNil)) (tgName 4)) (gSeq (gAsg (gC (.int 0)) (tgName 1)) (gSeq (gFor (gIter (gVar 0)) (tgName 3) bPk) (gRet (gVar 4)))))
def bPd : MS := gSeq (gExpr (gBM "list" lApp (gVar 4) (gCons (gCB (f1 mLenV) (gCons (gVar 5) (gNil))) (gNil)))) (gExpr (gBM "list" lExtA (gVar 4) (gCons (gVar 5) (gNil))))
def mPacked : MF := gBody 6 (gSeq (gAsg (gLst (gCons (gC (.str [108, 111, 103])) (gCons (gVar 0) (gCons (gVar 1) (gCons (gVar 2) (gCons (gCB (f1 mLenV) (gCons (gVar 3) (gNil))) (gNil))))))) (tgName 4)) (gSeq (gFor (gIter (gVar 3)) (tgName 5) bPd) (gRet (gCB (f1 mTuple) (gCons (gVar 4) (gNil))))))
def pkS : Nat × List (List (List MV)) → List MV → Nat × List (List (List MV))
  | (_, []), r => (19 - (r.length + 1), [[r]])
  | (l, g :: t), r => if l < r.length + 1 then (19 - (r.length + 1), [r] :: g :: t) else (l - (r.length + 1), (g ++ [r]) :: t)
def pkR (rs : List (List MV)) : Nat × List (List (List MV)) := rs.foldl pkS (0, [])
def pkG (rs : List (List MV)) : List (List (List MV)) := (pkR rs).2.reverse
theorem pkR_snoc (rs : List (List MV)) (r : List MV) : pkR (rs ++ [r]) = pkS (pkR rs) r := by
  unfold pkR
  rw [List.foldl_append]; rfl
theorem pkR_take {rs : List (List MV)} {j : Nat} {r : List MV} (e : rs[j]? = some r) : pkR (rs.take (j + 1)) = pkS (pkR (rs.take j)) r := by
  rw [List.take_succ, e]
  exact pkR_snoc _ _
inductive Gs (h : MH) (n : Nat) : List Nat → List (List (List MV)) → Prop
  | nil : Gs h n [] []
  | cons {q : Nat} {Q : List Nat} {g : List (List MV)} {G : List (List (List MV))} : h.get q = some (.lst (g.map .tup)) → n ≤ q → q ∉ Q → Gs h n Q G → Gs h n (q :: Q) (g :: G)
theorem Gs.kp {h h' : MH} {n : Nat} {F : List Nat} (k : Kp F h h') : ∀ {Q : List Nat} {G : List (List (List MV))}, Gs h n Q G → (∀ j ∈ F, j ∉ Q) → Gs h' n Q G
  | _, _, .nil, _ => .nil
  | _, _, .cons (q := q) g l nq r, f => .cons (k.at g fun z => f q z List.mem_cons_self) l nq (Gs.kp k r fun j hj z => f j hj (List.mem_cons_of_mem _ z))
theorem Gs.len {h : MH} {n : Nat} : ∀ {Q : List Nat} {G : List (List (List MV))}, Gs h n Q G → Q.length = G.length
  | _, _, .nil => rfl
  | _, _, .cons _ _ _ r => by simp [r.len]
theorem Gs.lt {h : MH} {n : Nat} : ∀ {Q : List Nat} {G : List (List (List MV))}, Gs h n Q G → ∀ q ∈ Q, n ≤ q ∧ q < h.n
  | _, _, .nil, _, hq => by cases hq
  | _, _, .cons g l _ r, q, hq => by
    rcases List.mem_cons.mp hq with rfl | z
    · exact ⟨l, MH.get_lt g⟩
    · exact r.lt q z
theorem at_last {xs : List MV} {x : MV} : atI (xs ++ [x]) (-1) = some x := by
  have l : (xs ++ [x]).length = xs.length + 1 := by simp
  unfold atI ixN
  rw [l]
  have h1 : ¬ ((0 : Int) ≤ -1) := by omega
  rw [if_neg h1]
  rw [if_pos (by omega)]
  have : (-1 + ((xs.length + 1 : Nat) : Int)).toNat = xs.length := by omega
  show (xs ++ [x])[(-1 + ((xs.length + 1 : Nat) : Int)).toNat]? = some x
  rw [this, List.getElem?_append_right (Nat.le_refl _), Nat.sub_self]
  rfl
section
variable {h : MH} {n rw : Nat}
abbrev mPk (v : MV) (l : Nat) (o2 o3 : Option MV) (rw : Nat) : ML := [some v, some (.int (l : Nat)), o2, o3, some (.ref rw)]
theorem pk_step {v : MV} {l : Nat} {o2 : Option MV} {r : List MV} {Q : List Nat} {G : List (List (List MV))} (g : h.get rw = some (.lst (Q.reverse.map .ref))) (rn : rw < n) (gs : Gs h n Q G) (hn : n ≤ h.n) (l19 : l ≤ 19) (l0 : G = [] → l = 0) (r8 : r.length ≤ 8) (lG : G.length < 10000) (lg : ∀ g ∈ G, g.length < 10000) :
    ∃ o2' h' Q', bPk (mPk v l o2 (some (.tup r)) rw) h = .nx (mPk v (pkS (l, G) r).1 o2' (some (.tup r)) rw) h' ∧ h'.get rw = some (.lst (Q'.reverse.map .ref)) ∧ Gs h' n Q' (pkS (l, G) r).2 ∧ n ≤ h'.n ∧ ∀ j, j < n → j ≠ rw → h'.get j = h.get j := by
  have lQ := gs.len
  have lr : mLenV (.tup r) h = .ok (.int (r.length : Nat)) h := rfl
  have s1 : gAsg (gBin mAdd (gC (.int 1)) (gCB (f1 mLenV) (gCons (gVar 3) (gNil)))) (tgName 2) (mPk v l o2 (some (.tup r)) rw) h = .nx (mPk v l (some (.int ((r.length + 1 : Nat) : Int))) (some (.tup r)) rw) h := by
    have : (1 : Int) + (r.length : Nat) = ((r.length + 1 : Nat) : Int) := by omega
    show SO.nx (mPk v l (some (.int ((1 : Int) + (r.length : Nat)))) (some (.tup r)) rw) h = _
    rw [this]
  have c1 : gB (gBin mGtI (gVar 2) (gVar 1)) (mPk v l (some (.int ((r.length + 1 : Nat) : Int))) (some (.tup r)) rw) h = .ok (decide ((l : Int) < ((r.length + 1 : Nat) : Int))) h := rfl
  -- the record put behind the last group
  have add : ∀ {h : MH} {l : Nat} {q : Nat} {Q : List Nat} {g : List (List MV)} {G : List (List (List MV))}, h.get rw = some (.lst ((q :: Q).reverse.map .ref)) → Gs h n (q :: Q) (g :: G) → n ≤ h.n → g.length < 10000 → r.length + 1 ≤ l →
      ∃ h', gSeq (gExpr (gBM "list" lApp (gBin mIx (gVar 4) (gUn mNeg (gC (.int 1)))) (gCons (gVar 3) (gNil)))) (gAug 1 (fun i j => i - j) (gVar 2)) (mPk v l (some (.int ((r.length + 1 : Nat) : Int))) (some (.tup r)) rw) h = .nx (mPk v (l - (r.length + 1)) (some (.int ((r.length + 1 : Nat) : Int))) (some (.tup r)) rw) h' ∧ h'.get rw = some (.lst ((q :: Q).reverse.map .ref)) ∧ Gs h' n (q :: Q) ((g ++ [r]) :: G) ∧ n ≤ h'.n ∧ ∀ j, j < n → j ≠ rw → h'.get j = h.get j := by
    intro h l q Q g G gr gs hn lg hl
    cases gs with
    | cons gq nq nQ gs =>
      have qr : rw ≠ q := by omega
      have ix : mIx (.ref rw) (.int (-1)) h = .ok (.ref q) h := by
        have d : isD h (.ref rw) = false := by simp [isD, gr]
        rw [List.reverse_cons, List.map_append] at gr
        have sq : seqOf h (.ref rw) = some (Q.reverse.map MV.ref ++ [q].map MV.ref) := by simp [seqOf, gr]
        simp only [mIx, d, Bool.false_eq_true, if_false, mIxS, sq]
        have := at_last (xs := Q.reverse.map .ref) (x := .ref q)
        simp only [List.map_cons, List.map_nil, this, oV]
      let m : ML := mPk v l (some (.int ((r.length + 1 : Nat) : Int))) (some (.tup r)) rw
      have v4 : gVar 4 m h = .ok (.ref rw) h := rfl
      have v3 : gVar 3 m h = .ok (.tup r) h := rfl
      have ng : gUn mNeg (gC (.int 1)) m h = .ok (.int (-1)) h := rfl
      have ty : isTy h "list" (.ref q) = true := by simp [isTy, gq]
      have ll : (g.map MV.tup).length < 1000000 := by rw [List.length_map]; omega
      have a1 : gExpr (gBM "list" lApp (gBin mIx (gVar 4) (gUn mNeg (gC (.int 1)))) (gCons (gVar 3) (gNil))) m h = .nx m (h.set q (.lst ((g ++ [r]).map .tup))) := by
        refine expr_nx (v := .non) ?_
        simp only [gBM, gBin, v4, ng, ix, Out.bind, ty, if_pos, gCons, gNil, v3, lApp, gq, ll, List.map_append, List.map_cons, List.map_nil]
      have a2 : gAug 1 (fun i j => i - j) (gVar 2) m (h.set q (.lst ((g ++ [r]).map .tup))) = .nx (mPk v (l - (r.length + 1)) (some (.int ((r.length + 1 : Nat) : Int))) (some (.tup r)) rw) (h.set q (.lst ((g ++ [r]).map .tup))) := by
        have : (l : Int) - ((r.length + 1 : Nat) : Int) = ((l - (r.length + 1) : Nat) : Int) := by omega
        show SO.nx (m.set 1 (some (.int ((l : Int) - ((r.length + 1 : Nat) : Int))))) _ = _
        rw [this]; rfl
      have kq : Kp [q] h (h.set q (.lst ((g ++ [r]).map .tup))) := Kp.set (MH.get_lt gq) (by simp)
      refine ⟨_, (seq_nx a1).trans a2, by rw [set_ne gq qr]; exact gr, .cons (set_get gq) nq nQ (gs.kp kq (by simpa using nQ)), hn, fun j hj _ => set_ne gq (by omega)⟩
  -- a new group before
  have new : (l : Int) < ((r.length + 1 : Nat) : Int) → ∃ h', bPk (mPk v l o2 (some (.tup r)) rw) h = .nx (mPk v (19 - (r.length + 1)) (some (.int ((r.length + 1 : Nat) : Int))) (some (.tup r)) rw) h' ∧ h'.get rw = some (.lst ((h.n :: Q).reverse.map .ref)) ∧ Gs h' n (h.n :: Q) ([r] :: G) ∧ n ≤ h'.n ∧ ∀ j, j < n → j ≠ rw → h'.get j = h.get j := fun c => by
    rw [decide_eq_true c] at c1
    let m : ML := mPk v l (some (.int ((r.length + 1 : Nat) : Int))) (some (.tup r)) rw
    have up : Up h (h.push (.lst [])) := Up.push
    have gr1 := up.at g
    have v4 : gVar 4 m h = .ok (.ref rw) h := rfl
    have ty : isTy h "list" (.ref rw) = true := by simp [isTy, g]
    have ty1 : isTy (h.push (.lst [])) "list" (.ref rw) = true := by simp [isTy, gr1]
    have ll : (Q.reverse.map MV.ref).length < 1000000 := by simp; omega
    let h1 := (h.push (.lst [])).set rw (.lst ((h.n :: Q).reverse.map .ref))
    have a1 : gExpr (gBM "list" lApp (gVar 4) (gCons (gLst (gNil)) (gNil))) m h = .nx m h1 := by
      refine expr_nx (v := .non) ?_
      have e : (h.n :: Q).reverse.map MV.ref = Q.reverse.map MV.ref ++ [.ref h.n] := by simp
      have le : gLst gNil m h = .ok (.ref h.n) (h.push (.lst [])) := rfl
      simp only [gBM, v4, Out.bind, ty, ty1, if_pos, gCons, gNil, le, lApp, gr1, ll, h1, e]
    have rl : rw < h.n := MH.get_lt g
    have n1 : h1.get h.n = some (.lst ([] : List MV)) := by
      show ((h.push (.lst [])).set rw _).get h.n = _
      rw [set_ne gr1 (by omega)]; exact get_top
    have kr : Kp [rw] (h.push (.lst [])) h1 := Kp.set (MH.get_lt gr1) (by simp)
    have gs1 : Gs h1 n (h.n :: Q) ([] :: G) := .cons n1 hn (fun z => by have := (gs.lt _ z).2; omega) (gs.kp (up.kp.trans kr) (by
      intro j hj z
      rw [List.mem_singleton] at hj
      subst hj
      have := (gs.lt _ z).1; omega))
    obtain ⟨h2, b1, b2, b3, b4, b5⟩ := add (h := h1) (l := 19) (set_get gr1) gs1 (by show n ≤ h.n + 1; omega) (by simp) (by omega)
    refine ⟨h2, (seq_nx s1).trans ((seq_nx (m' := mPk v 19 (some (.int ((r.length + 1 : Nat) : Int))) (some (.tup r)) rw) (h' := h1) ((ifS_t c1).trans ((seq_nx a1).trans rfl))).trans b1), b2, b3, b4, fun j hj nj => ?_⟩
    rw [b5 j hj nj]
    show ((h.push (.lst [])).set rw _).get j = _
    rw [set_ne gr1 nj]
    exact up.get j (by omega)
  cases G with
  | nil =>
    have := l0 rfl
    subst this
    obtain ⟨h', b1, b2, b3, b4, b5⟩ := new (by omega)
    exact ⟨_, h', _, b1, b2, b3, b4, b5⟩
  | cons g0 G =>
    by_cases c : l < r.length + 1
    · have e : pkS (l, g0 :: G) r = (19 - (r.length + 1), [r] :: g0 :: G) := if_pos c
      rw [e]
      obtain ⟨h', b1, b2, b3, b4, b5⟩ := new (by omega)
      exact ⟨_, h', _, b1, b2, b3, b4, b5⟩
    · have e : pkS (l, g0 :: G) r = (l - (r.length + 1), (g0 ++ [r]) :: G) := if_neg c
      rw [e]
      rw [decide_eq_false (by omega)] at c1
      cases Q with
      | nil => cases gs
      | cons q Q =>
        obtain ⟨h', b1, b2, b3, b4, b5⟩ := add (l := l) g gs hn (lg g0 List.mem_cons_self) (by omega)
        exact ⟨_, h', _, (seq_nx s1).trans ((seq_nx (m' := mPk v l (some (.int ((r.length + 1 : Nat) : Int))) (some (.tup r)) rw) (h' := h) ((ifS_f c1).trans rfl)).trans b1), b2, b3, b4, b5⟩
end
end LG
set_option Elab.async false
set_option linter.all false
set_option maxRecDepth 100000
set_option maxHeartbeats 4000000
namespace LG
open MI XG XM XK DK PySem
open L2 (atI ixN)
def flat (g : List (List MV)) : List MV := g.flatMap fun r => .int (r.length : Nat) :: r
theorem flat_snoc (g : List (List MV)) (r : List MV) : flat (g ++ [r]) = flat g ++ (.int (r.length : Nat) :: r) := by simp [flat]
theorem flat_take {g : List (List MV)} {j : Nat} {r : List MV} (e : g[j]? = some r) : flat (g.take (j + 1)) = flat (g.take j) ++ (.int (r.length : Nat) :: r) := by
  rw [List.take_succ, e]
  exact flat_snoc _ _
theorem flat_len : ∀ {g : List (List MV)}, g.length ≤ (flat g).length
  | [] => Nat.le_refl _
  | r :: g => by
    have := flat_len (g := g)
    show g.length + 1 ≤ (flat (r :: g)).length
    simp [flat] at this ⊢
    omega
structure PkI (pre : List (List MV)) (s : Nat × List (List (List MV))) : Prop where
  le : s.1 ≤ 19
  zero : s.2 = [] → s.1 = 0
  all : s.2.reverse.flatten = pre
  len : s.2.length ≤ pre.length
  sz : ∀ g ∈ s.2, g ≠ [] ∧ (flat g).length ≤ 19
  hd : ∀ g ∈ s.2.head?, (flat g).length + s.1 = 19
theorem PkI.step {pre : List (List MV)} {s : Nat × List (List (List MV))} {r : List MV} (i : PkI pre s) (r8 : r.length ≤ 8) : PkI (pre ++ [r]) (pkS s r) := by
  obtain ⟨l, G⟩ := s
  have one : (flat [r]).length = r.length + 1 := by simp [flat]
  cases G with
  | nil =>
    have a := i.all
    have pe : pre = [] := a.symm
    subst pe
    refine ⟨?_, (fun z => by cases z), rfl, ?_, fun g hg => ?_, fun g hg => ?_⟩
    · show 19 - (r.length + 1) ≤ 19; omega
    · show 1 ≤ ([] ++ [r]).length; simp
    · have : g = [r] := List.mem_singleton.mp hg
      subst this; exact ⟨by simp, by omega⟩
    · have : [r] = g := Option.some.inj hg
      subst this; show (flat [r]).length + (19 - (r.length + 1)) = 19; omega
  | cons g t =>
    have a := i.all
    have il := i.len
    simp only [List.length_cons] at il
    have ih := i.hd g rfl
    have iz := i.sz
    by_cases c : l < r.length + 1
    · have e : pkS (l, g :: t) r = (19 - (r.length + 1), [r] :: g :: t) := if_pos c
      rw [e]
      refine ⟨?_, (fun z => by cases z), ?_, ?_, fun x hx => ?_, fun x hx => ?_⟩
      · show 19 - (r.length + 1) ≤ 19; omega
      · rw [← a]; simp
      · simp; omega
      · rcases List.mem_cons.mp hx with rfl | hx
        · exact ⟨by simp, by omega⟩
        · exact iz x hx
      · have : [r] = x := Option.some.inj hx
        subst this; show (flat [r]).length + (19 - (r.length + 1)) = 19; omega
    · have e : pkS (l, g :: t) r = (l - (r.length + 1), (g ++ [r]) :: t) := if_neg c
      have fl : (flat (g ++ [r])).length = (flat g).length + (r.length + 1) := by rw [flat_snoc, List.length_append]; rfl
      have ih' : (flat g).length + l = 19 := ih
      rw [e]
      refine ⟨?_, (fun z => by cases z), ?_, ?_, fun x hx => ?_, fun x hx => ?_⟩
      · show l - (r.length + 1) ≤ 19; omega
      · rw [← a]; simp
      · simp; omega
      · rcases List.mem_cons.mp hx with rfl | hx
        · exact ⟨by simp, by omega⟩
        · exact iz x (List.mem_cons_of_mem _ hx)
      · have : g ++ [r] = x := Option.some.inj hx
        subst this; show (flat (g ++ [r])).length + (l - (r.length + 1)) = 19; omega
theorem PkI.fold : ∀ (rs : List (List MV)) {pre : List (List MV)} {s : Nat × List (List (List MV))}, PkI pre s → (∀ r ∈ rs, r.length ≤ 8) → PkI (pre ++ rs) (rs.foldl pkS s)
  | [], pre, s, i, _ => by simpa using i
  | r :: rs, pre, s, i, h => by
    have := PkI.fold rs (i.step (h r List.mem_cons_self)) fun r' hr => h r' (List.mem_cons_of_mem _ hr)
    rw [List.append_assoc] at this
    exact this
theorem pk_inv {rs : List (List MV)} (h : ∀ r ∈ rs, r.length ≤ 8) : PkI rs (pkR rs) := by
  have := PkI.fold rs (pre := []) (s := (0, [])) ⟨Nat.zero_le _, fun _ => rfl, rfl, Nat.le_refl _, fun g hg => (by cases hg), fun g hg => (by cases hg)⟩ h
  exact this
theorem flatten_le {g : List (List MV)} : ∀ {G : List (List (List MV))}, g ∈ G → g.length ≤ G.flatten.length
  | [], h => by cases h
  | a :: G, h => by
    rw [List.flatten_cons, List.length_append]
    rcases List.mem_cons.mp h with rfl | h
    · omega
    · have := flatten_le h; omega
theorem packs_ok {h : MH} {v : MV} {rs : List (List MV)} (s : Sq h v (rs.map .tup)) (r8 : ∀ r ∈ rs, r.length ≤ 8) (lr : rs.length < 9000) :
    ∃ h' Q, mPacks [v] h = .ok (.ref h.n) h' ∧ h'.get h.n = some (.lst (Q.reverse.map .ref)) ∧ Gs h' (h.n + 1) Q (pkR rs).2 ∧ Up h h' := by
  let h1 := h.push (.lst [])
  have s1 : gAsg (gLst (gNil)) (tgName 4) [some v, none, none, none, none] h = .nx [some v, none, none, none, some (.ref h.n)] h1 := rfl
  have s2 : gAsg (gC (.int 0)) (tgName 1) [some v, none, none, none, some (.ref h.n)] h1 = .nx (mPk v 0 none none h.n) h1 := rfl
  have sq1 : Sq h1 v (rs.map .tup) := s.up Up.push
  have sv : ∀ {h' : MH}, (∀ j, j < h.n + 1 → j ≠ h.n → h'.get j = h1.get j) → Sq h' v (rs.map .tup) := fun {h'} k => by
    cases s with
    | tup => exact .tup _
    | @ref q xs e =>
      have ql := MH.get_lt e
      exact .ref ((k q (by omega) (by omega)).trans (Up.push.at e))
  obtain ⟨it, t1, t2, t3⟩ := XM.iter_it sq1
  have it1 := t1 (mPk v 0 none none h.n) (gVar 0) rfl
  have at_ : ∀ {h' : MH}, (∀ j, j < h.n + 1 → j ≠ h.n → h'.get j = h1.get j) → ∀ j : Nat, it.at_ j h' = some (rs.map MV.tup)[j]? := fun {h'} k j => t3 h' (sv k) j
  obtain ⟨m', h2, f1', o2, o3, Q, rfl, q1, q2, q3, q4⟩ := for_loop (it := it) (t := tgName 3) (b := bPk) (N := rs.length)
    (fun j m h' => ∃ o2 o3 Q, m = mPk v (pkR (rs.take j)).1 o2 o3 h.n ∧ h'.get h.n = some (.lst (Q.reverse.map .ref)) ∧ Gs h' (h.n + 1) Q (pkR (rs.take j)).2 ∧ h.n + 1 ≤ h'.n ∧ ∀ j, j < h.n + 1 → j ≠ h.n → h'.get j = h1.get j)
    (fun m h' ⟨_, _, _, _, _, _, _, k⟩ => by
      rw [at_ k, List.getElem?_map, List.getElem?_eq_none (Nat.le_refl _)]; rfl)
    (fun j m h' hj ⟨o2, o3, Q, em, a1, a2, a3, a4⟩ => by
      subst em
      have hx : rs[j]? = some rs[j] := List.getElem?_eq_getElem hj
      have iv := pk_inv (rs := rs.take j) fun r hr => r8 r (List.mem_of_mem_take hr)
      have lt' : (rs.take j).length = j := by rw [List.length_take]; omega
      have gl := iv.len
      rw [lt'] at gl
      obtain ⟨o2', h3, Q', b1, b2, b3, b4, b5⟩ := pk_step (v := v) (l := (pkR (rs.take j)).1) (o2 := o2) (r := rs[j]) a1 (by omega) a2 a3 iv.le iv.zero (r8 _ (List.getElem_mem hj)) (by omega) (fun g hg => by
        have := flatten_le (List.mem_reverse.mpr hg)
        rw [iv.all, lt'] at this
        omega)
      refine ⟨.tup rs[j], mPk v (pkR (rs.take j)).1 o2 (some (.tup rs[j])) h.n, h', _, h3, ?_, rfl, b1, o2', some (.tup rs[j]), Q', ?_, b2, ?_, b4, fun i hi ni => (b5 i hi ni).trans (a4 i hi ni)⟩
      · rw [at_ a4, List.getElem?_map, hx]; rfl
      · rw [pkR_take hx]
      · rw [pkR_take hx]; exact b3)
    (rs.length + 1) 0 (mPk v 0 none none h.n) h1 (by omega) (Nat.zero_le _) ⟨none, none, [], rfl, get_top, .nil, Nat.le_refl _, fun _ _ _ => rfl⟩
  rw [List.take_of_length_le (Nat.le_refl _)] at f1' q2
  have fe : gFor (gIter (gVar 0)) (tgName 3) bPk (mPk v 0 none none h.n) h1 = .nx (mPk v (pkR rs).1 o2 o3 h.n) h2 := by
    unfold gFor
    rw [it1]
    simp only [Out.bindS]
    rw [t2, List.length_map]
    exact f1'
  exact ⟨h2, Q, body_rt (v := .ref h.n) ((seq_nx s1).trans ((seq_nx s2).trans ((seq_nx fe).trans rfl))), q1, q2, ⟨by omega, fun j hj => (q4 j (by omega) (by omega)).trans (Up.push.get j hj)⟩⟩
def blk (nx : Nat) (ep : Int) (sf : Nat) (g : List (List MV)) : List MV := .str log :: .int (nx : Nat) :: .int ep :: .int (sf : Nat) :: .int (g.length : Nat) :: flat g
theorem packed_ok {h : MH} {nx sf q : Nat} {ep : Int} {g : List (List MV)} (gq : h.get q = some (.lst (g.map .tup))) (lg : g.length < 1000) (lf : (flat g).length < 9000) :
    ∃ h', mPacked [.int (nx : Nat), .int ep, .int (sf : Nat), .ref q] h = .ok (.tup (blk nx ep sf g)) h' ∧ Up h h' := by
  let hd : List MV := [.str log, .int (nx : Nat), .int ep, .int (sf : Nat), .int (g.length : Nat)]
  let M : Option MV → ML := fun o => [some (.int (nx : Nat)), some (.int ep), some (.int (sf : Nat)), some (.ref q), some (.ref h.n), o]
  have lq := (Sq.ref gq).len
  rw [List.length_map] at lq
  have s1 : gAsg (gLst (gCons (gC (.str [108, 111, 103])) (gCons (gVar 0) (gCons (gVar 1) (gCons (gVar 2) (gCons (gCB (f1 mLenV) (gCons (gVar 3) (gNil))) (gNil))))))) (tgName 4) [some (.int (nx : Nat)), some (.int ep), some (.int (sf : Nat)), some (.ref q), none, none] h = .nx (M none) (h.push (.lst hd)) := by
    refine (asg_nx (v := .ref h.n) (h' := h.push (.lst hd)) ?_).trans rfl
    refine lst5 (h1 := h) (h2 := h) (h3 := h) (h4 := h) (h5 := h) (z := .int ep) (u := .int (sf : Nat)) (w := .int (g.length : Nat)) rfl rfl rfl rfl ?_
    exact lq
  have gq1 : (h.push (.lst hd)).get q = some (.lst (g.map .tup)) := Up.push.at gq
  obtain ⟨it, t1, t2, t3⟩ := XM.iter_it (Sq.ref gq1)
  have it1 := t1 (M none) (gVar 3) rfl
  obtain ⟨m', h2, f1', o, rfl, q1, q2⟩ := for_loop (it := it) (t := tgName 5) (b := bPd) (N := g.length)
    (fun j m h' => ∃ o, m = M o ∧ h'.get h.n = some (.lst (hd ++ flat (g.take j))) ∧ Up h h')
    (fun m h' ⟨_, _, _, u⟩ => by
      rw [t3 h' (Sq.ref (u.at gq)), List.getElem?_map, List.getElem?_eq_none (Nat.le_refl _)]; rfl)
    (fun j m h' hj ⟨o, em, a1, u⟩ => by
      subst em
      have hx : g[j]? = some g[j] := List.getElem?_eq_getElem hj
      let m1 := M (some (.tup g[j]))
      have ty : isTy h' "list" (.ref h.n) = true := by simp [isTy, a1]
      have v4 : ∀ h, gVar 4 m1 h = .ok (.ref _) h := fun h => rfl
      have v5 : ∀ h, gVar 5 m1 h = .ok (.tup g[j]) h := fun h => rfl
      have fj : (flat (g.take j)).length + (g[j].length + 1) ≤ (flat g).length := by
        have e1 : flat g = flat (g.take (j + 1)) ++ flat (g.drop (j + 1)) := by
          unfold flat
          rw [← List.flatMap_append, List.take_append_drop]
        rw [e1, flat_take hx, List.length_append, List.length_append, List.length_cons]
        omega
      have l1 : (hd ++ flat (g.take j)).length < 1000000 := by rw [List.length_append]; show 5 + _ < _; omega
      let h3 := h'.set h.n (.lst (hd ++ flat (g.take j) ++ [.int (g[j].length : Nat)]))
      have a2 : gExpr (gBM "list" lApp (gVar 4) (gCons (gCB (f1 mLenV) (gCons (gVar 5) (gNil))) (gNil))) m1 h' = .nx m1 h3 := by
        refine expr_nx (v := .non) ?_
        have lv : mLenV (.tup g[j]) h' = .ok (.int (g[j].length : Nat)) h' := rfl
        simp only [gBM, v4, v5, Out.bind, ty, if_pos, gCons, gNil, gCB, f1, lv, lApp, a1, l1, h3]
      have a1' : h3.get h.n = some (.lst (hd ++ flat (g.take j) ++ [.int (g[j].length : Nat)])) := set_get a1
      have ty' : isTy h3 "list" (.ref h.n) = true := by simp [isTy, a1']
      have l2 : (hd ++ flat (g.take j) ++ [MV.int (g[j].length : Nat)]).length + g[j].length < 1000000 := by rw [List.length_append, List.length_append]; show 5 + _ + 1 + _ < _; omega
      let h4 := h3.set h.n (.lst (hd ++ flat (g.take j) ++ [.int (g[j].length : Nat)] ++ g[j]))
      have a3 : gExpr (gBM "list" lExtA (gVar 4) (gCons (gVar 5) (gNil))) m1 h3 = .nx m1 h4 := by
        refine expr_nx (v := .non) ?_
        have sq : seqOf h3 (.tup g[j]) = some g[j] := rfl
        have il : isL (.tup g[j]) = false := rfl
        simp only [gBM, v4, v5, Out.bind, ty', if_pos, gCons, gNil, lExtA, lExtR, sq, il, Bool.false_eq_true, if_false, a1', l2, h4]
      refine ⟨.tup g[j], m1, h', m1, h4, ?_, rfl, (seq_nx a2).trans a3, some (.tup g[j]), rfl, ?_, ((u.set (Nat.le_refl _) a1).set (Nat.le_refl _) a1')⟩
      · rw [t3 h' (Sq.ref (u.at gq)), List.getElem?_map, hx]; rfl
      · rw [flat_take hx]
        have e : hd ++ (flat (g.take j) ++ MV.int (g[j].length : Nat) :: g[j]) = hd ++ flat (g.take j) ++ [.int (g[j].length : Nat)] ++ g[j] := by simp
        rw [e]; exact set_get a1')
    (g.length + 1) 0 (M none) (h.push (.lst hd)) (by omega) (Nat.zero_le _) ⟨none, rfl, get_top, Up.push⟩
  rw [List.take_of_length_le (Nat.le_refl _)] at q1
  have fe : gFor (gIter (gVar 3)) (tgName 5) bPd (M none) (h.push (.lst hd)) = .nx (M o) h2 := by
    unfold gFor
    rw [it1]
    simp only [Out.bindS]
    rw [t2, List.length_map]
    exact f1'
  refine ⟨h2, body_rt (v := .tup (blk nx ep sf g)) ((seq_nx s1).trans ((seq_nx fe).trans ?_)), q2⟩
  have tp := (Sq.ref q1).tuple
  show gRet (gCB (f1 mTuple) (gCons (gVar 4) (gNil))) (M o) h2 = _
  have v4 : gVar 4 (M o) h2 = .ok (.ref h.n) h2 := rfl
  simp only [gRet, gCB, f1, gCons, gNil, v4, Out.bind, tp, Out.bindS]
  rfl
end LG
set_option Elab.async false
set_option linter.all false
set_option maxRecDepth 100000
set_option maxHeartbeats 4000000
namespace LG
open MI XG XM XK DK PySem
open L2 (atI ixN)
section
variable (C D eG eF eS eB : Nat)
def bFl : MS := gSeq (gAsg (gBin mAdd (gFld [C] fFirst (gVar 0)) (gBin mMod (gFld [C] fNext (gVar 0)) (gFld [C] fCount (gVar 0)))) (tgName 1)) (gSeq (gExpr (gMeth D nWrt (mDWrite D eS eB) [] 3 (gFld [C] fDisk (gVar 0)) (gCons (gVar 1) (gCons (gCall mPacked [] 4 (gCons (gFld [C] fNext (gVar 0)) (gCons (gFld [C] fEpo (gVar 0)) (gCons (gFld [C] fSafe (gVar 0)) (gCons (gVar 2) (gNil)))))) (gNil))))) (gSeq (gFldAug [C] fNext (fun i j => i + j) (gVar 0) (gC (.int 1))) (gFldAug [C] fSafe (fun i j => i + j) (gVar 0) (gCB (f1 mLenV) (gCons (gVar 2) (gNil))))))
def mFlush : MF := gBody 4 (gSeq (gAsg (gCall mPacks [] 1 (gCons (gMeth C nRecs (mLRecs C eG) [] 2 (gVar 0) (gCons (gFld [C] fSafe (gVar 0)) (gNil))) (gNil))) (tgName 3)) (gSeq (gIfS (gNot (gTru (gVar 3))) (gRetN) (gNext)) (gSeq (gIfS (gB (gBin mGtI (gCB (f1 mLenV) (gCons (gVar 3) (gNil))) (gMeth C nRoom (mLRoom C) [] 1 (gVar 0) gNil))) (gRaise1 eF nCo (gFld [C] fCount (gVar 0))) (gNext)) (gSeq (gFor (gIter (gVar 3)) (tgName 2) (bFl C D eS eB)) (gExpr (gMeth D nBarr (mBarr D eS) [] 1 (gFld [C] fDisk (gVar 0)) gNil))))))
end
theorem call4 {n : Nat} {g : MF} {a b c d : ME} {m : ML} {h h1 h2 h3 h4 : MH} {x y z u : MV} (ea : a m h = .ok x h1) (eb : b m h1 = .ok y h2) (ec : c m h2 = .ok z h3) (ed : d m h3 = .ok u h4) (hn : n = 4) : gCall g [] n (gCons a (gCons b (gCons c (gCons d gNil)))) m h = g [x, y, z, u] h4 := by
  subst hn
  simp [gCall, gCons, gNil, ea, eb, ec, ed, Out.bind]
def wS (fi cn nx : Nat) (ep : Int) (gs : List (List (List MV))) (sf : Nat) (B : List MV) : Nat → Nat × List MV
  | 0 => (sf, B)
  | j + 1 => let s := wS fi cn nx ep gs sf B j
    match gs[j]? with
    | some g => (s.1 + g.length, s.2.set (fi + (nx + j) % cn) (.tup (blk (nx + j) ep s.1 g)))
    | none => s
section
variable {fi cn nx sf : Nat} {ep : Int} {gs : List (List (List MV))} {B : List MV}
theorem wS_len : ∀ j, (wS fi cn nx ep gs sf B j).2.length = B.length
  | 0 => rfl
  | j + 1 => by
    have i := wS_len j
    unfold wS
    cases k : gs[j]? with
    | none => simpa [k] using i
    | some g => simpa [k] using i
theorem wS_at {j : Nat} {g : List (List MV)} (e : gs[j]? = some g) : wS fi cn nx ep gs sf B (j + 1) = ((wS fi cn nx ep gs sf B j).1 + g.length, (wS fi cn nx ep gs sf B j).2.set (fi + (nx + j) % cn) (.tup (blk (nx + j) ep (wS fi cn nx ep gs sf B j).1 g))) := by
  show (match gs[j]? with
    | some g => _
    | none => _) = _
  rw [e]
theorem wS_sf : ∀ j, j ≤ gs.length → (wS fi cn nx ep gs sf B j).1 = sf + (gs.take j).flatten.length
  | 0, _ => by simp [wS]
  | j + 1, h => by
    have hx : gs[j]? = some gs[j] := List.getElem?_eq_getElem (by omega)
    rw [wS_at hx]
    show (wS fi cn nx ep gs sf B j).1 + gs[j].length = _
    rw [wS_sf j (by omega), List.take_succ, hx, List.flatten_append, List.length_append]
    simp
    omega
end
theorem int_at {n : Nat} (h : n < 1000000000000000000000000000000000000000) : atB (.int (n : Nat)) = true := decide_eq_true (by omega)
theorem blk_at {nx sf : Nat} {ep : Int} {g : List (List MV)} (h1 : nx < 1000000000000000000000000000000000000000) (h2 : sf < 1000000000000000000000000000000000000000) (h3 : ep.natAbs < 1000000000000000000000000000000000000000) (lg : g.length < 1000) (lr : ∀ r ∈ g, r.length ≤ 8 ∧ ∀ x ∈ r, atB x = true) : ∀ x ∈ blk nx ep sf g, atB x = true := by
  intro x hx
  unfold blk at hx
  simp only [List.mem_cons] at hx
  rcases hx with rfl | rfl | rfl | rfl | rfl | hx
  · decide
  · exact int_at h1
  · exact decide_eq_true (by omega)
  · exact int_at h2
  · exact int_at (by omega)
  · unfold flat at hx
    obtain ⟨r, hr, hx⟩ := List.mem_flatMap.mp hx
    obtain ⟨l1, l2⟩ := lr r hr
    rcases List.mem_cons.mp hx with rfl | hx
    · exact int_at (by omega)
    · exact l2 x hx
section
variable {C D eG eF eS eB : Nat} {h h' : MH} {p dk a b c fi cn lb lo nx rq sf rw n : Nat} {A B : List MV} {L : List (Nat × MV)} {R : List (List MV)} {w l ep : Int}
theorem fl_stepG {L : List (Nat × MV)} {o1 o2 : Option MV} {q : Nat} {g : List (List MV)} (d : Lg C h p dk fi cn lb lo nx rq sf R [(fEpo, .int ep)]) (k : Dsk D h dk a b c A B L w (lvOf l)) (hl : l ≠ 0) (np : p ≠ dk) (nr : rq ∉ [dk, b, c]) (gq : h.get q = some (.lst (g.map .tup))) (qp : q ∉ [p, dk, b, c]) (c0 : 0 < cn) (fB : fi + cn ≤ B.length) (h1 : nx < 1000000000000000000000000000000000000000) (h2 : sf < 1000000000000000000000000000000000000000) (h3 : ep.natAbs < 1000000000000000000000000000000000000000) (lf : (flat g).length ≤ 19) (lr : ∀ r ∈ g, r.length ≤ 8 ∧ ∀ x ∈ r, atB x = true) (lL : L.length < 100000) :
    ∃ o1' h', bFl C D eS eB [some (.ref p), o1, some (.ref q), some (.ref rw)] h = .nx [some (.ref p), o1', some (.ref q), some (.ref rw)] h' ∧ Lg C h' p dk fi cn lb lo (nx + 1) rq (sf + g.length) R [(fEpo, .int ep)] ∧ Dsk D h' dk a b c A (B.set (fi + nx % cn) (.tup (blk nx ep sf g))) (L ++ [(fi + nx % cn, MV.tup (blk nx ep sf g))]) (w + 1) (lvOf (less l)) ∧ Kp [p, dk, b, c] h h' := by
  have lg : g.length ≤ 19 := Nat.le_trans flat_len lf
  let m : ML := [some (.ref p), o1, some (.ref q), some (.ref rw)]
  let m1 : ML := [some (.ref p), some (.int ((fi + nx % cn : Nat) : Int)), some (.ref q), some (.ref rw)]
  have fF : gFld [C] fFirst (gVar 0) m h = .ok (.int (fi : Nat)) h := fld_at rfl d.ins rfl
  have fN : ∀ {m : ML}, m[0]? = some (some (.ref p)) → gFld [C] fNext (gVar 0) m h = .ok (.int (nx : Nat)) h := fun {m} e => fld_at e d.ins rfl
  have fC : gFld [C] fCount (gVar 0) m h = .ok (.int (cn : Nat)) h := fld_at rfl d.ins rfl
  have fS : gFld [C] fSafe (gVar 0) m1 h = .ok (.int (sf : Nat)) h := fld_at rfl d.ins rfl
  have fE : gFld [C] fEpo (gVar 0) m1 h = .ok (.int ep) h := fld_at rfl d.ins rfl
  have fD : gFld [C] fDisk (gVar 0) m1 h = .ok (.ref dk) h := fld_at rfl d.ins rfl
  have s1 : gAsg (gBin mAdd (gFld [C] fFirst (gVar 0)) (gBin mMod (gFld [C] fNext (gVar 0)) (gFld [C] fCount (gVar 0)))) (tgName 1) m h = .nx m1 h := by
    refine (asg_nx (v := .int ((fi + nx % cn : Nat) : Int)) (h' := h) ?_).trans rfl
    simp only [gBin, fF, fN (m := m) rfl, fC, Out.bind, mod_ok c0]
    rfl
  obtain ⟨hp, p1, p2⟩ := packed_ok (nx := nx) (sf := sf) (ep := ep) gq (by omega) (by omega)
  have pc : gCall mPacked [] 4 (gCons (gFld [C] fNext (gVar 0)) (gCons (gFld [C] fEpo (gVar 0)) (gCons (gFld [C] fSafe (gVar 0)) (gCons (gVar 2) (gNil))))) m1 h = .ok (.tup (blk nx ep sf g)) hp := (call4 (n := 4) (fN (m := m1) rfl) fE fS rfl rfl).trans p1
  have lb' : (blk nx ep sf g).length < 1000 := by show (flat g).length + 5 < 1000; omega
  have pl : fi + nx % cn < B.length := by have := Nat.mod_lt nx c0; omega
  obtain ⟨h4, w1, w2, w3⟩ := write_ok (eS := eS) (eB := eB) (k.up p2) hl pl (.tup (blk nx ep sf g)) (blk_at h1 h2 h3 (by omega) lr) lb' lL
  have s2 : gExpr (gMeth D nWrt (mDWrite D eS eB) [] 3 (gFld [C] fDisk (gVar 0)) (gCons (gVar 1) (gCons (gCall mPacked [] 4 (gCons (gFld [C] fNext (gVar 0)) (gCons (gFld [C] fEpo (gVar 0)) (gCons (gFld [C] fSafe (gVar 0)) (gCons (gVar 2) (gNil)))))) (gNil)))) m1 h = .nx m1 h4 := expr_nx ((meth2 (n := 3) (h1 := h) (h2 := h) (h3 := hp) (i := dk) (x := .int ((fi + nx % cn : Nat) : Int)) fD k.ins rfl rfl pc rfl).trans w1)
  have pb := k.pa
  have pnb : p ∉ [dk, b, c] := by
    intro z
    simp only [List.mem_cons, List.not_mem_nil, or_false] at z
    have i := d.ins
    rcases z with z | z | z
    · exact np z
    · rw [z, k.gb] at i; cases i
    · rw [z, k.gc] at i; cases i
  have d4 := (d.up p2).kp w3 pnb nr
  have a1 := aug_ok (op := fun i j => i + j) (f := fNext) (m := m1) (e := gC (.int 1)) (y := 1) rfl d4.ins rfl rfl (by show (9 : Nat) < 900; omega)
  have i1 : (h4.set p (.ins C (lfs dk fi cn lb lo (nx + 1) rq sf [(fEpo, .int ep)]))).get p = some (.ins C (lfs dk fi cn lb lo (nx + 1) rq sf [(fEpo, .int ep)])) := set_get d4.ins
  have k4 : Kp [p, dk, b, c] h h4 := p2.kp.trans (w3.le (by
    intro j hj _
    simp only [List.mem_cons, List.not_mem_nil, or_false] at hj ⊢
    rcases hj with z | z | z <;> simp [z]))
  have g4 := k4.at gq qp
  have qp' : q ≠ p := fun z => qp (by simp [z])
  have g5 : (h4.set p (.ins C (lfs dk fi cn lb lo (nx + 1) rq sf [(fEpo, .int ep)]))).get q = some (.lst (g.map .tup)) := by rw [set_ne d4.ins qp']; exact g4
  have l8 : gCB (f1 mLenV) (gCons (gVar 2) (gNil)) m1 (h4.set p (.ins C (lfs dk fi cn lb lo (nx + 1) rq sf [(fEpo, .int ep)]))) = .ok (.int (g.length : Nat)) (h4.set p (.ins C (lfs dk fi cn lb lo (nx + 1) rq sf [(fEpo, .int ep)]))) := by
    have := (Sq.ref g5).len
    rw [List.length_map] at this
    exact this
  have a2 := aug_ok (op := fun i j => i + j) (f := fSafe) (m := m1) (y := (g.length : Nat)) rfl i1 rfl l8 (by show (9 : Nat) < 900; omega)
  let h6 := (h4.set p (.ins C (lfs dk fi cn lb lo (nx + 1) rq sf [(fEpo, .int ep)]))).set p (.ins C (lfs dk fi cn lb lo (nx + 1) rq (sf + g.length) [(fEpo, .int ep)]))
  have eq2 : ((h4.set p (.ins C (lfs dk fi cn lb lo (nx + 1) rq sf [(fEpo, .int ep)]))).set p (.ins C (mput fSafe (.int ((fun i j => i + j) ((sf : Nat) : Int) ((g.length : Nat) : Int))) (lfs dk fi cn lb lo (nx + 1) rq sf [(fEpo, .int ep)])))) = h6 := rfl
  have k6 : Kp [p] h4 h6 := (Kp.set (MH.get_lt d4.ins) (by simp)).trans (Kp.set (MH.get_lt i1) (by simp))
  refine ⟨_, h6, (seq_nx s1).trans ((seq_nx s2).trans ((seq_nx (a1.trans rfl)).trans (a2.trans (congrArg (SO.nx m1) eq2)))), ⟨set_get i1, k6.at d4.rl ?_⟩, w2.kp k6 ?_, k4.trans (k6.le (by simp))⟩
  · have := d4.ne
    simpa using fun z => this z.symm
  · intro j hj z
    rw [List.mem_singleton] at z
    subst z
    simp only [List.mem_cons, List.not_mem_nil, or_false] at hj
    have i := d4.ins
    rcases hj with z | z | z | z
    · exact np z
    · rw [z, w2.ga] at i; cases i
    · rw [z, w2.gb] at i; cases i
    · rw [z, w2.gc] at i; cases i
theorem fl_step {L : List (Nat × MV)} {o1 o2 : Option MV} {q : Nat} {g : List (List MV)} (d : Lg C h p dk fi cn lb lo nx rq sf R [(fEpo, .int ep)]) (k : Dsk D h dk a b c A B L w (lvOf l)) (hl : l < 0) (np : p ≠ dk) (nr : rq ∉ [dk, b, c]) (gq : h.get q = some (.lst (g.map .tup))) (qp : q ∉ [p, dk, b, c]) (c0 : 0 < cn) (fB : fi + cn ≤ B.length) (h1 : nx < 1000000000000000000000000000000000000000) (h2 : sf < 1000000000000000000000000000000000000000) (h3 : ep.natAbs < 1000000000000000000000000000000000000000) (lf : (flat g).length ≤ 19) (lr : ∀ r ∈ g, r.length ≤ 8 ∧ ∀ x ∈ r, atB x = true) (lL : L.length < 100000) :
    ∃ o1' h', bFl C D eS eB [some (.ref p), o1, some (.ref q), some (.ref rw)] h = .nx [some (.ref p), o1', some (.ref q), some (.ref rw)] h' ∧ Lg C h' p dk fi cn lb lo (nx + 1) rq (sf + g.length) R [(fEpo, .int ep)] ∧ Dsk D h' dk a b c A (B.set (fi + nx % cn) (.tup (blk nx ep sf g))) (L ++ [(fi + nx % cn, MV.tup (blk nx ep sf g))]) (w + 1) (lvOf l) ∧ Kp [p, dk, b, c] h h' := by
  have := fl_stepG (eS := eS) (eB := eB) (o1 := o1) (o2 := o2) (rw := rw) d k (by omega) np nr gq qp c0 fB h1 h2 h3 lf lr lL
  rw [show less l = l from if_neg (by omega)] at this
  exact this
end
end LG
set_option Elab.async false
set_option linter.all false
set_option maxRecDepth 100000
set_option maxHeartbeats 4000000
namespace LG
open MI XG XM XK DK PySem
open L2 (atI ixN)
theorem Gs.at_ {h : MH} {n : Nat} : ∀ {Q : List Nat} {G : List (List (List MV))}, Gs h n Q G → ∀ i : Nat, i < G.length → ∃ q g, Q[i]? = some q ∧ G[i]? = some g ∧ h.get q = some (.lst (g.map .tup))
  | _, _, .nil, i, hi => by cases hi
  | _, _, .cons (q := q) (g := g) e _ _ r, 0, _ => ⟨q, g, rfl, rfl, e⟩
  | _, _, .cons _ _ _ r, i + 1, hi => r.at_ i (by simpa using hi)
theorem Gs.rev {h : MH} {n : Nat} {Q : List Nat} {G : List (List (List MV))} (gs : Gs h n Q G) (i : Nat) (hi : i < G.length) : ∃ q g, Q.reverse[i]? = some q ∧ G.reverse[i]? = some g ∧ h.get q = some (.lst (g.map .tup)) ∧ q ∈ Q := by
  obtain ⟨q, g, a, b, c⟩ := gs.at_ (G.length - 1 - i) (by omega)
  have l := gs.len
  refine ⟨q, g, ?_, ?_, c, List.mem_of_getElem? a⟩
  · rw [List.getElem?_reverse (by omega), l]; exact a
  · rw [List.getElem?_reverse hi]; exact b
section
variable {C D eG eF eS eB : Nat} {h h' : MH} {p dk a b c fi cn lb lo nx rq sf rw n : Nat} {A B : List MV} {L : List (Nat × MV)} {R : List (List MV)} {w l ep : Int}
theorem pkG_of {rs : List (List MV)} (r8 : ∀ r ∈ rs, r.length ≤ 8) : (pkG rs).flatten = rs ∧ (∀ g ∈ pkG rs, g ≠ [] ∧ (flat g).length ≤ 19) ∧ (pkG rs).length ≤ rs.length := by
  have i := pk_inv r8
  refine ⟨i.all, fun g hg => i.sz g (List.mem_reverse.mp hg), ?_⟩
  show (pkR rs).2.reverse.length ≤ _
  rw [List.length_reverse]
  exact i.len
theorem rows_ok (d : Lg C h p dk fi cn lb lo nx rq sf R [(fEpo, .int ep)]) (s1 : lo ≤ sf) (s2 : sf ≤ lo + R.length) (r8 : ∀ r ∈ R, r.length ≤ 8) (lR : R.length < 9000) :
    ∃ h' Q rw, gAsg (gCall mPacks [] 1 (gCons (gMeth C nRecs (mLRecs C eG) [] 2 (gVar 0) (gCons (gFld [C] fSafe (gVar 0)) (gNil))) (gNil))) (tgName 3) [some (.ref p), none, none, none] h = .nx [some (.ref p), none, none, some (.ref rw)] h' ∧ h'.get rw = some (.lst (Q.reverse.map .ref)) ∧ h.n ≤ rw ∧ Gs h' h.n Q (pkR (R.drop (sf - lo))).2 ∧ Up h h' := by
  have fS : gFld [C] fSafe (gVar 0) [some (.ref p), none, none, none] h = .ok (.int (sf : Nat)) h := fld_at rfl d.ins rfl
  have rc : gMeth C nRecs (mLRecs C eG) [] 2 (gVar 0) (gCons (gFld [C] fSafe (gVar 0)) (gNil)) [some (.ref p), none, none, none] h = .ok (.ref h.n) (h.push (.lst ((R.drop (sf - lo)).map .tup))) := (meth1 (n := 2) rfl d.ins rfl fS rfl).trans (lrecs_ok (eG := eG) d s1 s2)
  obtain ⟨h', Q, a1, a2, a3, a4⟩ := packs_ok (h := h.push (.lst ((R.drop (sf - lo)).map .tup))) (.ref get_top) (fun r hr => r8 r (List.mem_of_mem_drop hr)) (by rw [List.length_drop]; omega)
  refine ⟨h', Q, _, asg_nx ((call1 (n := 1) rc rfl).trans a1), a2, by show h.n ≤ h.n + 1; omega, ?_, Up.push.trans a4⟩
  have : ∀ {Q : List Nat} {G : List (List (List MV))}, Gs h' ((h.push (.lst ((R.drop (sf - lo)).map .tup))).n + 1) Q G → Gs h' h.n Q G := by
    intro Q G gs
    induction gs with
    | nil => exact .nil
    | cons g l nq r ih => exact .cons g (by have : h.n + 1 + 1 ≤ _ := l; omega) nq ih
  exact this a3
theorem flush_ok (d : Lg C h p dk fi cn lb lo nx rq sf R [(fEpo, .int ep)]) (k : Dsk D h dk a b c A B L w (lvOf l)) (hl : l < 0) (np : p ≠ dk) (nr : rq ∉ [dk, b, c]) (s1 : lo ≤ sf) (s2 : sf ≤ lo + R.length) (r8 : ∀ r ∈ R, r.length ≤ 8 ∧ ∀ x ∈ r, atB x = true) (lR : R.length < 9000) (c0 : 0 < cn) (fB : fi + cn ≤ B.length)
    (h1 : nx < 100000000000000000000000000000000000000) (h2 : lo < 100000000000000000000000000000000000000) (h3 : ep.natAbs < 1000000000000000000000000000000000000000) (lL : L.length < 90000)
    {gs : List (List (List MV))} (eg : gs = pkG (R.drop (sf - lo))) (ne : gs ≠ []) (room : nx + gs.length ≤ cn + lb) :
    ∃ h' a' b' c', mFlush C D eG eF eS eB [.ref p] h = .ok .non h' ∧ Lg C h' p dk fi cn lb lo (nx + gs.length) rq (lo + R.length) R [(fEpo, .int ep)] ∧ Dsk D h' dk a' b' c' (wS fi cn nx ep gs sf B gs.length).2 (wS fi cn nx ep gs sf B gs.length).2 [] (w + gs.length) (lvOf l) ∧ Kp [p, dk, b, c] h h' ∧ h.n ≤ a' ∧ h.n ≤ b' ∧ h.n ≤ c' := by
  obtain ⟨hr, Q, rw, e1, gr, rwn, gS, ur⟩ := rows_ok (eG := eG) d s1 s2 (fun r hr => (r8 r hr).1) lR
  have d1 := d.up ur
  have k1 := k.up ur
  have eg' : gs = (pkR (R.drop (sf - lo))).2.reverse := eg
  have lQ := gS.len
  have lgs : gs.length = (pkR (R.drop (sf - lo))).2.length := by rw [eg', List.length_reverse]
  obtain ⟨pf, pz, pl⟩ := pkG_of (rs := R.drop (sf - lo)) fun r hr => (r8 r (List.mem_of_mem_drop hr)).1
  rw [← eg] at pf pz pl
  rw [List.length_drop] at pl
  have lpr : Q.reverse.length = gs.length := by rw [List.length_reverse, lQ, lgs]
  have glen := (Sq.ref gr).len
  rw [List.length_map, lpr] at glen
  have g0 : gs.length ≠ 0 := fun z => ne (List.length_eq_zero_iff.mp z)
  let m : ML := [some (.ref p), none, none, some (.ref rw)]
  have t1 : gNot (gTru (gVar 3)) m hr = .ok false hr := by
    have v3 : gVar 3 m hr = .ok (.ref rw) hr := rfl
    have em : (Q.reverse.map MV.ref).isEmpty = false := by
      rw [List.isEmpty_eq_false_iff]
      intro z
      have := congrArg List.length z
      rw [List.length_map, lpr] at this
      exact g0 this
    simp only [gNot, gTru, v3, Out.bind, mTru, gr, em, Bool.not_false, Bool.not_true]
  have rm : gMeth C nRoom (mLRoom C) [] 1 (gVar 0) gNil m hr = .ok (.int ((cn : Int) - ((nx : Int) - (lb : Int)))) hr := (meth0 (n := 1) rfl d1.ins rfl rfl).trans (lroom_ok d1)
  have t2 : gB (gBin mGtI (gCB (f1 mLenV) (gCons (gVar 3) (gNil))) (gMeth C nRoom (mLRoom C) [] 1 (gVar 0) gNil)) m hr = .ok false hr := by
    have v3 : gVar 3 m hr = .ok (.ref rw) hr := rfl
    simp only [gB, gBin, gCB, f1, gCons, gNil, v3, Out.bind, glen, rm, mGtI, mI]
    rw [decide_eq_false (by omega)]
  obtain ⟨it, i1, i2, i3⟩ := XM.iter_it (Sq.ref gr)
  have it1 := i1 m (gVar 3) rfl
  have pb := k.pa
  have pnb : p ∉ [dk, b, c] := by
    intro z
    simp only [List.mem_cons, List.not_mem_nil, or_false] at z
    have i := d.ins
    rcases z with z | z | z
    · exact np z
    · rw [z, k.gb] at i; cases i
    · rw [z, k.gc] at i; cases i
  have old : ∀ j ∈ [p, dk, b, c], j < h.n := by
    intro j hj
    simp only [List.mem_cons, List.not_mem_nil, or_false] at hj
    rcases hj with rfl | rfl | rfl | rfl
    · exact MH.get_lt d.ins
    · exact MH.get_lt k.ins
    · exact MH.get_lt k.gb
    · exact MH.get_lt k.gc
  have rwF : rw ∉ [p, dk, b, c] := fun z => by have := old _ z; omega
  obtain ⟨m', h6, f1', o1, o2, em, d6, ⟨L', k6, l6⟩, q6⟩ := for_loop (it := it) (t := tgName 2) (b := bFl C D eS eB) (N := gs.length)
    (fun j m h' => ∃ o1 o2, m = [some (.ref p), o1, o2, some (.ref rw)] ∧ Lg C h' p dk fi cn lb lo (nx + j) rq (wS fi cn nx ep gs sf B j).1 R [(fEpo, .int ep)] ∧ (∃ L', Dsk D h' dk a b c A (wS fi cn nx ep gs sf B j).2 L' (w + (j : Nat)) (lvOf l) ∧ L'.length = L.length + j) ∧ Kp [p, dk, b, c] hr h')
    (fun m h' ⟨_, _, _, _, _, q⟩ => by
      rw [i3 h' (Sq.ref (q.at gr rwF)), List.getElem?_map, List.getElem?_eq_none (by rw [lpr]; exact Nat.le_refl _)]; rfl)
    (fun j m h' hj ⟨o1, o2, em, dj, ⟨L', kj, lj⟩, q⟩ => by
      subst em
      obtain ⟨q0, g, x1, x2, x3, x4⟩ := gS.rev j (by omega)
      rw [← eg'] at x2
      have xq := gS.lt q0 x4
      have qF : q0 ∉ [p, dk, b, c] := fun z => by have := old _ z; omega
      have gm := List.mem_of_getElem? x2
      obtain ⟨_, gz⟩ := pz g gm
      have gf := flatten_le gm
      have sfj := wS_sf (fi := fi) (cn := cn) (nx := nx) (sf := sf) (ep := ep) (gs := gs) (B := B) j (by omega)
      have tl : (gs.take j).flatten.length ≤ gs.flatten.length := by
        conv => rhs; rw [← List.take_append_drop j gs, List.flatten_append, List.length_append]
        omega
      rw [pf, List.length_drop] at tl
      obtain ⟨o1', h7, b1, b2, b3, b4⟩ := fl_step (eS := eS) (eB := eB) (o1 := o1) (o2 := o2) (rw := rw) dj kj hl np nr (q.at x3 qF) qF c0 (by rw [wS_len]; exact fB) (by omega) (by omega) h3 gz (fun r hr => by
        have : r ∈ gs.flatten := List.mem_flatten.mpr ⟨g, gm, hr⟩
        rw [pf] at this
        exact r8 r (List.mem_of_mem_drop this)) (by omega)
      refine ⟨.ref q0, [some (.ref p), o1, some (.ref q0), some (.ref rw)], h', _, h7, ?_, rfl, b1, o1', some (.ref q0), rfl, ?_, ⟨L' ++ [(fi + (nx + j) % cn, MV.tup (blk (nx + j) ep (wS fi cn nx ep gs sf B j).1 g))], ?_, ?_⟩, q.trans b4⟩
      · rw [i3 h' (Sq.ref (q.at gr rwF)), List.getElem?_map, x1]; rfl
      · rw [wS_at x2]; exact b2
      · rw [wS_at x2]
        have : w + ((j + 1 : Nat) : Int) = w + (j : Nat) + 1 := by omega
        rw [this]; exact b3
      · rw [List.length_append, lj]; rfl)
    (gs.length + 1) 0 m hr (by omega) (Nat.zero_le _) ⟨none, none, rfl, d1, ⟨L, by simpa [wS] using k1, rfl⟩, .refl⟩
  subst em
  have fe : gFor (gIter (gVar 3)) (tgName 2) (bFl C D eS eB) m hr = .nx [some (.ref p), o1, o2, some (.ref rw)] h6 := by
    unfold gFor
    rw [it1]
    simp only [Out.bindS]
    rw [i2, List.length_map, lpr]
    exact f1'
  have esf := wS_sf (fi := fi) (cn := cn) (nx := nx) (sf := sf) (ep := ep) (gs := gs) (B := B) gs.length (Nat.le_refl _)
  rw [List.take_of_length_le (Nat.le_refl _), pf, List.length_drop] at esf
  have esf' : (wS fi cn nx ep gs sf B gs.length).1 = lo + R.length := by omega
  rw [esf'] at d6
  have fD : gFld [C] fDisk (gVar 0) [some (.ref p), o1, o2, some (.ref rw)] h6 = .ok (.ref dk) h6 := fld_at rfl d6.ins rfl
  obtain ⟨h7, a', b', c', y1, y2, y3, y4, y5, y6⟩ := barr_ok (eS := eS) k6 (by omega)
  have less_l : less l = l := if_neg (by omega)
  rw [less_l] at y2
  have s7 : gExpr (gMeth D nBarr (mBarr D eS) [] 1 (gFld [C] fDisk (gVar 0)) gNil) [some (.ref p), o1, o2, some (.ref rw)] h6 = .nx [some (.ref p), o1, o2, some (.ref rw)] h7 := expr_nx ((meth0 (n := 1) fD k6.ins rfl rfl).trans y1)
  have un := ur.n
  have qn := q6.n
  refine ⟨h7, a', b', c', body_nx ((seq_nx e1).trans ((seq_nx (m' := m) (h' := hr) ((ifS_f t1).trans rfl)).trans ((seq_nx (m' := m) (h' := hr) ((ifS_f t2).trans rfl)).trans ((seq_nx fe).trans s7)))), d6.kp y3 (by simpa using np) (by simpa using fun z => nr (by simp [z])), y2, (ur.kp.trans q6).trans (y3.le (by simp)), by omega, by omega, by omega⟩
end
end LG
set_option Elab.async false
set_option linter.all false
set_option maxRecDepth 100000
set_option maxHeartbeats 4000000
namespace LG
open MI XG XM XK DK PySem
open L2 (atI ixN)
theorem for_er2 {it : It1} {t : MG} {b : MS} {K : Nat} {x0 : MX} (P : MH → Prop) (Q : Nat → ML → MH → Prop)
    (hstep : ∀ i m h, i < K → Q i m h → ∃ x m1 h1 m2 h2, it.at_ i h = some (some x) ∧ t x m h = .nx m1 h1 ∧ b m1 h1 = .nx m2 h2 ∧ Q (i + 1) m2 h2)
    (herr : ∀ m h, Q K m h → ∃ x m1 h1 hE, it.at_ K h = some (some x) ∧ t x m h = .nx m1 h1 ∧ b m1 h1 = .er x0 hE ∧ P hE) :
    ∀ (n i : Nat) (m : ML) (h : MH), K < i + n → i ≤ K → Q i m h → ∃ hE, gForN it t b n i m h = .er x0 hE ∧ P hE
  | 0, i, m, h, e0, hi, _ => by omega
  | n + 1, i, m, h, e0, hi, q => by
    unfold gForN
    by_cases hiN : i = K
    · subst hiN
      obtain ⟨x, m1, h1, hE, a1, a2, a3, a4⟩ := herr m h q
      rw [a1]
      simp only [a2, a3]
      exact ⟨hE, rfl, a4⟩
    · obtain ⟨x, m1, h1, m2, h2, a1, a2, a3, a4⟩ := hstep i m h (by omega) q
      rw [a1]
      simp only [a2, a3]
      exact for_er2 P Q hstep herr n (i + 1) m2 h2 (by omega) (by omega) a4
def wL (fi cn nx : Nat) (ep : Int) (gs : List (List (List MV))) (sf : Nat) (B : List MV) : Nat → List (Nat × MV)
  | 0 => []
  | j + 1 => wL fi cn nx ep gs sf B j ++ match gs[j]? with
    | some g => [(fi + (nx + j) % cn, .tup (blk (nx + j) ep (wS fi cn nx ep gs sf B j).1 g))]
    | none => []
section
variable {fi cn nx sf : Nat} {ep : Int} {gs : List (List (List MV))} {B : List MV}
theorem wL_at {j : Nat} {g : List (List MV)} (e : gs[j]? = some g) : wL fi cn nx ep gs sf B (j + 1) = wL fi cn nx ep gs sf B j ++ [(fi + (nx + j) % cn, .tup (blk (nx + j) ep (wS fi cn nx ep gs sf B j).1 g))] := by
  show wL fi cn nx ep gs sf B j ++ (match gs[j]? with
    | some g => _
    | none => _) = _
  rw [e]
theorem wL_len : ∀ j, j ≤ gs.length → (wL fi cn nx ep gs sf B j).length = j
  | 0, _ => rfl
  | j + 1, h => by
    have hx : gs[j]? = some gs[j] := List.getElem?_eq_getElem (by omega)
    rw [wL_at hx, List.length_append, wL_len j (by omega)]; rfl
end
section
variable {C D eG eF eS eB : Nat} {h h' : MH} {p dk a b c fi cn lb lo nx rq sf rw n : Nat} {A B : List MV} {R : List (List MV)} {w ep : Int}
theorem fl_er {L : List (Nat × MV)} {o1 o2 : Option MV} {q : Nat} {g : List (List MV)} (d : Lg C h p dk fi cn lb lo nx rq sf R [(fEpo, .int ep)]) (k : Dsk D h dk a b c A B L w (lvOf 0)) (gq : h.get q = some (.lst (g.map .tup))) (c0 : 0 < cn) (fB : fi + cn ≤ B.length) (lf : (flat g).length ≤ 19) :
    ∃ h', bFl C D eS eB [some (.ref p), o1, some (.ref q), some (.ref rw)] h = .er (.own eS [] []) h' ∧ Up h h' := by
  have lg : g.length ≤ 19 := Nat.le_trans flat_len lf
  let m : ML := [some (.ref p), o1, some (.ref q), some (.ref rw)]
  let m1 : ML := [some (.ref p), some (.int ((fi + nx % cn : Nat) : Int)), some (.ref q), some (.ref rw)]
  have fF : gFld [C] fFirst (gVar 0) m h = .ok (.int (fi : Nat)) h := fld_at rfl d.ins rfl
  have fN : ∀ {m : ML}, m[0]? = some (some (.ref p)) → gFld [C] fNext (gVar 0) m h = .ok (.int (nx : Nat)) h := fun {m} e => fld_at e d.ins rfl
  have fC : gFld [C] fCount (gVar 0) m h = .ok (.int (cn : Nat)) h := fld_at rfl d.ins rfl
  have fS : gFld [C] fSafe (gVar 0) m1 h = .ok (.int (sf : Nat)) h := fld_at rfl d.ins rfl
  have fE : gFld [C] fEpo (gVar 0) m1 h = .ok (.int ep) h := fld_at rfl d.ins rfl
  have fD : gFld [C] fDisk (gVar 0) m1 h = .ok (.ref dk) h := fld_at rfl d.ins rfl
  have s1 : gAsg (gBin mAdd (gFld [C] fFirst (gVar 0)) (gBin mMod (gFld [C] fNext (gVar 0)) (gFld [C] fCount (gVar 0)))) (tgName 1) m h = .nx m1 h := by
    refine (asg_nx (v := .int ((fi + nx % cn : Nat) : Int)) (h' := h) ?_).trans rfl
    simp only [gBin, fF, fN (m := m) rfl, fC, Out.bind, mod_ok c0]
    rfl
  obtain ⟨hp, p1, p2⟩ := packed_ok (nx := nx) (sf := sf) (ep := ep) gq (by omega) (by omega)
  have pc : gCall mPacked [] 4 (gCons (gFld [C] fNext (gVar 0)) (gCons (gFld [C] fEpo (gVar 0)) (gCons (gFld [C] fSafe (gVar 0)) (gCons (gVar 2) (gNil))))) m1 h = .ok (.tup (blk nx ep sf g)) hp := (call4 (n := 4) (fN (m := m1) rfl) fE fS rfl rfl).trans p1
  have pl : fi + nx % cn < B.length := by have := Nat.mod_lt nx c0; omega
  have we := write_st (eS := eS) (eB := eB) (k.up p2) (v := .tup (blk nx ep sf g)) pl
  exact ⟨hp, (seq_nx s1).trans (DK.seq_er (DK.expr_er ((meth2 (n := 3) (h1 := h) (h2 := h) (h3 := hp) (i := dk) (x := .int ((fi + nx % cn : Nat) : Int)) fD k.ins rfl rfl pc rfl).trans we))), p2⟩
theorem flush_erL (d : Lg C h p dk fi cn lb lo nx rq sf R [(fEpo, .int ep)]) {done : Nat} (k : Dsk D h dk a b c A B [] w (lvOf (done : Nat))) (np : p ≠ dk) (nr : rq ∉ [dk, b, c]) (s1 : lo ≤ sf) (s2 : sf ≤ lo + R.length) (r8 : ∀ r ∈ R, r.length ≤ 8 ∧ ∀ x ∈ r, atB x = true) (lR : R.length < 9000) (c0 : 0 < cn) (fB : fi + cn ≤ B.length)
    (h1 : nx < 100000000000000000000000000000000000000) (h2 : lo < 100000000000000000000000000000000000000) (h3 : ep.natAbs < 1000000000000000000000000000000000000000)
    {gs : List (List (List MV))} (eg : gs = pkG (R.drop (sf - lo))) (ne : gs ≠ []) (hd : done ≤ gs.length) (room : nx + gs.length ≤ cn + lb) :
    ∃ h' w', mFlush C D eG eF eS eB [.ref p] h = .er (.own eS [] []) h' ∧ Dsk D h' dk a b c A (wS fi cn nx ep gs sf B done).2 (wL fi cn nx ep gs sf B done) w' (lvOf 0) ∧ Kp [p, dk, b, c] h h' ∧ ∃ nx' sf', Lg C h' p dk fi cn lb lo nx' rq sf' R [(fEpo, .int ep)] := by
  obtain ⟨hr, Q, rw, e1, gr, rwn, gS, ur⟩ := rows_ok (eG := eG) d s1 s2 (fun r hr => (r8 r hr).1) lR
  have d1 := d.up ur
  have k1 := k.up ur
  have eg' : gs = (pkR (R.drop (sf - lo))).2.reverse := eg
  have lQ := gS.len
  have lgs : gs.length = (pkR (R.drop (sf - lo))).2.length := by rw [eg', List.length_reverse]
  obtain ⟨pf, pz, pl⟩ := pkG_of (rs := R.drop (sf - lo)) fun r hr => (r8 r (List.mem_of_mem_drop hr)).1
  rw [← eg] at pf pz pl
  rw [List.length_drop] at pl
  have lpr : Q.reverse.length = gs.length := by rw [List.length_reverse, lQ, lgs]
  have glen := (Sq.ref gr).len
  rw [List.length_map, lpr] at glen
  have g0 : gs.length ≠ 0 := fun z => ne (List.length_eq_zero_iff.mp z)
  let m : ML := [some (.ref p), none, none, some (.ref rw)]
  have t1 : gNot (gTru (gVar 3)) m hr = .ok false hr := by
    have v3 : gVar 3 m hr = .ok (.ref rw) hr := rfl
    have em : (Q.reverse.map MV.ref).isEmpty = false := by
      rw [List.isEmpty_eq_false_iff]
      intro z
      have := congrArg List.length z
      rw [List.length_map, lpr] at this
      exact g0 this
    simp only [gNot, gTru, v3, Out.bind, mTru, gr, em, Bool.not_false, Bool.not_true]
  have rm : gMeth C nRoom (mLRoom C) [] 1 (gVar 0) gNil m hr = .ok (.int ((cn : Int) - ((nx : Int) - (lb : Int)))) hr := (meth0 (n := 1) rfl d1.ins rfl rfl).trans (lroom_ok d1)
  have t2 : gB (gBin mGtI (gCB (f1 mLenV) (gCons (gVar 3) (gNil))) (gMeth C nRoom (mLRoom C) [] 1 (gVar 0) gNil)) m hr = .ok false hr := by
    have v3 : gVar 3 m hr = .ok (.ref rw) hr := rfl
    simp only [gB, gBin, gCB, f1, gCons, gNil, v3, Out.bind, glen, rm, mGtI, mI]
    rw [decide_eq_false (by omega)]
  obtain ⟨it, i1, i2, i3⟩ := XM.iter_it (Sq.ref gr)
  have it1 := i1 m (gVar 3) rfl
  have old : ∀ j ∈ [p, dk, b, c], j < h.n := by
    intro j hj
    simp only [List.mem_cons, List.not_mem_nil, or_false] at hj
    rcases hj with rfl | rfl | rfl | rfl
    · exact MH.get_lt d.ins
    · exact MH.get_lt k.ins
    · exact MH.get_lt k.gb
    · exact MH.get_lt k.gc
  have rwF : rw ∉ [p, dk, b, c] := fun z => by have := old _ z; omega
  have un := ur.n
  let S : Nat → ML → MH → Prop := fun j m h' => ∃ o1 o2, m = [some (.ref p), o1, o2, some (.ref rw)] ∧ Lg C h' p dk fi cn lb lo (nx + j) rq (wS fi cn nx ep gs sf B j).1 R [(fEpo, .int ep)] ∧ Dsk D h' dk a b c A (wS fi cn nx ep gs sf B j).2 (wL fi cn nx ep gs sf B j) (w + (j : Nat)) (lvOf ((done : Int) - (j : Nat))) ∧ Kp [p, dk, b, c] hr h'
  have at_ : ∀ {j : Nat} {h' : MH}, Kp [p, dk, b, c] hr h' → j < gs.length → ∃ q g, it.at_ j h' = some (some (.ref q)) ∧ gs[j]? = some g ∧ h'.get q = some (.lst (g.map .tup)) ∧ q ∉ [p, dk, b, c] := fun {j h'} q hj => by
    obtain ⟨q0, g, x1, x2, x3, x4⟩ := gS.rev j (by omega)
    rw [← eg'] at x2
    have xq := gS.lt q0 x4
    have qF : q0 ∉ [p, dk, b, c] := fun z => by have := old _ z; omega
    exact ⟨q0, g, by rw [i3 h' (Sq.ref (q.at gr rwF)), List.getElem?_map, x1]; rfl, x2, q.at x3 qF, qF⟩
  have step : ∀ i m h', i < done → S i m h' → ∃ x m1 h1 m2 h2, it.at_ i h' = some (some x) ∧ tgName 2 x m h' = .nx m1 h1 ∧ bFl C D eS eB m1 h1 = .nx m2 h2 ∧ S (i + 1) m2 h2 := by
    intro j m h' hj ⟨o1, o2, em, dj, kj, q⟩
    subst em
    obtain ⟨q0, g, y1, x2, x3, qF⟩ := at_ (j := j) q (by omega)
    have gm := List.mem_of_getElem? x2
    obtain ⟨_, gz⟩ := pz g gm
    have sfj := wS_sf (fi := fi) (cn := cn) (nx := nx) (sf := sf) (ep := ep) (gs := gs) (B := B) j (by omega)
    have tl : (gs.take j).flatten.length ≤ gs.flatten.length := by
      conv => rhs; rw [← List.take_append_drop j gs, List.flatten_append, List.length_append]
      omega
    rw [pf, List.length_drop] at tl
    have wl := wL_len (fi := fi) (cn := cn) (nx := nx) (sf := sf) (ep := ep) (gs := gs) (B := B) j (by omega)
    obtain ⟨o1', h7, b1, b2, b3, b4⟩ := fl_stepG (eS := eS) (eB := eB) (o1 := o1) (o2 := o2) (rw := rw) dj kj (by omega) np nr x3 qF c0 (by rw [wS_len]; exact fB) (by omega) (by omega) h3 gz (fun r hr => by
      have : r ∈ gs.flatten := List.mem_flatten.mpr ⟨g, gm, hr⟩
      rw [pf] at this
      exact r8 r (List.mem_of_mem_drop this)) (by omega)
    refine ⟨.ref q0, [some (.ref p), o1, some (.ref q0), some (.ref rw)], h', _, h7, y1, rfl, b1, o1', some (.ref q0), rfl, ?_, ?_, q.trans b4⟩
    · rw [wS_at x2]; exact b2
    · rw [wS_at x2, wL_at x2]
      have e1 : w + ((j + 1 : Nat) : Int) = w + (j : Nat) + 1 := by omega
      have e2 : less ((done : Int) - (j : Nat)) = (done : Int) - ((j + 1 : Nat) : Int) := by unfold less; rw [if_pos (by omega)]; omega
      rw [e2] at b3
      rw [e1]; exact b3
  have S0 : S 0 m hr := ⟨none, none, rfl, d1, by simpa [wS, wL] using k1, .refl⟩
  by_cases full : done = gs.length
  · -- the barrier fails
    obtain ⟨m', h6, f1', o1, o2, em, d6, k6, q6⟩ := for_loop (it := it) (t := tgName 2) (b := bFl C D eS eB) (N := done) S
      (fun m h' ⟨_, _, _, _, _, q⟩ => by
        rw [i3 h' (Sq.ref (q.at gr rwF)), List.getElem?_map, List.getElem?_eq_none (by rw [lpr]; omega)]; rfl)
      (fun j m h' hj s => step j m h' hj s) (done + 1) 0 m hr (by omega) (Nat.zero_le _) S0
    subst em
    have fe : gFor (gIter (gVar 3)) (tgName 2) (bFl C D eS eB) m hr = .nx [some (.ref p), o1, o2, some (.ref rw)] h6 := by
      unfold gFor
      rw [it1]
      simp only [Out.bindS]
      rw [i2, List.length_map, lpr, ← full]
      exact f1'
    rw [show ((done : Int) - (done : Nat)) = 0 by omega] at k6
    have fD : gFld [C] fDisk (gVar 0) [some (.ref p), o1, o2, some (.ref rw)] h6 = .ok (.ref dk) h6 := fld_at rfl d6.ins rfl
    have be := barr_er (eS := eS) k6
    exact ⟨h6, _, body_er ((seq_nx e1).trans ((seq_nx (m' := m) (h' := hr) ((ifS_f t1).trans rfl)).trans ((seq_nx (m' := m) (h' := hr) ((ifS_f t2).trans rfl)).trans ((seq_nx fe).trans (DK.expr_er ((meth0 (n := 1) fD k6.ins rfl rfl).trans be)))))), k6, ur.kp.trans q6, _, _, d6⟩
  · obtain ⟨hE, f1', w', kE, qE, nx', sf', dE⟩ := for_er2 (it := it) (t := tgName 2) (b := bFl C D eS eB) (K := done) (x0 := .own eS [] []) (fun hE => ∃ w', Dsk D hE dk a b c A (wS fi cn nx ep gs sf B done).2 (wL fi cn nx ep gs sf B done) w' (lvOf 0) ∧ Kp [p, dk, b, c] hr hE ∧ ∃ nx' sf', Lg C hE p dk fi cn lb lo nx' rq sf' R [(fEpo, .int ep)]) S
      (fun j m h' hj s => step j m h' hj s)
      (fun m h' ⟨o1, o2, em, dj, kj, q⟩ => by
        subst em
        obtain ⟨q0, g, y1, x2, x3, qF⟩ := at_ (j := done) q (by omega)
        obtain ⟨_, gz⟩ := pz g (List.mem_of_getElem? x2)
        rw [show ((done : Int) - (done : Nat)) = 0 by omega] at kj
        obtain ⟨hE, z1, z2⟩ := fl_er (eS := eS) (eB := eB) (o1 := o1) (o2 := o2) (rw := rw) dj kj x3 c0 (by rw [wS_len]; exact fB) gz
        exact ⟨.ref q0, [some (.ref p), o1, some (.ref q0), some (.ref rw)], h', hE, y1, rfl, z1, _, kj.up z2, q.trans z2.kp, _, _, dj.up z2⟩)
      (gs.length + 1) 0 m hr (by omega) (Nat.zero_le _) S0
    have fe : gFor (gIter (gVar 3)) (tgName 2) (bFl C D eS eB) m hr = .er (.own eS [] []) hE := by
      unfold gFor
      rw [it1]
      simp only [Out.bindS]
      rw [i2, List.length_map, lpr]
      exact f1'
    exact ⟨hE, w', body_er ((seq_nx e1).trans ((seq_nx (m' := m) (h' := hr) ((ifS_f t1).trans rfl)).trans ((seq_nx (m' := m) (h' := hr) ((ifS_f t2).trans rfl)).trans (DK.seq_er fe)))), kE, ur.kp.trans qE, nx', sf', dE⟩
theorem flush_er (d : Lg C h p dk fi cn lb lo nx rq sf R [(fEpo, .int ep)]) {done : Nat} (k : Dsk D h dk a b c A B [] w (lvOf (done : Nat))) (np : p ≠ dk) (nr : rq ∉ [dk, b, c]) (s1 : lo ≤ sf) (s2 : sf ≤ lo + R.length) (r8 : ∀ r ∈ R, r.length ≤ 8 ∧ ∀ x ∈ r, atB x = true) (lR : R.length < 9000) (c0 : 0 < cn) (fB : fi + cn ≤ B.length)
    (h1 : nx < 100000000000000000000000000000000000000) (h2 : lo < 100000000000000000000000000000000000000) (h3 : ep.natAbs < 1000000000000000000000000000000000000000)
    {gs : List (List (List MV))} (eg : gs = pkG (R.drop (sf - lo))) (ne : gs ≠ []) (hd : done ≤ gs.length) (room : nx + gs.length ≤ cn + lb) :
    ∃ h' w', mFlush C D eG eF eS eB [.ref p] h = .er (.own eS [] []) h' ∧ Dsk D h' dk a b c A (wS fi cn nx ep gs sf B done).2 (wL fi cn nx ep gs sf B done) w' (lvOf 0) ∧ Kp [p, dk, b, c] h h' := by
  obtain ⟨h', w', a1, a2, a3, _⟩ := flush_erL (eG := eG) (eF := eF) d k np nr s1 s2 r8 lR c0 fB h1 h2 h3 eg ne hd room
  exact ⟨h', w', a1, a2, a3⟩
end
end LG
set_option Elab.async false
set_option linter.all false
set_option maxRecDepth 100000
set_option maxHeartbeats 4000000
namespace LG
open MI XG XM XK DK PySem
open L2 (atI ixN)
theorem sds_at {h : MH} {r : List MV} (a : ∀ x ∈ r, atB x = true) : Sds h 0 20 r (r.map aD) := by
  induction r with
  | nil => exact .nil
  | cons x r ih => exact .cons (Sd.at (a x List.mem_cons_self)) (ih fun y hy => a y (List.mem_cons_of_mem _ hy))
section
variable {h : MH} {rw n : Nat} {m : ML} {a b : ME}
end
end LG
set_option Elab.async false
set_option linter.all false
set_option maxRecDepth 100000
set_option maxHeartbeats 4000000
namespace LG
open MI XG XM XK DK PySem
open L2 (atI ixN)
end LG
set_option Elab.async false
set_option linter.all false
set_option maxRecDepth 100000
set_option maxHeartbeats 4000000
namespace LG
open MI XG XM XK DK PySem
open L2 (atI ixN)
section
variable {N nx : Nat} {E : Int} {gs : List (List (List MV))} {line : List (List MV)}
end
end LG
set_option Elab.async false
set_option linter.all false
set_option maxRecDepth 100000
set_option maxHeartbeats 400000
namespace LG
open MI XG XM XK DK PySem
open L2 (atI ixN)
end LG
set_option Elab.async false
set_option linter.all false
set_option maxRecDepth 100000
set_option maxHeartbeats 400000
namespace LG
open MI XG XM XK DK PySem
open L2 (atI ixN)
section
variable {C D eG eF eS eB : Nat} {h h' : MH} {p dk fi cn lb lo nx rq sf : Nat} {R : List (List MV)} {ep : Int}
theorem flush_none (d : Lg C h p dk fi cn lb lo nx rq sf R [(fEpo, .int ep)]) (s1 : lo ≤ sf) (s2 : sf = lo + R.length) : ∃ h', mFlush C D eG eF eS eB [.ref p] h = .ok .non h' ∧ Up h h' := by
  have rd : R.drop (sf - lo) = [] := by rw [s2, show lo + R.length - lo = R.length by omega, List.drop_length]
  have fS : gFld [C] fSafe (gVar 0) [some (.ref p), none, none, none] h = .ok (.int (sf : Nat)) h := fld_at rfl d.ins rfl
  have rc : gMeth C nRecs (mLRecs C eG) [] 2 (gVar 0) (gCons (gFld [C] fSafe (gVar 0)) (gNil)) [some (.ref p), none, none, none] h = .ok (.ref h.n) (h.push (.lst ((R.drop (sf - lo)).map .tup))) := (meth1 (n := 2) rfl d.ins rfl fS rfl).trans (lrecs_ok (eG := eG) d s1 (by omega))
  rw [rd] at rc
  obtain ⟨h', Q, a1, a2, a3, a4⟩ := packs_ok (h := h.push (.lst [])) (v := .ref h.n) (rs := []) (.ref get_top) (fun r hr => (by cases hr)) (by decide)
  have q0 : Q = [] := by
    have := a3.len
    have : Q.length = 0 := this
    exact List.length_eq_zero_iff.mp this
  subst q0
  have e1 : gAsg (gCall mPacks [] 1 (gCons (gMeth C nRecs (mLRecs C eG) [] 2 (gVar 0) (gCons (gFld [C] fSafe (gVar 0)) (gNil))) (gNil))) (tgName 3) [some (.ref p), none, none, none] h = .nx [some (.ref p), none, none, some (.ref (h.push (.lst ([] : List MV))).n)] h' := (asg_nx ((call1 (n := 1) rc rfl).trans a1)).trans rfl
  have t1 : gNot (gTru (gVar 3)) [some (.ref p), none, none, some (.ref (h.push (.lst ([] : List MV))).n)] h' = .ok true h' := by
    have v3 : gVar 3 [some (.ref p), none, none, some (.ref (h.push (.lst ([] : List MV))).n)] h' = .ok (.ref (h.push (.lst ([] : List MV))).n) h' := rfl
    simp only [gNot, gTru, v3, Out.bind, mTru, a2]
    rfl
  exact ⟨h', body_rt (v := .non) ((seq_nx e1).trans (seq_rt ((ifS_t t1).trans rfl))), Up.push.trans a4⟩
theorem flush_full (d : Lg C h p dk fi cn lb lo nx rq sf R [(fEpo, .int ep)]) (s1 : lo ≤ sf) (s2 : sf ≤ lo + R.length) (r8 : ∀ r ∈ R, r.length ≤ 8) (lR : R.length < 9000) {gs : List (List (List MV))} (eg : gs = pkG (R.drop (sf - lo))) (ne : gs ≠ []) (room : cn + lb < nx + gs.length) (hs : shortB (.int (cn : Nat)) = true) :
    ∃ h', mFlush C D eG eF eS eB [.ref p] h = .er (.own eF [nCo] [.int (cn : Nat)]) h' ∧ Up h h' := by
  obtain ⟨hr, Q, rw, e1, gr, rwn, gS, ur⟩ := rows_ok (eG := eG) d s1 s2 r8 lR
  have d1 := d.up ur
  have eg' : gs = (pkR (R.drop (sf - lo))).2.reverse := eg
  have lQ := gS.len
  have lgs : gs.length = (pkR (R.drop (sf - lo))).2.length := by rw [eg', List.length_reverse]
  have lpr : Q.reverse.length = gs.length := by rw [List.length_reverse, lQ, lgs]
  have glen := (Sq.ref gr).len
  rw [List.length_map, lpr] at glen
  have g0 : gs.length ≠ 0 := fun z => ne (List.length_eq_zero_iff.mp z)
  let m : ML := [some (.ref p), none, none, some (.ref rw)]
  have t1 : gNot (gTru (gVar 3)) m hr = .ok false hr := by
    have v3 : gVar 3 m hr = .ok (.ref rw) hr := rfl
    have em : (Q.reverse.map MV.ref).isEmpty = false := by
      rw [List.isEmpty_eq_false_iff]
      intro z
      have := congrArg List.length z
      rw [List.length_map, lpr] at this
      exact g0 this
    simp only [gNot, gTru, v3, Out.bind, mTru, gr, em, Bool.not_false, Bool.not_true]
  have rm : gMeth C nRoom (mLRoom C) [] 1 (gVar 0) gNil m hr = .ok (.int ((cn : Int) - ((nx : Int) - (lb : Int)))) hr := (meth0 (n := 1) rfl d1.ins rfl rfl).trans (lroom_ok d1)
  have t2 : gB (gBin mGtI (gCB (f1 mLenV) (gCons (gVar 3) (gNil))) (gMeth C nRoom (mLRoom C) [] 1 (gVar 0) gNil)) m hr = .ok true hr := by
    have v3 : gVar 3 m hr = .ok (.ref rw) hr := rfl
    simp only [gB, gBin, gCB, f1, gCons, gNil, v3, Out.bind, glen, rm, mGtI, mI]
    rw [decide_eq_true (by omega)]
  have fC : gFld [C] fCount (gVar 0) m hr = .ok (.int (cn : Nat)) hr := fld_at rfl d1.ins rfl
  have re : gRaise1 eF nCo (gFld [C] fCount (gVar 0)) m hr = .er (.own eF [nCo] [.int (cn : Nat)]) hr := by
    unfold gRaise1
    rw [fC]
    simp only [Out.bindS, hs, if_pos]
  exact ⟨hr, body_er ((seq_nx e1).trans ((seq_nx (m' := m) (h' := hr) ((ifS_f t1).trans rfl)).trans (DK.seq_er ((ifS_t t2).trans re)))), ur⟩
end
abbrev nBlk : Nat := 2069681916294564979109003362
def mLCut (C eG eC : Nat) : MF := gBody 3 (gSeq (gIfS (gOr (gB (gBin mLtI (gVar 1) (gFld [C] fLowB (gVar 0)))) (gB (gBin mGtI (gVar 1) (gFld [C] fNext (gVar 0))))) (gRaise1 eC nBlk (gVar 1)) (gNext)) (gSeq (gFldS [C] fRec (gMeth C nRecs (mLRecs C eG) [] 2 (gVar 0) (gCons (gVar 2) (gNil))) (gVar 0)) (gSeq (gFldS [C] fLowB (gVar 1) (gVar 0)) (gFldS [C] fLow (gVar 2) (gVar 0)))))
section
variable {C eG eC : Nat} {h h' : MH} {p dk fi cn lb lo nx rq sf : Nat} {R : List (List MV)} {ep : Int} {tl : List (Nat × MV)}
theorem raise1_er {e : Nat} {f : Nat} {g : ME} {m : ML} {z : Int} (ev : g m h = .ok (.int z) h) (hs : shortB (.int z) = true) : gRaise1 e f g m h = .er (.own e [f] [.int z]) h := by
  unfold gRaise1
  rw [ev]
  simp only [Out.bindS, hs, if_pos]
theorem lrecs_er (d : Lg C h p dk fi cn lb lo nx rq sf R [(fEpo, .int ep)]) {z : Int} (hz : z < (lo : Int) ∨ ((lo + R.length : Nat) : Int) < z) (hs : shortB (.int z) = true) : mLRecs C eG [.ref p, .int z] h = .er (.own eG [nNum] [.int z]) h := by
  let m : ML := [some (.ref p), some (.int z)]
  have f1' : gFld [C] fLow (gVar 0) m h = .ok (.int (lo : Nat)) h := fld_at rfl d.ins rfl
  have mm : gMeth C nMany (mLMany C) [] 1 (gVar 0) gNil m h = .ok (.int ((lo + R.length : Nat) : Int)) h := (meth0 (n := 1) rfl d.ins rfl rfl).trans (lmany_ok d)
  have v1 : gVar 1 m h = .ok (.int z) h := rfl
  have c1 : gB (gBin mLtI (gVar 1) (gFld [C] fLow (gVar 0))) m h = .ok (decide (z < (lo : Int))) h := by
    simp only [gB, gBin, v1, f1', Out.bind, mLtI, mI]
  have c2 : gB (gBin mGtI (gVar 1) (gMeth C nMany (mLMany C) [] 1 (gVar 0) gNil)) m h = .ok (decide (((lo + R.length : Nat) : Int) < z)) h := by
    simp only [gB, gBin, v1, mm, Out.bind, mGtI, mI]
  have cc : gOr (gB (gBin mLtI (gVar 1) (gFld [C] fLow (gVar 0)))) (gB (gBin mGtI (gVar 1) (gMeth C nMany (mLMany C) [] 1 (gVar 0) gNil))) m h = .ok true h := by
    by_cases y : z < (lo : Int)
    · rw [decide_eq_true y] at c1
      exact or_t c1
    · rw [decide_eq_false y] at c1
      rw [decide_eq_true (by omega)] at c2
      exact (or_f c1).trans c2
  exact body_er (DK.seq_er ((ifS_t cc).trans (raise1_er v1 hs)))
theorem cut_er (d : Lg C h p dk fi cn lb lo nx rq sf R tl) {z : Int} {x : MV} (hz : z < (lb : Int) ∨ (nx : Int) < z) (hs : shortB (.int z) = true) : mLCut C eG eC [.ref p, .int z, x] h = .er (.own eC [nBlk] [.int z]) h := by
  let m : ML := [some (.ref p), some (.int z), some x]
  have f1' : gFld [C] fLowB (gVar 0) m h = .ok (.int (lb : Nat)) h := fld_at rfl d.ins rfl
  have f2' : gFld [C] fNext (gVar 0) m h = .ok (.int (nx : Nat)) h := fld_at rfl d.ins rfl
  have v1 : gVar 1 m h = .ok (.int z) h := rfl
  have c1 : gB (gBin mLtI (gVar 1) (gFld [C] fLowB (gVar 0))) m h = .ok (decide (z < (lb : Int))) h := by
    simp only [gB, gBin, v1, f1', Out.bind, mLtI, mI]
  have c2 : gB (gBin mGtI (gVar 1) (gFld [C] fNext (gVar 0))) m h = .ok (decide ((nx : Int) < z)) h := by
    simp only [gB, gBin, v1, f2', Out.bind, mGtI, mI]
  have cc : gOr (gB (gBin mLtI (gVar 1) (gFld [C] fLowB (gVar 0)))) (gB (gBin mGtI (gVar 1) (gFld [C] fNext (gVar 0)))) m h = .ok true h := by
    by_cases y : z < (lb : Int)
    · rw [decide_eq_true y] at c1
      exact or_t c1
    · rw [decide_eq_false y] at c1
      rw [decide_eq_true (by omega)] at c2
      exact (or_f c1).trans c2
  exact body_er (DK.seq_er ((ifS_t cc).trans (raise1_er v1 hs)))
theorem cut_ok (d : Lg C h p dk fi cn lb lo nx rq sf R [(fEpo, .int ep)]) {k r : Nat} (k1 : lb ≤ k) (k2 : k ≤ nx) (r1 : lo ≤ r) (r2 : r ≤ lo + R.length) :
    ∃ h', mLCut C eG eC [.ref p, .int (k : Nat), .int (r : Nat)] h = .ok .non h' ∧ Lg C h' p dk fi cn k r nx h.n sf (R.drop (r - lo)) [(fEpo, .int ep)] ∧ Kp [p] h h' := by
  let m : ML := [some (.ref p), some (.int (k : Nat)), some (.int (r : Nat))]
  have f1' : gFld [C] fLowB (gVar 0) m h = .ok (.int (lb : Nat)) h := fld_at rfl d.ins rfl
  have f2' : gFld [C] fNext (gVar 0) m h = .ok (.int (nx : Nat)) h := fld_at rfl d.ins rfl
  have v1 : gVar 1 m h = .ok (.int (k : Nat)) h := rfl
  have c1 : gB (gBin mLtI (gVar 1) (gFld [C] fLowB (gVar 0))) m h = .ok false h := by
    simp only [gB, gBin, v1, f1', Out.bind, mLtI, mI]
    rw [decide_eq_false (by omega)]
  have c2 : gB (gBin mGtI (gVar 1) (gFld [C] fNext (gVar 0))) m h = .ok false h := by
    simp only [gB, gBin, v1, f2', Out.bind, mGtI, mI]
    rw [decide_eq_false (by omega)]
  have pl := MH.get_lt d.ins
  have rc : gMeth C nRecs (mLRecs C eG) [] 2 (gVar 0) (gCons (gVar 2) (gNil)) m h = .ok (.ref h.n) (h.push (.lst ((R.drop (r - lo)).map .tup))) := (meth1 (n := 2) rfl d.ins rfl rfl rfl).trans (lrecs_ok (eG := eG) d r1 r2)
  obtain ⟨h1, e1, g1, k1', q1⟩ := fset (C := C) (f := fRec) (v := gMeth C nRecs (mLRecs C eG) [] 2 (gVar 0) (gCons (gVar 2) (gNil))) (m := m) (y := .ref h.n) .refl d.ins rc Up.push rfl (by show (9 : Nat) < 900; omega)
  obtain ⟨h2, e2, g2, k2', q2⟩ := fset (C := C) (f := fLowB) (v := gVar 1) (m := m) (y := .int (k : Nat)) (h1 := h1) k1' g1 rfl .refl rfl (by show (9 : Nat) < 900; omega)
  obtain ⟨h3, e3, g3, k3', q3⟩ := fset (C := C) (f := fLow) (v := gVar 2) (m := m) (y := .int (r : Nat)) (h1 := h2) k2' g2 rfl .refl rfl (by show (9 : Nat) < 900; omega)
  have np : h.n ∉ [p] := by simp; omega
  have gr := q3.at (q2.at (q1.at (get_top (h := h)) np) np) np
  exact ⟨h3, body_nx ((seq_nx (m' := m) (h' := h) ((ifS_f ((or_f c1).trans c2)).trans rfl)).trans ((seq_nx e1).trans ((seq_nx e2).trans e3))), ⟨g3, gr⟩, k3'⟩
end
end LG
set_option Elab.async false
set_option linter.all false
set_option maxRecDepth 100000
set_option maxHeartbeats 400000
namespace LG
open MI XG XM XK DK PySem
open L2 (atI ixN)
section
variable {N nx mb mr l0 : Nat} {me E : Int} {gs : List (List (List MV))} {line : List (List MV)}
end
section
variable {N nx sf : Nat} {E : Int} {gs : List (List (List MV))}
end
end LG
set_option Elab.async false
set_option linter.all false
set_option maxRecDepth 100000
set_option maxHeartbeats 400000
namespace LG
open MI XG XM XK DK PySem
open L2 (atI ixN)
section
variable {N : Nat} {bs : List (List MV)} {T : Int}
end
section
variable {N nx sf : Nat} {E : Int} {gs : List (List (List MV))}
end
end LG
set_option Elab.async false
set_option linter.all false
set_option maxRecDepth 100000
set_option maxHeartbeats 400000
namespace K47
open MI XG XM XK DK LG PySem
open L2 (atI ixN)
theorem cons_ok {a : ME} {r : MA} {m : ML} {h h1 h2 : MH} {x : MV} {xs : List MV} (ea : a m h = .ok x h1) (er : r m h1 = .ok xs h2) : gCons a r m h = .ok (x :: xs) h2 := by
  unfold gCons
  rw [ea]
  simp only [Out.bind]
  rw [er]
theorem nil_ok {m : ML} {h : MH} : gNil m h = .ok [] h := rfl
theorem lst_ok {r : MA} {m : ML} {h h1 : MH} {xs : List MV} (er : r m h = .ok xs h1) (l : xs.length ≤ 1000000) : gLst r m h = .ok (.ref h1.n) (h1.push (.lst xs)) := by
  unfold gLst
  rw [er]
  simp only [Out.bind]
  rw [if_pos l]
theorem bin_ok {g : MV → MV → MH → Out MV} {x y : ME} {m : ML} {h h1 h2 : MH} {i j : MV} (ex : x m h = .ok i h1) (ey : y m h1 = .ok j h2) : gBin g x y m h = g i j h2 := by
  unfold gBin
  rw [ex]
  simp only [Out.bind]
  rw [ey]
theorem cb1 {g : MV → MH → Out MV} {a : ME} {m : ML} {h h1 : MH} {x : MV} (ea : a m h = .ok x h1) : gCB (f1 g) (gCons a gNil) m h = g x h1 := by
  simp [gCB, gCons, gNil, ea, Out.bind, f1]
theorem nt_true {a : ME} {m : ML} {h h' : MH} (e : a m h = .ok (.bl true) h') : gNot (gTru a) m h = .ok false h' := by
  simp [gNot, gTru, e, Out.bind, mTru]
theorem up_kp {h h1 h2 : MH} {F : List Nat} (u : Up h h1) (k : Kp F h1 h2) (f : ∀ j ∈ F, h.n ≤ j) : Up h h2 :=
  ⟨Nat.le_trans u.n k.n, fun j hj => (k.get j (Nat.lt_of_lt_of_le hj u.n) fun z => by have := f j z; omega).trans (u.get j hj)⟩
section
variable {h : MH}
abbrev dT (xs : List MV) : PyData := .tuple (xs.map aD)
theorem eA {x : MV} (a : atB x = true) : Sd h x (aD x) 2 6000 := (Sd.at a).le (by omega) (by omega)
theorem eI {n : Int} (hn : n.natAbs < 1000000000000) : Sd h (.int n) (aD (.int n)) 2 6000 := eA (atS.b (decide_eq_true (by omega)))
theorem eT {xs : List MV} (l : xs.length ≤ 24) (a : ∀ x ∈ xs, atB x = true) : Sd h (.tup xs) (dT xs) 2 6000 := (Sd.tup (n := 24) (sds_at a) l).le (by omega) (by omega)
theorem eL {q : Nat} {R : List (List MV)} (g : h.get q = some (.lst (R.map .tup))) (l : R.length ≤ 9) (ok : ∀ r ∈ R, r.length ≤ 24 ∧ ∀ x ∈ r, atB x = true) : Sd h (.ref q) (.list (R.map dT)) 2 6000 := by
  have : ∀ {R : List (List MV)}, (∀ r ∈ R, r.length ≤ 24 ∧ ∀ x ∈ r, atB x = true) → Sds h 1 600 (R.map .tup) (R.map dT) := fun {R} a => by
    induction R with
    | nil => exact .nil
    | cons r R ih => exact .cons ((Sd.tup (n := 24) (sds_at (a r (by simp)).2) (a r (by simp)).1).le (by omega) (by omega)) (ih fun y hy => a y (by simp [hy]))
  exact (Sd.lst (n := 9) g (this ok) (by simpa using l)).le (by omega) (by omega)
theorem same_lists {q z : Nat} {xs ys : List MV} {ds : List PyData} (g1 : h.get q = some (.lst xs)) (g2 : h.get z = some (.lst ys)) (a : Sds h 2 6000 xs ds) (b : Sds h 2 6000 ys ds) (l1 : xs.length ≤ 12) (l2 : ys.length ≤ 12) : m_law_same [.ref q, .ref z] h = .ok (.bl true) h :=
  same_sd (Sd.lst (n := 12) g1 a l1) (Sd.lst (n := 12) g2 b l2) rfl rfl (by decide) (by decide) (by decide)
end
structure LS (h0 h : MH) (pl p N fi lb lo nx sf : Nat) (R : List (List MV)) (B : List MV) (w ep : Int) : Prop where
  ex : ∃ a b c rq, Dsk 1 h pl a b c B B [] w .non ∧ Lg 0 h p pl fi N lb lo nx rq sf R [(fEpo, .int ep)] ∧ p ∉ [pl, a, b, c] ∧ rq ∉ [pl, a, b, c] ∧ ∀ j ∈ [pl, a, b, c, p, rq], h0.n ≤ j
  up : Up h0 h
section
variable {h0 h h1 : MH} {pl p N fi lb lo nx sf : Nat} {R : List (List MV)} {B : List MV} {w ep : Int} {m : ML} {o a : ME}
theorem LS.ups (L : LS h0 h pl p N fi lb lo nx sf R B w ep) (u : Up h h1) : LS h0 h1 pl p N fi lb lo nx sf R B w ep := by
  obtain ⟨a, b, c, rq, d, l, x⟩ := L.ex
  exact ⟨⟨a, b, c, rq, d.up u, l.up u, x⟩, L.up.trans u⟩
theorem LS.app (L : LS h0 h pl p N fi lb lo nx sf R B w ep) (lR : R.length < 900) (eo : o m h = .ok (.ref p) h) {v : MV} {xs : List MV} (u : Up h h1) (ea : a m h = .ok v h1) (s : Sq h1 v xs) :
    ∃ h', gMeth 0 4056484048440708167605101516554337 m_Log_append [] 2 o (gCons a gNil) m h = .ok (.int ((lo + R.length : Nat) : Int)) h' ∧ LS h0 h' pl p N fi lb lo nx sf (R ++ [xs]) B w ep := by
  obtain ⟨ka, kb, kc, rq, d, l, x1, x2, x3⟩ := L.ex
  obtain ⟨h', a1, a2, a3⟩ := lapp_ok (l.up u) rfl (by omega) s
  refine ⟨h', (meth1 (n := 2) (h1 := h) (h2 := h1) eo l.ins rfl ea rfl).trans a1, ⟨ka, kb, kc, rq, (d.up u).kp a3 (fun j hj z => by rw [List.mem_singleton.mp z] at hj; exact x2 hj), a2, x1, x2, x3⟩, up_kp (L.up.trans u) a3 fun j hj => by rw [List.mem_singleton.mp hj]; exact x3 rq (by simp)⟩
theorem LS.flush (L : LS h0 h pl p N fi lb lo nx sf R B w ep) (eo : o m h = .ok (.ref p) h) {gs : List (List (List MV))} (eg : pkG (R.drop (sf - lo)) = gs) (ne : gs ≠ []) (room : nx + gs.length ≤ N + lb) (s1 : lo ≤ sf) (s2 : sf ≤ lo + R.length) (r8 : ∀ r ∈ R, r.length ≤ 8 ∧ ∀ x ∈ r, atB x = true) (lR : R.length < 900) (N0 : 0 < N) (fB : fi + N ≤ B.length) (c1 : nx < 1000) (c2 : lo < 1000) (c3 : ep.natAbs < 1000) {B' : List MV} (eB : (wS fi N nx ep gs sf B gs.length).2 = B') :
    ∃ h', gMeth 0 2011653624527041756678586470 m_Log_flush [] 1 o gNil m h = .ok .non h' ∧ LS h0 h' pl p N fi lb lo (nx + gs.length) (lo + R.length) R B' (w + gs.length) ep := by
  subst eB
  obtain ⟨ka, kb, kc, rq, d, l, x1, x2, x3⟩ := L.ex
  have y1 := x1
  have y2 := x2
  simp only [List.mem_cons, List.not_mem_nil, or_false, not_or] at y1 y2
  obtain ⟨h', a', b', c', a1, a2, a3, a4, a5, a6, a7⟩ := flush_ok (eG := 3) (eF := 5) (eS := 4) (eB := 2) (l := -1) l d (by decide) y1.1 (by simp; exact ⟨y2.1, y2.2.2⟩) s1 s2 r8 (by omega) N0 fB (by omega) (by omega) (by omega) (by decide) (gs := gs) eg.symm ne room
  have lp := MH.get_lt l.ins
  have lr := MH.get_lt l.rl
  have ld := MH.get_lt d.ins
  have u0 := L.up.n
  refine ⟨h', (meth0 (n := 1) eo l.ins rfl rfl).trans a1, ⟨a', b', c', rq, a3, a2, by simp; omega, by simp; omega, fun j hj => ?_⟩, up_kp L.up a4 fun j hj => x3 j (by simp at hj ⊢; omega)⟩
  simp only [List.mem_cons, List.not_mem_nil, or_false] at hj
  have z1 := x3 pl (by simp)
  have z2 := x3 p (by simp)
  have z3 := x3 rq (by simp)
  omega
theorem LS.idle (L : LS h0 h pl p N fi lb lo nx sf R B w ep) (eo : o m h = .ok (.ref p) h) (s1 : lo ≤ sf) (s2 : sf = lo + R.length) : ∃ h', gMeth 0 2011653624527041756678586470 m_Log_flush [] 1 o gNil m h = .ok .non h' ∧ Up h h' := by
  obtain ⟨ka, kb, kc, rq, d, l, x1, x2, x3⟩ := L.ex
  obtain ⟨h', a1, a2⟩ := flush_none (D := 1) (eG := 3) (eF := 5) (eS := 4) (eB := 2) l s1 s2
  exact ⟨h', (meth0 (n := 1) eo l.ins rfl rfl).trans a1, a2⟩
theorem LS.many (L : LS h0 h pl p N fi lb lo nx sf R B w ep) (eo : o m h = .ok (.ref p) h) : gMeth 0 1116028500244747518061 m_Log_many [] 1 o gNil m h = .ok (.int ((lo + R.length : Nat) : Int)) h := by
  obtain ⟨ka, kb, kc, rq, d, l, _⟩ := L.ex
  exact (meth0 (n := 1) eo l.ins rfl rfl).trans (lmany_ok l)
theorem LS.safe (L : LS h0 h pl p N fi lb lo nx sf R B w ep) (eo : o m h = .ok (.ref p) h) : gMeth 0 931561024323279913075 m_Log_safe [] 1 o gNil m h = .ok (.int (sf : Nat)) h := by
  obtain ⟨ka, kb, kc, rq, d, l, _⟩ := L.ex
  exact (meth0 (n := 1) eo l.ins rfl rfl).trans (lsafe_ok l)
theorem LS.next (L : LS h0 h pl p N fi lb lo nx sf R B w ep) (eo : o m h = .ok (.ref p) h) : gMeth 0 83956272751114154801631165565160080792226209389383635697774 m_Log_next_block [] 1 o gNil m h = .ok (.int (nx : Nat)) h := by
  obtain ⟨ka, kb, kc, rq, d, l, _⟩ := L.ex
  exact (meth0 (n := 1) eo l.ins rfl rfl).trans (lnext_ok l)
theorem LS.epoch (L : LS h0 h pl p N fi lb lo nx sf R B w ep) (eo : o m h = .ok (.ref p) h) : gMeth 0 2011653476953062778731495525 m_Log_epoch [] 1 o gNil m h = .ok (.int ep) h := by
  obtain ⟨ka, kb, kc, rq, d, l, _⟩ := L.ex
  exact (meth0 (n := 1) eo l.ins rfl rfl).trans (lepo_ok l)
theorem LS.recs (L : LS h0 h pl p N fi lb lo nx sf R B w ep) (eo : o m h = .ok (.ref p) h) {k : Nat} (ea : a m h = .ok (.int (k : Nat)) h) (k1 : lo ≤ k) (k2 : k ≤ lo + R.length) {R' : List (List MV)} (eR : R.drop (k - lo) = R') :
    gMeth 0 9783122105461106636624876568225953874034 m_Log_records [] 2 o (gCons a gNil) m h = .ok (.ref h.n) (h.push (.lst (R'.map .tup))) := by
  subst eR
  obtain ⟨ka, kb, kc, rq, d, l, _⟩ := L.ex
  exact (meth1 (n := 2) (h1 := h) (h2 := h) eo l.ins rfl ea rfl).trans (lrecs_ok (eG := 3) l k1 k2)
theorem LS.writes (L : LS h0 h pl p N fi lb lo nx sf R B w ep) (eo : o m h = .ok (.ref pl) h) : gMeth 1 4664956162465078606366684397699191 m_Disk_writes [] 1 o gNil m h = .ok (.int w) h := by
  obtain ⟨ka, kb, kc, rq, d, l, _⟩ := L.ex
  exact (meth0 (n := 1) eo d.ins rfl rfl).trans (writes_ok d)
theorem LS.read (L : LS h0 h pl p N fi lb lo nx sf R B w ep) (eo : o m h = .ok (.ref pl) h) {k : Nat} {v : MV} (ea : a m h = .ok (.int (k : Nat)) h) (hk : B[k]? = some v) : gMeth 1 922337630296200970354 m_Disk_read [] 2 o (gCons a gNil) m h = .ok v h := by
  obtain ⟨ka, kb, kc, rq, d, l, _⟩ := L.ex
  exact (meth1 (n := 2) (h1 := h) (h2 := h) eo d.ins rfl ea rfl).trans (read_ok (eB := 2) d hk)
theorem LS.loose (L : LS h0 h pl p N fi lb lo nx sf R B w ep) (eo : o m h = .ok (.ref pl) h) : gMeth 1 1953625185185513168019914860 m_Disk_loose [] 1 o gNil m h = .ok (.ref h.n) (h.push (.lst [])) := by
  obtain ⟨ka, kb, kc, rq, d, l, _⟩ := L.ex
  exact (meth0 (n := 1) eo d.ins rfl rfl).trans (loose_ok d)
theorem LS.cut (L : LS h0 h pl p N fi lb lo nx sf R B w ep) (eo : o m h = .ok (.ref p) h) {b : ME} {k r : Nat} (ea : a m h = .ok (.int (k : Nat)) h) (eb : b m h = .ok (.int (r : Nat)) h) (k1 : lb ≤ k) (k2 : k ≤ nx) (r1 : lo ≤ r) (r2 : r ≤ lo + R.length) {R' : List (List MV)} (eR : R.drop (r - lo) = R') :
    ∃ h', gMeth 0 510173640654947 m_Log_cut [] 3 o (gCons a (gCons b gNil)) m h = .ok .non h' ∧ LS h0 h' pl p N fi k r nx sf R' B w ep := by
  subst eR
  obtain ⟨ka, kb, kc, rq, d, l, x1, x2, x3⟩ := L.ex
  obtain ⟨h', a1, a2, a3⟩ := cut_ok (eG := 3) (eC := 7) l k1 k2 r1 r2
  have la := MH.get_lt d.ga
  have lb := MH.get_lt d.gb
  have lc := MH.get_lt d.gc
  have ld := MH.get_lt d.ins
  have u0 := L.up.n
  have z1 := x3 p (by simp)
  refine ⟨h', (meth2 (n := 3) (h1 := h) (h2 := h) (h3 := h) eo l.ins rfl ea eb rfl).trans a1, ⟨ka, kb, kc, h.n, d.kp a3 (fun j hj z => by rw [List.mem_singleton.mp z] at hj; exact x1 hj), a2, x1, by simp; omega, fun j hj => ?_⟩, up_kp L.up a3 fun j hj => by rw [List.mem_singleton.mp hj]; exact z1⟩
  by_cases z : j = h.n
  · omega
  · exact x3 j (by simp at hj ⊢; omega)
end
theorem disk_new {h0 h : MH} {m : ML} {n : Nat} {e : ME} (u : Up h0 h) (ee : e m h = .ok (.int (n : Nat)) h) (hn : n ≤ 1000) :
    ∃ h' a b c, gMake 1 m_Disk___init [] 2 (gCons e gNil) m h = .ok (.ref h.n) h' ∧ Dsk 1 h' h.n a b c (List.replicate n (.tup [])) (List.replicate n (.tup [])) [] 0 .non ∧ Up h0 h' ∧ ∀ j ∈ [h.n, a, b, c], h0.n ≤ j := by
  obtain ⟨h1, a, b, c, c1, c2, c3, c4, c5, c6⟩ := DK.init_ok (C := 1) (h := h.push (.ins 1 [])) (p := h.n) (k := n) get_top hn
  have pn : (h.push (.ins 1 [])).n = h.n + 1 := rfl
  have un := u.n
  refine ⟨h1, a, b, c, ?_, c2, up_kp (u.trans Up.push) c3 (fun j hj => by simp at hj; omega), by simp; omega⟩
  unfold gMake gCons gNil
  rw [ee]
  simp only [Out.bind]
  rw [if_pos (by simp)]
  rw [show m_Disk___init (MV.ref h.n :: ([MV.int (n : Nat)] ++ [])) (h.push (.ins 1 [])) = .ok .non h1 from c1]
theorem log_new {h0 h : MH} {pl a b c N fi lb lo : Nat} {fl : Int} {B : List MV} {bs : List (List MV)} {w : Int} (d : Dsk 1 h pl a b c B B [] w .non) (u : Up h0 h) (new : ∀ j ∈ [pl, a, b, c], h0.n ≤ j) (hb : ∀ k xs, bs[k]? = some xs → B[fi + k]? = some (.tup xs)) (hbs : ∀ xs ∈ bs, xs.length ≤ 24 ∧ ∀ x ∈ xs, atS x = true) (l : bs.length = N) (N0 : 0 < N) (N1 : N < 100) {nx : Nat} {R : List (List MV)} {f2 ep : Int} (eo : opn bs N lb lo fl = ⟨nx, f2, R⟩) (ee : tlE bs fl = [(fEpo, .int ep)]) :
    ∃ h', m_Log___init [.ref h.n, .ref pl, .int (fi : Nat), .int (N : Nat), .int (lb : Nat), .int (lo : Nat), .int fl] (h.push (.ins 0 [])) = .ok .non h' ∧ LS h0 h' pl h.n N fi lb lo nx (lo + R.length) R B w ep ∧ Up h h' := by
  have la := MH.get_lt d.ga
  have lb' := MH.get_lt d.gb
  have lc := MH.get_lt d.gc
  have ld := MH.get_lt d.ins
  have nfoot : h.n ∉ [pl, a, b, c] := by simp; omega
  obtain ⟨h1, rq, e1, e2, e3, e4⟩ := linit_ok (C := 0) (D := 1) (eB := 2) (h := h.push (.ins 0 [])) (p := h.n) (fi := fi) (cn := N) (lb := lb) (lo := lo) (fl := fl) (M := 24) get_top (d.up Up.push) nfoot (bs := bs) hb hbs l N0 (by omega) (by decide) (by omega)
  rw [eo, ee] at e2
  have pn : (h.push (.ins 0 [])).n = h.n + 1 := rfl
  have un := u.n
  have u1 : Up h h1 := up_kp Up.push e3 (fun j hj => by simp at hj; omega)
  refine ⟨h1, e1, ⟨⟨a, b, c, rq, d.up u1, e2, nfoot, by simp; omega, fun j hj => ?_⟩, u.trans u1⟩, u1⟩
  by_cases z : j ∈ [pl, a, b, c]
  · exact new j z
  · simp only [List.mem_cons, List.not_mem_nil, or_false, not_or] at z hj
    omega
theorem make3 {m : ML} {h h' : MH} {x y z : MV} {a b c : ME} (ea : a m h = .ok x h) (eb : b m h = .ok y h) (ec : c m h = .ok z h) (e : m_Log___init [.ref h.n, x, y, z, .int 0, .int 0, .int 0] (h.push (.ins 0 [])) = .ok .non h') : gMake 0 m_Log___init [.int 0, .int 0, .int 0] 7 (gCons a (gCons b (gCons c gNil))) m h = .ok (.ref h.n) h' := by
  unfold gMake
  rw [cons_ok ea (cons_ok eb (cons_ok ec nil_ok))]
  simp only [Out.bind]
  rw [if_pos (by simp)]
  rw [show m_Log___init (MV.ref h.n :: ([x, y, z] ++ [.int 0, .int 0, .int 0])) (h.push (.ins 0 [])) = .ok .non h' from e]
theorem makeK3 {m : ML} {h h' : MH} {x y z : MV} {a b c : ME} (ea : a m h = .ok x h) (eb : b m h = .ok y h) (ec : c m h = .ok z h) (e : m_Log___init [.ref h.n, x, y, z, .int 0, .int 0, .int 0] (h.push (.ins 0 [])) = .ok .non h') : gMakeK 0 m_Log___init [.int 0, .int 0, .int 0] 7 1 3 [(0, 0), (2, 0), (2, 1), (2, 2), (1, 0), (1, 1), (1, 2)] (gNil) (gCons a (gCons b (gCons c gNil))) m h = .ok (.ref h.n) h' := by
  unfold gMakeK
  rw [nil_ok]
  simp only [Out.bind]
  rw [cons_ok ea (cons_ok eb (cons_ok ec nil_ok))]
  simp only [Out.bind]
  rw [if_pos ⟨rfl, rfl, rfl⟩]
  rw [show m_Log___init (pick [(0, 0), (2, 0), (2, 1), (2, 2), (1, 0), (1, 1), (1, 2)] (.ref h.n :: []) [.int 0, .int 0, .int 0] [x, y, z]) (h.push (.ins 0 [])) = .ok .non h' from e]
theorem LS.log {h0 h : MH} {pl p N fi lb lo nx sf : Nat} {R : List (List MV)} {B : List MV} {w ep : Int} {lb' lo' nx' : Nat} {R' : List (List MV)} {fl f2 ep' : Int} {bs : List (List MV)} (L : LS h0 h pl p N fi lb lo nx sf R B w ep) (hb : ∀ k xs, bs[k]? = some xs → B[fi + k]? = some (.tup xs)) (hbs : ∀ xs ∈ bs, xs.length ≤ 24 ∧ ∀ x ∈ xs, atS x = true) (l : bs.length = N) (N0 : 0 < N) (N1 : N < 100) (eo : opn bs N lb' lo' fl = ⟨nx', f2, R'⟩) (ee : tlE bs fl = [(fEpo, .int ep')]) :
    ∃ h', m_Log___init [.ref h.n, .ref pl, .int (fi : Nat), .int (N : Nat), .int (lb' : Nat), .int (lo' : Nat), .int fl] (h.push (.ins 0 [])) = .ok .non h' ∧ LS h0 h' pl h.n N fi lb' lo' nx' (lo' + R'.length) R' B w ep' ∧ Up h h' := by
  obtain ⟨a, b, c, rq, d, x, _, _, x3⟩ := L.ex
  exact log_new d L.up (fun j hj => x3 j (by simp at hj ⊢; omega)) hb hbs l N0 N1 eo ee
theorem ret_of {e : ME} {m : ML} {h h' : MH} {v : MV} (ee : e m h = .ok v h') : gRet e m h = .rt v h' := by
  unfold gRet
  rw [ee]
  rfl
theorem comp_ix {gi : MI1} {it : It1} {ws ys : List MV} {m : ML} {h h1 : MH} {sl : Nat} {e : ME} (ev : gi m h = .ok it h1) (hsz : it.size h1 = ws.length) (hw : ws.length < 1000) (ly : ys.length = ws.length) (hat : ∀ h', Up h1 h' → ∀ j : Nat, it.at_ j h' = some ws[j]?)
    (he : ∀ (j : Nat) x y, ws[j]? = some x → ys[j]? = some y → ∀ h', Up h1 h' → ∃ h2, e ((m.set sl none).set sl (some x)) h' = .ok y h2 ∧ Up h' h2) :
    ∃ h', gLc gi (.one sl) gYes e [sl] m h = .ok (.ref h1.n) h' ∧ h'.get h1.n = some (.lst ys) ∧ Up h1 h' := by
  obtain ⟨acc, h2, e1, ⟨u1, rfl⟩, g1⟩ := lc_loop (it := it) (c := .one sl) (t := gYes) (e := e) (D := h1.n) (mw := m.set sl none) (N := ws.length) (by omega)
    (fun j acc h' => Up h1 h' ∧ acc = ys.take j) (fun acc h' p => by rw [hat h' p.1, List.getElem?_eq_none (Nat.le_refl _)]) (fun j acc h' hj p g => by
      obtain ⟨u, rfl⟩ := p
      have hx : ws[j]? = some ws[j] := List.getElem?_eq_getElem hj
      have hy : ys[j]? = some ys[j] := List.getElem?_eq_getElem (by omega)
      obtain ⟨h2, a1, a2⟩ := he j _ _ hx hy h' u
      have g2 := a2.at g
      refine ⟨ws[j], (m.set sl none).set sl (some ws[j]), h', true, h', by rw [hat h' u, hx], rfl, rfl, (fun z => nomatch z), fun _ => ⟨ys[j], h2, a1, g2, (u.trans a2).set (Nat.le_refl _) g2, ?_⟩⟩
      rw [List.take_succ, hy]; rfl)
    (ws.length + 1) 0 [] (h1.push (.lst [])) (by omega) (Nat.zero_le _) (by simp) ⟨Up.push, rfl⟩ get_top
  rw [List.take_of_length_le (by omega)] at g1
  refine ⟨h2, ?_, g1, u1⟩
  unfold gLc
  rw [ev]
  simp only [Out.bind]
  rw [hsz]
  exact e1
end K47
set_option Elab.async false
set_option linter.all false
set_option maxRecDepth 100000
set_option maxHeartbeats 400000
namespace K47
open MI XG XM XK DK LG PySem
open L2 (atI ixN)
def BL0 : MS := gAsg (gMake 1 m_Disk___init [] 2 (gCons (gC (.int 7)) (gNil))) (tgName 4)
def BL1 : MS := gAsg (gMake 0 m_Log___init [.int 0, .int 0, .int 0] 7 (gCons (gVar 4) (gCons (gC (.int 2)) (gCons (gC (.int 4)) (gNil))))) (tgName 5)
def BL2 : MS := gAsg (gLst (gCons (gMeth 0 1116028500244747518061 m_Log_many [] 1 (gVar 5) gNil) (gCons (gMeth 0 931561024323279913075 m_Log_safe [] 1 (gVar 5) gNil) (gCons (gMeth 0 2011653476953062778731495525 m_Log_epoch [] 1 (gVar 5) gNil) (gCons (gMeth 0 83956272751114154801631165565160080792226209389383635697774 m_Log_next_block [] 1 (gVar 5) gNil) (gCons (gMeth 0 9783122105461106636624876568225953874034 m_Log_records [] 2 (gVar 5) (gCons (gC (.int 0)) (gNil))) (gCons (gMeth 0 2011653624527041756678586470 m_Log_flush [] 1 (gVar 5) gNil) (gCons (gMeth 1 4664956162465078606366684397699191 m_Disk_writes [] 1 (gVar 4) gNil) (gNil))))))))) (tgName 6)
def BL3 : MS := gIfS (gNot (gTru (gCall m_law_same [] 2 (gCons (gVar 6) (gCons (gLst (gCons (gC (.int 0)) (gCons (gC (.int 0)) (gCons (gC (.int 1)) (gCons (gC (.int 0)) (gCons (gLst (gNil)) (gCons (gC .non) (gCons (gC (.int 0)) (gNil))))))))) (gNil)))))) (gRet (gC (.bl false))) (gNext)
def BL4 : MS := gAsg (gLst (gCons (gMeth 0 4056484048440708167605101516554337 m_Log_append [] 2 (gVar 5) (gCons (gTup (gCons (gC (.str [105, 110])) (gCons (gVar 0) (gNil)))) (gNil))) (gCons (gMeth 0 4056484048440708167605101516554337 m_Log_append [] 2 (gVar 5) (gCons (gLst (gCons (gC .non) (gNil))) (gNil))) (gCons (gMeth 0 2011653624527041756678586470 m_Log_flush [] 1 (gVar 5) gNil) (gCons (gMeth 1 922337630296200970354 m_Disk_read [] 2 (gVar 4) (gCons (gC (.int 2)) (gNil))) (gCons (gMeth 1 1953625185185513168019914860 m_Disk_loose [] 1 (gVar 4) gNil) (gCons (gMeth 0 931561024323279913075 m_Log_safe [] 1 (gVar 5) gNil) (gNil)))))))) (tgName 6)
def BL5 : MS := gIfS (gNot (gTru (gCall m_law_same [] 2 (gCons (gVar 6) (gCons (gLst (gCons (gC (.int 0)) (gCons (gC (.int 1)) (gCons (gC .non) (gCons (gTup (gCons (gC (.str [108, 111, 103])) (gCons (gC (.int 0)) (gCons (gC (.int 1)) (gCons (gC (.int 0)) (gCons (gC (.int 2)) (gCons (gC (.int 2)) (gCons (gC (.str [105, 110])) (gCons (gVar 0) (gCons (gC (.int 1)) (gCons (gC .non) (gNil)))))))))))) (gCons (gLst (gNil)) (gCons (gC (.int 2)) (gNil)))))))) (gNil)))))) (gRet (gC (.bl false))) (gNext)
def BL6 : MS := gAsg (gTup (gCons (gC (.int 1)) (gCons (gC (.int 2)) (gCons (gC (.int 3)) (gCons (gC (.int 4)) (gCons (gC (.int 5)) (gCons (gC (.int 6)) (gCons (gC (.int 7)) (gCons (gVar 0) (gNil)))))))))) (tgName 3)
def BL7 : MS := gAsg (gLst (gCons (gMeth 0 4056484048440708167605101516554337 m_Log_append [] 2 (gVar 5) (gCons (gVar 3) (gNil))) (gCons (gMeth 0 4056484048440708167605101516554337 m_Log_append [] 2 (gVar 5) (gCons (gBin mMulA (gTup (gCons (gC (.str [98])) (gNil))) (gC (.int 8))) (gNil))) (gCons (gMeth 0 4056484048440708167605101516554337 m_Log_append [] 2 (gVar 5) (gCons (gTup (gCons (gC (.str [99])) (gNil))) (gNil))) (gCons (gMeth 0 2011653624527041756678586470 m_Log_flush [] 1 (gVar 5) gNil) (gCons (gMeth 0 83956272751114154801631165565160080792226209389383635697774 m_Log_next_block [] 1 (gVar 5) gNil) (gNil))))))) (tgName 6)
def BL8 : MS := gIfS (gNot (gTru (gCall m_law_same [] 2 (gCons (gVar 6) (gCons (gLst (gCons (gC (.int 2)) (gCons (gC (.int 3)) (gCons (gC (.int 4)) (gCons (gC .non) (gCons (gC (.int 3)) (gNil))))))) (gNil)))))) (gRet (gC (.bl false))) (gNext)
def BL9 : MS := gAsg (gLst (gCons (gBin mAdd (gBin mAdd (gBin mAdd (gTup (gCons (gC (.str [108, 111, 103])) (gCons (gC (.int 1)) (gCons (gC (.int 1)) (gCons (gC (.int 2)) (gCons (gC (.int 2)) (gCons (gC (.int 8)) (gNil)))))))) (gVar 3)) (gTup (gCons (gC (.int 8)) (gNil)))) (gBin mMulA (gTup (gCons (gC (.str [98])) (gNil))) (gC (.int 8)))) (gCons (gTup (gCons (gC (.str [108, 111, 103])) (gCons (gC (.int 2)) (gCons (gC (.int 1)) (gCons (gC (.int 4)) (gCons (gC (.int 1)) (gCons (gC (.int 1)) (gCons (gC (.str [99])) (gNil))))))))) (gCons (gTup (gNil)) (gCons (gTup (gNil)) (gNil)))))) (tgName 2)
def BL10 : MS := gIfS (gNot (gTru (gCall m_law_same [] 2 (gCons (gLc (gIter (gTup (gCons (gC (.int 3)) (gCons (gC (.int 4)) (gCons (gC (.int 5)) (gCons (gC (.int 6)) (gNil))))))) (.one 7) (gYes) (gMeth 1 922337630296200970354 m_Disk_read [] 2 (gVar 4) (gCons (gVar 7) (gNil))) [7]) (gCons (gVar 2) (gNil)))))) (gRet (gC (.bl false))) (gNext)
def BL11 : MS := gAsg (gMakeK 0 m_Log___init [.int 0, .int 0, .int 0] 7 1 3 [(0, 0), (2, 0), (2, 1), (2, 2), (1, 0), (1, 1), (1, 2)] (gNil) (gCons (gVar 4) (gCons (gC (.int 2)) (gCons (gC (.int 4)) (gNil))))) (tgName 1)
def BL12 : MS := gAsg (gLst (gCons (gMeth 0 1116028500244747518061 m_Log_many [] 1 (gVar 1) gNil) (gCons (gMeth 0 931561024323279913075 m_Log_safe [] 1 (gVar 1) gNil) (gCons (gMeth 0 2011653476953062778731495525 m_Log_epoch [] 1 (gVar 1) gNil) (gCons (gMeth 0 83956272751114154801631165565160080792226209389383635697774 m_Log_next_block [] 1 (gVar 1) gNil) (gCons (gMeth 0 9783122105461106636624876568225953874034 m_Log_records [] 2 (gVar 1) (gCons (gC (.int 3)) (gNil))) (gNil))))))) (tgName 6)
def BL13 : MS := gRet (gCall m_law_same [] 2 (gCons (gVar 6) (gCons (gLst (gCons (gC (.int 5)) (gCons (gC (.int 5)) (gCons (gC (.int 2)) (gCons (gC (.int 3)) (gCons (gLst (gCons (gBin mMulA (gTup (gCons (gC (.str [98])) (gNil))) (gC (.int 8))) (gCons (gTup (gCons (gC (.str [99])) (gNil))) (gNil)))) (gNil))))))) (gNil))))
theorem t_BL : m_law_blocks_right = gBody 8 (gSeq BL0 (gSeq BL1 (gSeq BL2 (gSeq BL3 (gSeq BL4 (gSeq BL5 (gSeq BL6 (gSeq BL7 (gSeq BL8 (gSeq BL9 (gSeq BL10 (gSeq BL11 (gSeq BL12 (BL13)))))))))))))) := rfl
theorem if_same {e1 e2 : ME} {a b : MS} {m : ML} {h h1 h' : MH} {q z : Nat} (v : e1 m h = .ok (.ref q) h1) (el : e2 m h1 = .ok (.ref z) h') (sm : m_law_same [.ref q, .ref z] h' = .ok (.bl true) h') : gIfS (gNot (gTru (gCall m_law_same [] 2 (gCons e1 (gCons e2 gNil))))) a b m h = b m h' :=
  (ifS_f (h1 := h') (nt_true ((call2 (n := 2) v el rfl).trans sm)))
theorem hb_of {B : List MV} {bs : List (List MV)} {rest : List MV} {fi : Nat} (e : B.drop fi = bs.map .tup ++ rest) : ∀ k xs, bs[k]? = some xs → B[fi + k]? = some (.tup xs) := fun k xs hk => by
  have kl := (List.getElem?_eq_some_iff.mp hk).1
  rw [← List.getElem?_drop, e, List.getElem?_append_left (by simpa using kl), List.getElem?_map, hk]
  rfl
def wLog : MV := .str [108, 111, 103]
def r0 (o : MV) : List MV := [.str [105, 110], o]
def r1 : List MV := [.non]
def r2 (o : MV) : List MV := [.int 1, .int 2, .int 3, .int 4, .int 5, .int 6, .int 7, o]
def b8 (c : Nat) : List MV := [.str [c], .str [c], .str [c], .str [c], .str [c], .str [c], .str [c], .str [c]]
def r4 : List MV := [.str [99]]
def k0 (o : MV) : List MV := [wLog, .int 0, .int 1, .int 0, .int 2, .int 2, .str [105, 110], o, .int 1, .non]
def k1 (o : MV) : List MV := [wLog, .int 1, .int 1, .int 2, .int 2, .int 8, .int 1, .int 2, .int 3, .int 4, .int 5, .int 6, .int 7, o, .int 8, .str [98], .str [98], .str [98], .str [98], .str [98], .str [98], .str [98], .str [98]]
def k2 : List MV := [wLog, .int 2, .int 1, .int 4, .int 1, .int 1, .str [99]]
def B1 (o : MV) : List MV := [.tup [], .tup [], .tup (k0 o), .tup [], .tup [], .tup [], .tup []]
def B2 (o : MV) : List MV := [.tup [], .tup [], .tup (k0 o), .tup (k1 o), .tup k2, .tup [], .tup []]
def mB (o : MV) (s1 s2 s3 s4 s5 s6 : Option MV) : ML := [some o, s1, s2, s3, s4, s5, s6, none]
theorem all_at {xs : List MV} (a : (xs.all atS) = true) : ∀ x ∈ xs, atS x = true := List.all_eq_true.mp a
theorem all_b {xs : List MV} (a : (xs.all atS) = true) : ∀ x ∈ xs, atB x = true := fun x hx => atS.b (all_at a x hx)
section
variable {h : MH} {n : Nat}
theorem own_s (hn : n < 1000000000) : atS (.int (n : Nat)) = true := decide_eq_true (by omega)
theorem row_ok {r : List MV} (l : r.length ≤ 8) (a : (r.all atS) = true) : r.length ≤ 8 ∧ ∀ x ∈ r, atB x = true := ⟨l, all_b a⟩
theorem blocks_ok (hn : n < 1000000000) : ∃ h', m_law_blocks_right [.int (n : Nat)] h = .ok (.bl true) h' ∧ Up h h' := by
  have oS := own_s hn
  obtain ⟨o, eo⟩ : ∃ o, o = MV.int (n : Nat) := ⟨_, rfl⟩
  rw [← eo] at oS ⊢
  have oB := atS.b oS
  have r0k : (r0 o).all atS = true := by simp [r0, oS]; decide
  have r2k : (r2 o).all atS = true := by simp [r2, oS]; decide
  have k0k : (k0 o).all atS = true := by simp [k0, oS]; decide
  have k1k : (k1 o).all atS = true := by simp [k1, oS]; decide
  -- a disk, a log
  obtain ⟨h1, a, b, c, p1, p2, p3, p4⟩ := disk_new (m := mB o none none none none none none) (e := gC (.int 7)) (n := 7) (h0 := h) (h := h) .refl rfl (by decide)
  have s0 : BL0 (mB o none none none none none none) h = .nx (mB o none none none (some (.ref h.n)) none none) h1 := asg_nx p1
  obtain ⟨h2, l1, L2, u2⟩ := log_new (N := 4) (fi := 2) (lb := 0) (lo := 0) (fl := 0) (bs := List.replicate 4 []) (nx := 0) (R := []) (f2 := 0) (ep := 1) p2 p3 p4 (hb_of (rest := [.tup []]) rfl) (fun xs hx => by rw [List.eq_of_mem_replicate hx]; exact ⟨by decide, fun x hx => by cases hx⟩) (by rfl) (by decide) (by decide) rfl rfl
  have s1 : BL1 (mB o none none none (some (.ref h.n)) none none) h1 = .nx (mB o none none none (some (.ref h.n)) (some (.ref h1.n)) none) h2 := asg_nx (make3 rfl rfl rfl l1)
  -- told
  obtain ⟨pl, epl⟩ : ∃ pl, pl = h.n := ⟨_, rfl⟩
  obtain ⟨p, ep⟩ : ∃ p, p = h1.n := ⟨_, rfl⟩
  rw [← epl, ← ep] at s1 L2
  rw [← epl] at s0
  obtain ⟨m2, em2⟩ : ∃ m, m = mB o none none none (some (.ref pl)) (some (.ref p)) none := ⟨_, rfl⟩
  have g5 : ∀ h, gVar 5 m2 h = .ok (.ref p) h := fun h => by rw [em2]; rfl
  have g4 : ∀ h, gVar 4 m2 h = .ok (.ref pl) h := fun h => by rw [em2]; rfl
  have c1 := L2.recs (g5 _) (a := gC (.int 0)) (k := 0) rfl (Nat.le_refl _) (Nat.zero_le _) (R' := []) rfl
  obtain ⟨h3, eh3⟩ : ∃ h3, h3 = h2.push (.lst (([] : List (List MV)).map .tup)) := ⟨_, rfl⟩
  have u3 : Up h2 h3 := by rw [eh3]; exact Up.push
  have q3 : h3.get h2.n = some (.lst (([] : List (List MV)).map .tup)) := by rw [eh3]; exact get_top
  rw [← eh3] at c1
  have L3 := L2.ups u3
  obtain ⟨h4, c2, u4⟩ := L3.idle (g5 _) (Nat.le_refl _) rfl
  have L4 := L3.ups u4
  obtain ⟨h5, eh5⟩ : ∃ h5, h5 = h4.push (.lst [.int 0, .int 0, .int 1, .int 0, .ref h2.n, .non, .int 0]) := ⟨_, rfl⟩
  have u5 : Up h4 h5 := by rw [eh5]; exact Up.push
  have q5 : h5.get h4.n = some (.lst [.int 0, .int 0, .int 1, .int 0, .ref h2.n, .non, .int 0]) := by rw [eh5]; exact get_top
  have s2 : BL2 m2 h2 = .nx (mB o none none none (some (.ref pl)) (some (.ref p)) (some (.ref h4.n))) h5 := by
    refine (asg_nx (lst_ok (cons_ok (L2.many (g5 _)) (cons_ok (L2.safe (g5 _)) (cons_ok (L2.epoch (g5 _)) (cons_ok (L2.next (g5 _)) (cons_ok c1 (cons_ok c2 (cons_ok (L4.writes (g4 _)) nil_ok))))))) (by simp))).trans ?_
    rw [em2, eh5]; rfl
  have q3' := u5.at (u4.at q3)
  obtain ⟨m3, em3⟩ : ∃ m, m = mB o none none none (some (.ref pl)) (some (.ref p)) (some (.ref h4.n)) := ⟨_, rfl⟩
  have s3 : ∃ h6, BL3 m3 h5 = .nx m3 h6 ∧ Up h5 h6 := by
    let h6 := (h5.push (.lst [])).push (.lst [.int 0, .int 0, .int 1, .int 0, .ref h5.n, .non, .int 0])
    have u6 : Up h5 h6 := Up.push.trans Up.push
    refine ⟨h6, (if_same (q := h4.n) (z := h5.n + 1) (h1 := h5) (h' := h6) (by rw [em3]; rfl) rfl ?_).trans rfl, u6⟩
    have z3 : h6.get h5.n = some (.lst (([] : List (List MV)).map .tup)) := Up.push.at get_top
    exact same_lists (u6.at q5) (get_top (h := h5.push (.lst []))) (.cons (eI (by decide)) (.cons (eI (by decide)) (.cons (eI (by decide)) (.cons (eI (by decide)) (.cons (eL (u6.at q3') (by decide) (fun r hr => by cases hr)) (.cons (eA rfl) (.cons (eI (by decide)) .nil)))))))
      (.cons (eI (by decide)) (.cons (eI (by decide)) (.cons (eI (by decide)) (.cons (eI (by decide)) (.cons (eL z3 (by decide) (fun r hr => by cases hr)) (.cons (eA rfl) (.cons (eI (by decide)) .nil))))))) (by simp) (by simp)
  obtain ⟨h6, s3, u6⟩ := s3
  -- two records
  have L6 := (L4.ups u5).ups u6
  have v5 : ∀ h, gVar 5 m3 h = .ok (.ref p) h := fun h => by rw [em3]; rfl
  have v4 : ∀ h, gVar 4 m3 h = .ok (.ref pl) h := fun h => by rw [em3]; rfl
  obtain ⟨h7, a7, L7⟩ := L6.app (by decide) (v5 _) (a := gTup (gCons (gC (.str [105, 110])) (gCons (gVar 0) (gNil)))) (v := .tup (r0 o)) .refl (by rw [em3]; rfl) (.tup _)
  obtain ⟨h8, a8, L8⟩ := L7.app (by simp) (v5 _) (a := gLst (gCons (gC .non) (gNil))) (v := .ref h7.n) (h1 := h7.push (.lst [.non])) Up.push rfl (.ref get_top)
  obtain ⟨h9, a9, L9⟩ := L8.flush (v5 _) (gs := [[r0 o, r1]]) rfl (by simp) (by simp) (by simp) (by simp) (fun r hr => by
    simp only [List.nil_append, List.cons_append, List.mem_cons, List.not_mem_nil, or_false] at hr
    rcases hr with rfl | rfl
    · exact row_ok (by simp [r0]) r0k
    · exact row_ok (by decide) (by decide)) (by simp) (by decide) (by decide) (by decide) (by decide) (by decide) (B' := B1 o) rfl
  have a10 := L9.read (v4 _) (a := gC (.int 2)) (k := 2) (v := .tup (k0 o)) rfl rfl
  have a11 := L9.loose (v4 _)
  obtain ⟨hA, ehA⟩ : ∃ hA, hA = h9.push (.lst (([] : List (List MV)).map .tup)) := ⟨_, rfl⟩
  have uA : Up h9 hA := by rw [ehA]; exact Up.push
  have qA : hA.get h9.n = some (.lst (([] : List (List MV)).map .tup)) := by rw [ehA]; exact get_top
  have a11' : gMeth 1 1953625185185513168019914860 m_Disk_loose [] 1 (gVar 4) gNil m3 h9 = .ok (.ref h9.n) hA := by rw [a11, ehA]; rfl
  have LA := L9.ups uA
  obtain ⟨hB, ehB⟩ : ∃ hB, hB = hA.push (.lst [.int 0, .int 1, .non, .tup (k0 o), .ref h9.n, .int 2]) := ⟨_, rfl⟩
  have uB : Up hA hB := by rw [ehB]; exact Up.push
  have qB : hB.get hA.n = some (.lst [.int 0, .int 1, .non, .tup (k0 o), .ref h9.n, .int 2]) := by rw [ehB]; exact get_top
  obtain ⟨m4, em4⟩ : ∃ m, m = mB o none none none (some (.ref pl)) (some (.ref p)) (some (.ref hA.n)) := ⟨_, rfl⟩
  have s4 : BL4 m3 h6 = .nx m4 hB := by
    refine (asg_nx (lst_ok (cons_ok a7 (cons_ok a8 (cons_ok a9 (cons_ok a10 (cons_ok a11' (cons_ok (LA.safe (v5 _)) nil_ok)))))) (by simp))).trans ?_
    rw [em3, em4, ehB]; rfl
  have k0t : ∀ {h : MH}, Sd h (.tup (k0 o)) (dT (k0 o)) 2 6000 := eT (by simp [k0]) (all_b k0k)
  have s5 : ∃ h6, BL5 m4 hB = .nx m4 h6 ∧ Up hB h6 := by
    let h6 := (hB.push (.lst [])).push (.lst [.int 0, .int 1, .non, .tup (k0 o), .ref hB.n, .int 2])
    have u6 : Up hB h6 := Up.push.trans Up.push
    refine ⟨h6, (if_same (q := hA.n) (z := hB.n + 1) (h1 := hB) (h' := h6) (by rw [em4]; rfl) (by rw [em4]; rfl) ?_).trans rfl, u6⟩
    have z3 : h6.get hB.n = some (.lst (([] : List (List MV)).map .tup)) := Up.push.at get_top
    exact same_lists (u6.at qB) (get_top (h := hB.push (.lst []))) (.cons (eI (by decide)) (.cons (eI (by decide)) (.cons (eA rfl) (.cons k0t (.cons (eL (u6.at (uB.at qA)) (by decide) (fun r hr => by cases hr)) (.cons (eI (by decide)) .nil))))))
      (.cons (eI (by decide)) (.cons (eI (by decide)) (.cons (eA rfl) (.cons k0t (.cons (eL z3 (by decide) (fun r hr => by cases hr)) (.cons (eI (by decide)) .nil)))))) (by simp) (by simp)
  obtain ⟨hC, s5, uC⟩ := s5
  have LC := (LA.ups uB).ups uC
  obtain ⟨m5, em5⟩ : ∃ m, m = mB o none none (some (.tup (r2 o))) (some (.ref pl)) (some (.ref p)) (some (.ref hA.n)) := ⟨_, rfl⟩
  have s6 : BL6 m4 hC = .nx m5 hC := by rw [em4, em5]; rfl
  have w5 : ∀ h, gVar 5 m5 h = .ok (.ref p) h := fun h => by rw [em5]; rfl
  obtain ⟨i1, b1, M1⟩ := LC.app (by simp) (w5 _) (a := gVar 3) (v := .tup (r2 o)) .refl (by rw [em5]; rfl) (.tup _)
  obtain ⟨i2, b2, M2⟩ := M1.app (by simp) (w5 _) (a := gBin mMulA (gTup (gCons (gC (.str [98])) (gNil))) (gC (.int 8))) (v := .tup (b8 98)) .refl rfl (.tup _)
  obtain ⟨i3, b3, M3⟩ := M2.app (by simp) (w5 _) (a := gTup (gCons (gC (.str [99])) (gNil))) (v := .tup r4) .refl rfl (.tup _)
  obtain ⟨i4, b4, M4⟩ := M3.flush (w5 _) (gs := [[r2 o, b8 98], [r4]]) rfl (by simp) (by simp) (by simp) (by simp) (fun r hr => by
    simp only [List.nil_append, List.cons_append, List.mem_cons, List.not_mem_nil, or_false] at hr
    rcases hr with rfl | rfl | rfl | rfl | rfl
    · exact row_ok (by simp [r0]) r0k
    · exact row_ok (by decide) (by decide)
    · exact row_ok (by simp [r2]) r2k
    · exact row_ok (by decide) (by decide)
    · exact row_ok (by decide) (by decide)) (by simp) (by decide) (by simp [B1]) (by simp) (by decide) (by decide) (B' := B2 o) rfl
  obtain ⟨i5, ei5⟩ : ∃ i5, i5 = i4.push (.lst [.int 2, .int 3, .int 4, .non, .int 3]) := ⟨_, rfl⟩
  have v5' : Up i4 i5 := by rw [ei5]; exact Up.push
  have qi5 : i5.get i4.n = some (.lst [.int 2, .int 3, .int 4, .non, .int 3]) := by rw [ei5]; exact get_top
  obtain ⟨m6, em6⟩ : ∃ m, m = mB o none none (some (.tup (r2 o))) (some (.ref pl)) (some (.ref p)) (some (.ref i4.n)) := ⟨_, rfl⟩
  have s7 : BL7 m5 hC = .nx m6 i5 := by
    refine (asg_nx (lst_ok (cons_ok b1 (cons_ok b2 (cons_ok b3 (cons_ok b4 (cons_ok (M4.next (w5 _)) nil_ok))))) (by simp))).trans ?_
    rw [em5, em6, ei5]; rfl
  have s8 : ∃ h6, BL8 m6 i5 = .nx m6 h6 ∧ Up i5 h6 := by
    let h6 := i5.push (.lst [.int 2, .int 3, .int 4, .non, .int 3])
    have u6 : Up i5 h6 := Up.push
    refine ⟨h6, (if_same (q := i4.n) (z := i5.n) (h1 := i5) (h' := h6) (by rw [em6]; rfl) rfl ?_).trans rfl, u6⟩
    have A : Sds h6 2 6000 [.int 2, .int 3, .int 4, .non, .int 3] _ := .cons (eI (by decide)) (.cons (eI (by decide)) (.cons (eI (by decide)) (.cons (eA rfl) (.cons (eI (by decide)) .nil))))
    exact same_lists (u6.at qi5) get_top A A (by simp) (by simp)
  obtain ⟨i6, s8, v6⟩ := s8
  have M6 := (M4.ups v5').ups v6
  -- four blocks
  obtain ⟨i7, ei7⟩ : ∃ i7, i7 = i6.push (.lst [.tup (k1 o), .tup k2, .tup [], .tup []]) := ⟨_, rfl⟩
  have v7 : Up i6 i7 := by rw [ei7]; exact Up.push
  have qi7 : i7.get i6.n = some (.lst ([k1 o, k2, [], []].map .tup)) := by rw [ei7]; exact get_top
  obtain ⟨m7, em7⟩ : ∃ m, m = mB o none (some (.ref i6.n)) (some (.tup (r2 o))) (some (.ref pl)) (some (.ref p)) (some (.ref i4.n)) := ⟨_, rfl⟩
  have s9 : BL9 m6 i6 = .nx m7 i7 := by rw [em6, em7, ei7]; rfl
  have M7 := M6.ups v7
  have kk : ∀ r ∈ [k1 o, k2, [], []], r.length ≤ 24 ∧ ∀ x ∈ r, atB x = true := fun r hr => by
    simp only [List.mem_cons, List.not_mem_nil, or_false] at hr
    rcases hr with rfl | rfl | rfl | rfl
    · exact ⟨by simp [k1], all_b k1k⟩
    · exact ⟨by decide, all_b (by decide)⟩
    · exact ⟨by decide, fun x hx => by cases hx⟩
    · exact ⟨by decide, fun x hx => by cases hx⟩
  have s10 : ∃ h6, BL10 m7 i7 = .nx m7 h6 ∧ Up i7 h6 := by
    obtain ⟨h6, z1, z2, z3⟩ := comp_ix (ws := [.int 3, .int 4, .int 5, .int 6]) (ys := [k1 o, k2, [], []].map .tup) (sl := 7) (m := m7) (e := gMeth 1 922337630296200970354 m_Disk_read [] 2 (gVar 4) (gCons (gVar 7) (gNil))) (gi := gIter (gTup (gCons (gC (.int 3)) (gCons (gC (.int 4)) (gCons (gC (.int 5)) (gCons (gC (.int 6)) (gNil))))))) (it := it1 [.int 3, .int 4, .int 5, .int 6]) (h := i7) (h1 := i7) rfl rfl (by decide) rfl (fun h' _ j => rfl) (fun j x y hx hy h' u => by
      have M := M7.ups u
      have rd : ∀ (k : Nat) (v : MV), (B2 o)[k]? = some v → gMeth 1 922337630296200970354 m_Disk_read [] 2 (gVar 4) (gCons (gVar 7) (gNil)) ((m7.set 7 none).set 7 (some (.int (k : Nat)))) h' = .ok v h' := fun k v hv => M.read (by rw [em7]; rfl) (k := k) (by rw [em7]; rfl) hv
      match j with
      | 0 => cases hx; cases hy; exact ⟨h', rd 3 _ rfl, .refl⟩
      | 1 => cases hx; cases hy; exact ⟨h', rd 4 _ rfl, .refl⟩
      | 2 => cases hx; cases hy; exact ⟨h', rd 5 _ rfl, .refl⟩
      | 3 => cases hx; cases hy; exact ⟨h', rd 6 _ rfl, .refl⟩
      | j + 4 => cases hx)
    refine ⟨h6, (if_same (q := i7.n) (z := i6.n) (h1 := h6) (h' := h6) z1 (by rw [em7]; rfl) ?_).trans rfl, z3⟩
    exact same_sd (eL z2 (by simp) kk) (eL (z3.at qi7) (by simp) kk) rfl rfl (by decide) (by decide) (by decide)
  obtain ⟨i8, s10, v8⟩ := s10
  -- another log
  have M8 := M7.ups v8
  obtain ⟨i9, l9, N9, v9⟩ := M8.log (lb' := 0) (lo' := 0) (fl := 0) (bs := [k0 o, k1 o, k2, []]) (nx' := 3) (R' := [r0 o, r1, r2 o, b8 98, r4]) (f2 := 1) (ep' := 2) (hb_of (rest := [.tup []]) rfl) (fun xs hx => by
    simp only [List.mem_cons, List.not_mem_nil, or_false] at hx
    rcases hx with rfl | rfl | rfl | rfl
    · exact ⟨by simp [k0], all_at k0k⟩
    · exact ⟨by simp [k1], all_at k1k⟩
    · exact ⟨by decide, all_at (by decide)⟩
    · exact ⟨by decide, fun x hx => by cases hx⟩) rfl (by simp) (by simp) rfl rfl
  obtain ⟨m8, em8⟩ : ∃ m, m = mB o (some (.ref i8.n)) (some (.ref i6.n)) (some (.tup (r2 o))) (some (.ref pl)) (some (.ref p)) (some (.ref i4.n)) := ⟨_, rfl⟩
  have s11 : BL11 m7 i8 = .nx m8 i9 := by
    refine (asg_nx (v := .ref i8.n) (h' := i9) ?_).trans (by rw [em7, em8]; rfl)
    exact makeK3 (by rw [em7]; rfl) rfl rfl l9
  have x1 : ∀ h, gVar 1 m8 h = .ok (.ref i8.n) h := fun h => by rw [em8]; rfl
  have d1 := N9.recs (x1 _) (a := gC (.int 3)) (k := 3) rfl (by decide) (by simp) (R' := [b8 98, r4]) rfl
  obtain ⟨jA, ejA⟩ : ∃ jA, jA = i9.push (.lst ([b8 98, r4].map .tup)) := ⟨_, rfl⟩
  have vA : Up i9 jA := by rw [ejA]; exact Up.push
  have qjA : jA.get i9.n = some (.lst ([b8 98, r4].map .tup)) := by rw [ejA]; exact get_top
  rw [← ejA] at d1
  obtain ⟨jB, ejB⟩ : ∃ jB, jB = jA.push (.lst [.int 5, .int 5, .int 2, .int 3, .ref i9.n]) := ⟨_, rfl⟩
  have vB : Up jA jB := by rw [ejB]; exact Up.push
  have qjB : jB.get jA.n = some (.lst [.int 5, .int 5, .int 2, .int 3, .ref i9.n]) := by rw [ejB]; exact get_top
  obtain ⟨m9, em9⟩ : ∃ m, m = mB o (some (.ref i8.n)) (some (.ref i6.n)) (some (.tup (r2 o))) (some (.ref pl)) (some (.ref p)) (some (.ref jA.n)) := ⟨_, rfl⟩
  have s12 : BL12 m8 i9 = .nx m9 jB := by
    refine (asg_nx (lst_ok (cons_ok (N9.many (x1 _)) (cons_ok (N9.safe (x1 _)) (cons_ok (N9.epoch (x1 _)) (cons_ok (N9.next (x1 _)) (cons_ok d1 nil_ok))))) (by simp))).trans ?_
    rw [em8, em9, ejB]; rfl
  have s13 : ∃ h6, BL13 m9 jB = .rt (.bl true) h6 ∧ Up jB h6 := by
    let h6 := (jB.push (.lst [.tup (b8 98), .tup r4])).push (.lst [.int 5, .int 5, .int 2, .int 3, .ref jB.n])
    have u6 : Up jB h6 := Up.push.trans Up.push
    refine ⟨h6, ?_, u6⟩
    have z3 : h6.get jB.n = some (.lst ([b8 98, r4].map .tup)) := Up.push.at get_top
    have kk : ∀ r ∈ [b8 98, r4], r.length ≤ 24 ∧ ∀ x ∈ r, atB x = true := fun r hr => by
      simp only [List.mem_cons, List.not_mem_nil, or_false] at hr
      rcases hr with rfl | rfl
      · exact ⟨by decide, all_b (by decide)⟩
      · exact ⟨by decide, all_b (by decide)⟩
    have sm := same_lists (u6.at qjB) (get_top (h := jB.push (.lst [.tup (b8 98), .tup r4]))) (.cons (eI (by decide)) (.cons (eI (by decide)) (.cons (eI (by decide)) (.cons (eI (by decide)) (.cons (eL (u6.at (vB.at qjA)) (by simp) kk) .nil)))))
      (.cons (eI (by decide)) (.cons (eI (by decide)) (.cons (eI (by decide)) (.cons (eI (by decide)) (.cons (eL z3 (by simp) kk) .nil))))) (by simp) (by simp)
    exact ret_of ((call2 (n := 2) (x := .ref jA.n) (y := .ref (jB.n + 1)) (h1 := jB) (h2 := h6) (by rw [em9]; rfl) rfl rfl).trans sm)
  obtain ⟨jC, s13, vC⟩ := s13
  refine ⟨jC, ?_, N9.up.trans (vA.trans (vB.trans vC))⟩
  rw [t_BL]
  rw [← em2] at s1
  exact body_rt ((seq_nx s0).trans ((seq_nx s1).trans ((seq_nx s2).trans ((by rw [← em3]; exact seq_nx s3 : gSeq BL3 _ (mB o none none none (some (.ref pl)) (some (.ref p)) (some (.ref h4.n))) h5 = _).trans ((seq_nx s4).trans ((seq_nx s5).trans ((seq_nx s6).trans ((seq_nx s7).trans ((seq_nx s8).trans ((seq_nx s9).trans ((seq_nx s10).trans ((seq_nx s11).trans ((seq_nx s12).trans s13)))))))))))))
end
end K47
set_option Elab.async false
set_option linter.all false
set_option maxRecDepth 100000
set_option maxHeartbeats 400000
namespace K47
open MI XG XM XK DK LG PySem
open L2 (atI ixN)
def TA0 : MS := gAsg (gMake 1 m_Disk___init [] 2 (gCons (gC (.int 4)) (gNil))) (tgName 3)
def TA1 : MS := gAsg (gMake 0 m_Log___init [.int 0, .int 0, .int 0] 7 (gCons (gVar 3) (gCons (gC (.int 0)) (gCons (gC (.int 4)) (gNil))))) (tgName 4)
def TA2 : MS := gExpr (gMeth 0 4056484048440708167605101516554337 m_Log_append [] 2 (gVar 4) (gCons (gTup (gCons (gC (.str [97])) (gCons (gVar 0) (gNil)))) (gNil)))
def TA3 : MS := gExpr (gMeth 0 2011653624527041756678586470 m_Log_flush [] 1 (gVar 4) gNil)
def TA4 : MS := gFor (gIter (gTup (gCons (gC (.str [98])) (gCons (gC (.str [99])) (gNil))))) (tgName 5) (gSeq (gExpr (gMeth 0 4056484048440708167605101516554337 m_Log_append [] 2 (gVar 4) (gCons (gBin mMulA (gTup (gCons (gVar 5) (gNil))) (gC (.int 8))) (gNil)))) (gExpr (gMeth 0 4056484048440708167605101516554337 m_Log_append [] 2 (gVar 4) (gCons (gBin mMulA (gTup (gCons (gVar 5) (gNil))) (gC (.int 8))) (gNil)))))
def TA5 : MS := gExpr (gMeth 1 89448737517867230812707293064732857783211392600279667966054 m_Disk_fail_after [] 2 (gVar 3) (gCons (gC (.int 2)) (gNil)))
def TA6 : MS := gAsg (gC .non) (tgName 1)
def TA7 : MS := gTryK (List.lookup · [(6, false), (7, false), (8, false), (2, false), (3, false), (4, true), (5, true)]) 6 (gMeth 0 2011653624527041756678586470 m_Log_flush [] 1 (gVar 4) gNil) (gAsg (gVar 6) (tgName 1))
def TA8 : MS := gIfS (gOr (gNot (gTru (gUn (mIsE (List.lookup · [(6, false), (7, false), (8, false), (2, false), (3, false), (4, true), (5, false)])) (gVar 1)))) (gB (gBin mNeX (gCB (f1 mLenV) (gCons (gMeth 1 1953625185185513168019914860 m_Disk_loose [] 1 (gVar 3) gNil) (gNil))) (gC (.int 2))))) (gRet (gC (.bl false))) (gNext)
def TA9 : MS := gExpr (gMeth 1 2011653624526953795760947299 m_Disk_crash [] 2 (gVar 3) (gCons (gLst (gCons (gC (.int 1)) (gNil))) (gNil)))
def TA10 : MS := gAsg (gMake 0 m_Log___init [.int 0, .int 0, .int 0] 7 (gCons (gVar 3) (gCons (gC (.int 0)) (gCons (gC (.int 4)) (gNil))))) (tgName 4)
def TA11 : MS := gIfS (gNot (gTru (gCall m_law_same [] 2 (gCons (gLst (gCons (gMeth 0 9783122105461106636624876568225953874034 m_Log_records [] 2 (gVar 4) (gCons (gC (.int 0)) (gNil))) (gCons (gMeth 0 2011653476953062778731495525 m_Log_epoch [] 1 (gVar 4) gNil) (gCons (gMeth 0 83956272751114154801631165565160080792226209389383635697774 m_Log_next_block [] 1 (gVar 4) gNil) (gNil))))) (gCons (gLst (gCons (gLst (gCons (gTup (gCons (gC (.str [97])) (gCons (gVar 0) (gNil)))) (gNil))) (gCons (gC (.int 2)) (gCons (gC (.int 1)) (gNil))))) (gNil)))))) (gRet (gC (.bl false))) (gNext)
def TA12 : MS := gExpr (gMeth 0 4056484048440708167605101516554337 m_Log_append [] 2 (gVar 4) (gCons (gBin mMulA (gTup (gCons (gC (.str [100])) (gNil))) (gC (.int 8))) (gNil)))
def TA13 : MS := gExpr (gMeth 0 4056484048440708167605101516554337 m_Log_append [] 2 (gVar 4) (gCons (gBin mMulA (gTup (gCons (gC (.str [101])) (gNil))) (gC (.int 8))) (gNil)))
def TA14 : MS := gExpr (gMeth 0 2011653624527041756678586470 m_Log_flush [] 1 (gVar 4) gNil)
def TA15 : MS := gExpr (gMeth 1 2011653624526953795760947299 m_Disk_crash [] 2 (gVar 3) (gCons (gTup (gNil)) (gNil)))
def TA16 : MS := gAsg (gMake 0 m_Log___init [.int 0, .int 0, .int 0] 7 (gCons (gVar 3) (gCons (gC (.int 0)) (gCons (gC (.int 4)) (gNil))))) (tgName 4)
def TA17 : MS := gAsg (gLst (gCons (gLst (gCons (gTup (gCons (gC (.str [97])) (gCons (gVar 0) (gNil)))) (gCons (gBin mMulA (gTup (gCons (gC (.str [100])) (gNil))) (gC (.int 8))) (gCons (gBin mMulA (gTup (gCons (gC (.str [101])) (gNil))) (gC (.int 8))) (gNil))))) (gCons (gC (.int 3)) (gCons (gC (.int 2)) (gCons (gBin mAdd (gBin mAdd (gBin mAdd (gTup (gCons (gC (.str [108, 111, 103])) (gCons (gC (.int 2)) (gCons (gC (.int 1)) (gCons (gC (.int 3)) (gCons (gC (.int 2)) (gCons (gC (.int 8)) (gNil)))))))) (gBin mMulA (gTup (gCons (gC (.str [99])) (gNil))) (gC (.int 8)))) (gTup (gCons (gC (.int 8)) (gNil)))) (gBin mMulA (gTup (gCons (gC (.str [99])) (gNil))) (gC (.int 8)))) (gNil)))))) (tgName 2)
def TA18 : MS := gRet (gCall m_law_same [] 2 (gCons (gLst (gCons (gMeth 0 9783122105461106636624876568225953874034 m_Log_records [] 2 (gVar 4) (gCons (gC (.int 0)) (gNil))) (gCons (gMeth 0 2011653476953062778731495525 m_Log_epoch [] 1 (gVar 4) gNil) (gCons (gMeth 0 83956272751114154801631165565160080792226209389383635697774 m_Log_next_block [] 1 (gVar 4) gNil) (gCons (gMeth 1 922337630296200970354 m_Disk_read [] 2 (gVar 3) (gCons (gC (.int 2)) (gNil))) (gNil)))))) (gCons (gVar 2) (gNil))))
theorem t_TA : m_law_tail_right = gBody 7 (gSeq TA0 (gSeq TA1 (gSeq TA2 (gSeq TA3 (gSeq TA4 (gSeq TA5 (gSeq TA6 (gSeq TA7 (gSeq TA8 (gSeq TA9 (gSeq TA10 (gSeq TA11 (gSeq TA12 (gSeq TA13 (gSeq TA14 (gSeq TA15 (gSeq TA16 (gSeq TA17 (TA18))))))))))))))))))) := rfl
theorem for2 {gi : MI1} {t : MG} {b : MS} {x y : MV} {m m1 m2 m3 m4 : ML} {h h2 h4 : MH} (ev : gi m h = .ok (it1 [x, y]) h) (t0 : t x m h = .nx m1 h) (b0 : b m1 h = .nx m2 h2) (t1 : t y m2 h2 = .nx m3 h2) (b1 : b m3 h2 = .nx m4 h4) : gFor gi t b m h = .nx m4 h4 := by
  unfold gFor
  rw [ev]
  simp only [Out.bindS]
  show gForN (it1 [x, y]) t b 3 0 m h = _
  unfold gForN
  rw [show (it1 [x, y]).at_ 0 h = some (some x) from rfl]
  simp only [t0, b0]
  unfold gForN
  rw [show (it1 [x, y]).at_ (0 + 1) h2 = some (some y) from rfl]
  simp only [t1, b1]
  unfold gForN
  rw [show (it1 [x, y]).at_ (0 + 1 + 1) h4 = some none from rfl]
def ra (o : MV) : List MV := [.str [97], o]
def ka (o : MV) : List MV := [wLog, .int 0, .int 1, .int 0, .int 1, .int 2, .str [97], o]
def kc : List MV := [wLog, .int 2, .int 1, .int 3, .int 2, .int 8, .str [99], .str [99], .str [99], .str [99], .str [99], .str [99], .str [99], .str [99], .int 8, .str [99], .str [99], .str [99], .str [99], .str [99], .str [99], .str [99], .str [99]]
def kd : List MV := [wLog, .int 1, .int 2, .int 1, .int 2, .int 8, .str [100], .str [100], .str [100], .str [100], .str [100], .str [100], .str [100], .str [100], .int 8, .str [101], .str [101], .str [101], .str [101], .str [101], .str [101], .str [101], .str [101]]
def T1 (o : MV) : List MV := [.tup (ka o), .tup [], .tup [], .tup []]
def T2 (o : MV) : List MV := [.tup (ka o), .tup [], .tup kc, .tup []]
def T3 (o : MV) : List MV := [.tup (ka o), .tup kd, .tup kc, .tup []]
def gT : List (List (List MV)) := [[b8 98, b8 98], [b8 99, b8 99]]
def mT (o : MV) (s1 s2 s3 s4 s5 : Option MV) : ML := [some o, s1, s2, s3, s4, s5, none]
section
variable {h : MH} {n : Nat}
theorem tail_ok (hn : n < 1000000000) : ∃ h', m_law_tail_right [.int (n : Nat)] h = .ok (.bl true) h' ∧ Up h h' := by
  have oS := own_s hn
  obtain ⟨o, eo⟩ : ∃ o, o = MV.int (n : Nat) := ⟨_, rfl⟩
  rw [← eo] at oS ⊢
  have rak : (ra o).all atS = true := by simp [ra, oS]; decide
  have kak : (ka o).all atS = true := by simp [ka, oS]; decide
  have r8 : ∀ r ∈ [ra o, b8 98, b8 98, b8 99, b8 99], r.length ≤ 8 ∧ ∀ x ∈ r, atB x = true := fun r hr => by
    simp only [List.mem_cons, List.not_mem_nil, or_false] at hr
    rcases hr with rfl | rfl | rfl | rfl | rfl
    · exact row_ok (by simp [ra]) rak
    all_goals exact row_ok (by decide) (by decide)
  obtain ⟨h1, a, b, c, p1, p2, p3, p4⟩ := disk_new (m := mT o none none none none none) (e := gC (.int 4)) (n := 4) (h0 := h) (h := h) .refl rfl (by decide)
  obtain ⟨h2, l1, L2, u2⟩ := log_new (N := 4) (fi := 0) (lb := 0) (lo := 0) (fl := 0) (bs := List.replicate 4 []) (nx := 0) (R := []) (f2 := 0) (ep := 1) p2 p3 p4 (hb_of (rest := []) rfl) (fun xs hx => by rw [List.eq_of_mem_replicate hx]; exact ⟨by decide, fun x hx => by cases hx⟩) (by rfl) (by decide) (by decide) rfl rfl
  obtain ⟨pl, epl⟩ : ∃ pl, pl = h.n := ⟨_, rfl⟩
  obtain ⟨p, ep⟩ : ∃ p, p = h1.n := ⟨_, rfl⟩
  rw [← epl] at p1 p2 p4
  have s0 : TA0 (mT o none none none none none) h = .nx (mT o none none (some (.ref pl)) none none) h1 := asg_nx p1
  have s1 : TA1 (mT o none none (some (.ref pl)) none none) h1 = .nx (mT o none none (some (.ref pl)) (some (.ref p)) none) h2 := by
    rw [ep]
    rw [← epl] at l1
    exact asg_nx (make3 rfl rfl rfl l1)
  rw [← epl, ← ep] at L2
  obtain ⟨m1, em1⟩ : ∃ m, m = mT o none none (some (.ref pl)) (some (.ref p)) none := ⟨_, rfl⟩
  have g4 : ∀ h, gVar 4 m1 h = .ok (.ref p) h := fun h => by rw [em1]; rfl
  obtain ⟨h3, a3, L3⟩ := L2.app (by decide) (g4 _) (a := gTup (gCons (gC (.str [97])) (gCons (gVar 0) (gNil)))) (v := .tup (ra o)) .refl (by rw [em1]; rfl) (.tup _)
  have s2 : TA2 m1 h2 = .nx m1 h3 := expr_nx a3
  obtain ⟨h4, a4, L4⟩ := L3.flush (g4 _) (gs := [[ra o]]) rfl (by simp) (by simp) (by simp) (by simp) (fun r hr => r8 r (by simp at hr ⊢; exact .inl hr)) (by simp) (by decide) (by decide) (by decide) (by decide) (by decide) (B' := T1 o) rfl
  have s3 : TA3 m1 h3 = .nx m1 h4 := expr_nx a4
  -- two pairs
  obtain ⟨m2, em2⟩ : ∃ m, m = mT o none none (some (.ref pl)) (some (.ref p)) (some (.str [98])) := ⟨_, rfl⟩
  obtain ⟨m3, em3⟩ : ∃ m, m = mT o none none (some (.ref pl)) (some (.ref p)) (some (.str [99])) := ⟨_, rfl⟩
  obtain ⟨h5, a5, L5⟩ := L4.app (by simp) (o := gVar 4) (m := m2) (by rw [em2]; rfl) (a := gBin mMulA (gTup (gCons (gVar 5) (gNil))) (gC (.int 8))) (v := .tup (b8 98)) .refl (by rw [em2]; rfl) (.tup _)
  obtain ⟨h6, a6, L6⟩ := L5.app (by simp) (o := gVar 4) (m := m2) (by rw [em2]; rfl) (a := gBin mMulA (gTup (gCons (gVar 5) (gNil))) (gC (.int 8))) (v := .tup (b8 98)) .refl (by rw [em2]; rfl) (.tup _)
  obtain ⟨h7, a7, L7⟩ := L6.app (by simp) (o := gVar 4) (m := m3) (by rw [em3]; rfl) (a := gBin mMulA (gTup (gCons (gVar 5) (gNil))) (gC (.int 8))) (v := .tup (b8 99)) .refl (by rw [em3]; rfl) (.tup _)
  obtain ⟨h8, a8, L8⟩ := L7.app (by simp) (o := gVar 4) (m := m3) (by rw [em3]; rfl) (a := gBin mMulA (gTup (gCons (gVar 5) (gNil))) (gC (.int 8))) (v := .tup (b8 99)) .refl (by rw [em3]; rfl) (.tup _)
  have s4 : TA4 m1 h4 = .nx m3 h8 := for2 rfl (by rw [em1, em2]; rfl) ((seq_nx (expr_nx a5)).trans (expr_nx a6)) (by rw [em2, em3]; rfl) ((seq_nx (expr_nx a7)).trans (expr_nx a8))
  -- the flush fails
  obtain ⟨ka', kb, kc', rq, d8, l8, x1, x2, x3⟩ := L8.ex
  have y1 := x1
  have y2 := x2
  simp only [List.mem_cons, List.not_mem_nil, or_false, not_or] at y1 y2
  obtain ⟨h9, f9, D9, k9⟩ := fail_ok d8 (.int 2)
  have s5 : TA5 m3 h8 = .nx m3 h9 := expr_nx ((meth1 (n := 2) (h1 := h8) (h2 := h8) (x := .int 2) (by rw [em3]; rfl) d8.ins rfl rfl rfl).trans f9)
  have L9 := l8.kp k9 (by simpa using y1.1) (by simpa using y2.1)
  obtain ⟨m4, em4⟩ : ∃ m, m = mT o (some .non) none (some (.ref pl)) (some (.ref p)) (some (.str [99])) := ⟨_, rfl⟩
  have s6 : TA6 m3 h9 = .nx m4 h9 := by rw [em3, em4]; rfl
  have lv : lvOf ((2 : Nat) : Int) = .int 2 := rfl
  rw [← lv] at D9
  obtain ⟨hA, w', fA, DA, kA⟩ := flush_er (eG := 3) (eF := 5) (eS := 4) (eB := 2) L9 D9 y1.1 (by simp; exact ⟨y2.1, y2.2.2⟩) (Nat.zero_le _) (by simp) (fun r hr => r8 r hr) (by simp) (by decide) (by simp [T1]) (by simp) (by decide) (by decide) (gs := gT) rfl (by decide) (by decide) (by simp [gT])
  obtain ⟨m5, em5⟩ : ∃ m, m = mT o (some (.err 4 [] [])) none (some (.ref pl)) (some (.ref p)) (some (.str [99])) := ⟨_, rfl⟩
  have s7 : TA7 m4 h9 = .nx m5 hA := by
    have me : gMeth 0 2011653624527041756678586470 m_Log_flush [] 1 (gVar 4) gNil m4 h9 = .er (.own 4 [] []) hA := (meth0 (n := 1) (by rw [em4]; rfl) L9.ins rfl rfl).trans fA
    unfold TA7 gTryK
    rw [me, em4, em5]
    rfl
  have lz := loose_ok DA
  obtain ⟨hB, ehB⟩ : ∃ hB, hB = hA.push (.lst ((wL 0 4 1 1 gT 1 (T1 o) 2).map lp)) := ⟨_, rfl⟩
  have uB : Up hA hB := by rw [ehB]; exact Up.push
  have gB' : hB.get hA.n = some (.lst ((wL 0 4 1 1 gT 1 (T1 o) 2).map lp)) := by rw [ehB]; exact get_top
  have lz' : mLoose 1 [.ref pl] hA = .ok (.ref hA.n) hB := by rw [ehB]; exact lz
  have s8 : TA8 m5 hA = .nx m5 hB := by
    have c1 : gNot (gTru (gUn (mIsE (List.lookup · [(6, false), (7, false), (8, false), (2, false), (3, false), (4, true), (5, false)])) (gVar 1))) m5 hA = .ok false hA := by rw [em5]; rfl
    have c2 : gMeth 1 1953625185185513168019914860 m_Disk_loose [] 1 (gVar 3) gNil m5 hA = .ok (.ref hA.n) hB := (meth0 (n := 1) (by rw [em5]; rfl) DA.ins rfl rfl).trans lz'
    have c3 : gCB (f1 mLenV) (gCons (gMeth 1 1953625185185513168019914860 m_Disk_loose [] 1 (gVar 3) gNil) (gNil)) m5 hA = .ok (.int 2) hB := (cb1 c2).trans (Sq.ref gB').len
    refine (ifS_f (h1 := hB) ((or_f c1).trans ?_)).trans rfl
    unfold gB
    rw [bin_ok c3 rfl]
    rfl
  -- a crash that keeps one
  obtain ⟨hC, ehC⟩ : ∃ hC, hC = hB.push (.lst (kns [1])) := ⟨_, rfl⟩
  have uC : Up hB hC := by rw [ehC]; exact Up.push
  have gC' : hC.get hB.n = some (.lst (kns [1])) := by rw [ehC]; exact get_top
  have la := MH.get_lt DA.ga
  have nB := uB.n
  obtain ⟨hD, a', b', c', z1, z2, z3, z4, z5, z6⟩ := crash_ok (eL := 6) ((DA.up uB).up uC) (ks := [1]) (.ref gC') (fun q e => by cases e; omega) (fun k hk => by rw [List.mem_singleton.mp hk]; exact Nat.lt_of_lt_of_le (by decide) (Nat.le_of_eq (wL_len (fi := 0) (cn := 4) (nx := 1) (sf := 1) (ep := 1) (gs := gT) (B := T1 o) 2 (by decide)).symm))
  have z2' : Dsk 1 hD pl a' b' c' (T2 o) (T2 o) [] w' .non := z2
  have s9 : TA9 m5 hB = .nx m5 hD := expr_nx ((meth1 (n := 2) (h1 := hB) (h2 := hC) (x := .ref hB.n) (by rw [em5]; rfl) (DA.up uB).ins rfl (by rw [ehC]; rfl) rfl).trans z1)
  have up8 := L8.up
  have up9 : Up h h9 := up_kp up8 k9 (fun j hj => by rw [List.mem_singleton.mp hj]; exact x3 pl (by simp))
  have upA : Up h hA := up_kp up9 kA (fun j hj => x3 j (by simp at hj ⊢; omega))
  have upC := (upA.trans uB).trans uC
  have upD : Up h hD := up_kp upC z3 (fun j hj => x3 j (by simp at hj ⊢; omega))
  have nC := upC.n
  have zp := x3 pl (by simp)
  obtain ⟨hE, lE, ME, uE⟩ := log_new (N := 4) (fi := 0) (lb := 0) (lo := 0) (fl := 0) (bs := [ka o, [], kc, []]) (nx := 1) (R := [ra o]) (f2 := 1) (ep := 2) z2' upD (by simp; omega) (hb_of (rest := []) rfl) (fun xs hx => by
    simp only [List.mem_cons, List.not_mem_nil, or_false] at hx
    rcases hx with rfl | rfl | rfl | rfl
    · exact ⟨by simp [ka], all_at kak⟩
    · exact ⟨by decide, fun x hx => by cases hx⟩
    · exact ⟨by decide, all_at (by decide)⟩
    · exact ⟨by decide, fun x hx => by cases hx⟩) (by rfl) (by decide) (by decide) rfl rfl
  obtain ⟨p2', ep2⟩ : ∃ p, p = hD.n := ⟨_, rfl⟩
  rw [← ep2] at ME
  obtain ⟨m6, em6⟩ : ∃ m, m = mT o (some (.err 4 [] [])) none (some (.ref pl)) (some (.ref p2')) (some (.str [99])) := ⟨_, rfl⟩
  have s10 : TA10 m5 hD = .nx m6 hE := by
    refine (asg_nx (make3 (by rw [em5]; rfl) rfl rfl lE)).trans ?_
    rw [em5, em6, ep2]; rfl
  have v4 : ∀ h, gVar 4 m6 h = .ok (.ref p2') h := fun h => by rw [em6]; rfl
  have v3 : ∀ h, gVar 3 m6 h = .ok (.ref pl) h := fun h => by rw [em6]; rfl
  -- what is told
  have rk : ∀ r ∈ [ra o], r.length ≤ 24 ∧ ∀ x ∈ r, atB x = true := fun r hr => by
    rw [List.mem_singleton.mp hr]
    exact ⟨by simp [ra], all_b rak⟩
  have s11 : ∃ h6, TA11 m6 hE = .nx m6 h6 ∧ Up hE h6 := by
    have d1 := ME.recs (v4 _) (a := gC (.int 0)) (k := 0) rfl (by decide) (by simp) (R' := [ra o]) rfl
    obtain ⟨j1, e1⟩ : ∃ j, j = hE.push (.lst ([ra o].map .tup)) := ⟨_, rfl⟩
    have w1 : Up hE j1 := by rw [e1]; exact Up.push
    have q1 : j1.get hE.n = some (.lst ([ra o].map .tup)) := by rw [e1]; exact get_top
    rw [← e1] at d1
    have M1 := ME.ups w1
    obtain ⟨j2, e2⟩ : ∃ j, j = j1.push (.lst [.ref hE.n, .int 2, .int 1]) := ⟨_, rfl⟩
    have w2 : Up j1 j2 := by rw [e2]; exact Up.push
    have q2 : j2.get j1.n = some (.lst [.ref hE.n, .int 2, .int 1]) := by rw [e2]; exact get_top
    have c1 := lst_ok (cons_ok d1 (cons_ok (M1.epoch (v4 _)) (cons_ok (M1.next (v4 _)) nil_ok))) (by simp)
    let j4 := (j2.push (.lst [.tup (ra o)])).push (.lst [.ref j2.n, .int 2, .int 1])
    have w4 : Up j2 j4 := Up.push.trans Up.push
    have z3 : j4.get j2.n = some (.lst ([ra o].map .tup)) := Up.push.at get_top
    refine ⟨j4, (if_same (q := j1.n) (z := j2.n + 1) (h1 := j2) (h' := j4) (c1.trans (by rw [e2]; rfl)) (by rw [em6]; rfl) ?_).trans rfl, w1.trans (w2.trans w4)⟩
    exact same_lists (w4.at q2) (get_top (h := j2.push (.lst [.tup (ra o)]))) (.cons (eL (w4.at (w2.at q1)) (by simp) rk) (.cons (eI (by decide)) (.cons (eI (by decide)) .nil))) (.cons (eL z3 (by simp) rk) (.cons (eI (by decide)) (.cons (eI (by decide)) .nil))) (by simp) (by simp)
  obtain ⟨hF, s11, uF⟩ := s11
  have MF := ME.ups uF
  obtain ⟨hG, aG, MG⟩ := MF.app (by simp) (v4 _) (a := gBin mMulA (gTup (gCons (gC (.str [100])) (gNil))) (gC (.int 8))) (v := .tup (b8 100)) .refl rfl (.tup _)
  obtain ⟨hH, aH, MH'⟩ := MG.app (by simp) (v4 _) (a := gBin mMulA (gTup (gCons (gC (.str [101])) (gNil))) (gC (.int 8))) (v := .tup (b8 101)) .refl rfl (.tup _)
  have r9 : ∀ r ∈ [ra o, b8 100, b8 101], r.length ≤ 24 ∧ r.length ≤ 8 ∧ ∀ x ∈ r, atB x = true := fun r hr => by
    simp only [List.mem_cons, List.not_mem_nil, or_false] at hr
    rcases hr with rfl | rfl | rfl
    · exact ⟨by simp [ra], row_ok (by simp [ra]) rak⟩
    all_goals exact ⟨by decide, row_ok (by decide) (by decide)⟩
  obtain ⟨hI, aI, MI'⟩ := MH'.flush (v4 _) (gs := [[b8 100, b8 101]]) rfl (by simp) (by simp) (by simp) (by simp) (fun r hr => (r9 r hr).2) (by simp) (by decide) (by simp [T2]) (by simp) (by decide) (by decide) (B' := T3 o) rfl
  have s12 : TA12 m6 hF = .nx m6 hG := expr_nx aG
  have s13 : TA13 m6 hG = .nx m6 hH := expr_nx aH
  have s14 : TA14 m6 hH = .nx m6 hI := expr_nx aI
  obtain ⟨qa, qb, qc, rq2, dI, lI, y1', y2', y3'⟩ := MI'.ex
  obtain ⟨hJ, a2, b2, c2, w1, w2, w3, w4, w5, w6⟩ := crash_ok (eL := 6) dI (ks := []) (v := .tup []) (.tup []) (fun q e => by cases e) (fun k hk => by cases hk)
  have w2' : ∃ w, Dsk 1 hJ pl a2 b2 c2 (T3 o) (T3 o) [] w .non := ⟨_, w2⟩
  obtain ⟨wJ, dJ⟩ := w2'
  have s15 : TA15 m6 hI = .nx m6 hJ := expr_nx ((meth1 (n := 2) (h1 := hI) (h2 := hI) (x := .tup []) (v3 _) dI.ins rfl rfl rfl).trans w1)
  have upJ : Up h hJ := up_kp MI'.up w3 (fun j hj => y3' j (by simp at hj ⊢; omega))
  have nI := MI'.up.n
  have yp := y3' pl (by simp)
  obtain ⟨hK, lK, MK, uK⟩ := log_new (N := 4) (fi := 0) (lb := 0) (lo := 0) (fl := 0) (bs := [ka o, kd, kc, []]) (nx := 2) (R := [ra o, b8 100, b8 101]) (f2 := 2) (ep := 3) dJ upJ (by simp; omega) (hb_of (rest := []) rfl) (fun xs hx => by
    simp only [List.mem_cons, List.not_mem_nil, or_false] at hx
    rcases hx with rfl | rfl | rfl | rfl
    · exact ⟨by simp [ka], all_at kak⟩
    · exact ⟨by decide, all_at (by decide)⟩
    · exact ⟨by decide, all_at (by decide)⟩
    · exact ⟨by decide, fun x hx => by cases hx⟩) (by rfl) (by decide) (by decide) rfl rfl
  obtain ⟨p3', ep3⟩ : ∃ p, p = hJ.n := ⟨_, rfl⟩
  rw [← ep3] at MK
  obtain ⟨m7, em7⟩ : ∃ m, m = mT o (some (.err 4 [] [])) none (some (.ref pl)) (some (.ref p3')) (some (.str [99])) := ⟨_, rfl⟩
  have s16 : TA16 m6 hJ = .nx m7 hK := by
    refine (asg_nx (make3 (v3 _) rfl rfl lK)).trans ?_
    rw [em6, em7, ep3]; rfl
  obtain ⟨j1, e1⟩ : ∃ j, j = hK.push (.lst ([ra o, b8 100, b8 101].map .tup)) := ⟨_, rfl⟩
  have t1 : Up hK j1 := by rw [e1]; exact Up.push
  have q1 : j1.get hK.n = some (.lst ([ra o, b8 100, b8 101].map .tup)) := by rw [e1]; exact get_top
  obtain ⟨j2, e2⟩ : ∃ j, j = j1.push (.lst [.ref hK.n, .int 3, .int 2, .tup kc]) := ⟨_, rfl⟩
  have t2 : Up j1 j2 := by rw [e2]; exact Up.push
  have q2 : j2.get j1.n = some (.lst [.ref hK.n, .int 3, .int 2, .tup kc]) := by rw [e2]; exact get_top
  obtain ⟨m8, em8⟩ : ∃ m, m = mT o (some (.err 4 [] [])) (some (.ref j1.n)) (some (.ref pl)) (some (.ref p3')) (some (.str [99])) := ⟨_, rfl⟩
  have s17 : TA17 m7 hK = .nx m8 j2 := by rw [em7, em8, e2, e1]; rfl
  have M2 := (MK.ups t1).ups t2
  have s18 : ∃ h6, TA18 m8 j2 = .rt (.bl true) h6 ∧ Up j2 h6 := by
    have x4 : ∀ h, gVar 4 m8 h = .ok (.ref p3') h := fun h => by rw [em8]; rfl
    have x3 : ∀ h, gVar 3 m8 h = .ok (.ref pl) h := fun h => by rw [em8]; rfl
    have d1 := M2.recs (x4 _) (a := gC (.int 0)) (k := 0) rfl (by decide) (by simp) (R' := [ra o, b8 100, b8 101]) rfl
    obtain ⟨j3, e3⟩ : ∃ j, j = j2.push (.lst ([ra o, b8 100, b8 101].map .tup)) := ⟨_, rfl⟩
    have t3 : Up j2 j3 := by rw [e3]; exact Up.push
    have q3 : j3.get j2.n = some (.lst ([ra o, b8 100, b8 101].map .tup)) := by rw [e3]; exact get_top
    rw [← e3] at d1
    have M3 := M2.ups t3
    obtain ⟨j4, e4⟩ : ∃ j, j = j3.push (.lst [.ref j2.n, .int 3, .int 2, .tup kc]) := ⟨_, rfl⟩
    have t4 : Up j3 j4 := by rw [e4]; exact Up.push
    have q4 : j4.get j3.n = some (.lst [.ref j2.n, .int 3, .int 2, .tup kc]) := by rw [e4]; exact get_top
    have c1 := lst_ok (cons_ok d1 (cons_ok (M3.epoch (x4 _)) (cons_ok (M3.next (x4 _)) (cons_ok (M3.read (x3 _) (a := gC (.int 2)) (k := 2) (v := .tup kc) rfl rfl) nil_ok)))) (by simp)
    have kct : Sd j4 (.tup kc) (dT kc) 2 6000 := eT (by decide) (all_b (by decide))
    have rk : ∀ r ∈ [ra o, b8 100, b8 101], r.length ≤ 24 ∧ ∀ x ∈ r, atB x = true := fun r hr => ⟨(r9 r hr).1, (r9 r hr).2.2⟩
    have sm := same_lists q4 (t4.at (t3.at q2)) (.cons (eL (t4.at q3) (by simp) rk) (.cons (eI (by decide)) (.cons (eI (by decide)) (.cons kct .nil)))) (.cons (eL (t4.at (t3.at (t2.at q1))) (by simp) rk) (.cons (eI (by decide)) (.cons (eI (by decide)) (.cons kct .nil)))) (by simp) (by simp)
    exact ⟨j4, ret_of ((call2 (n := 2) (b := gVar 2) (x := .ref j3.n) (y := .ref j1.n) (h1 := j4) (h2 := j4) (c1.trans (by rw [e4]; rfl)) (by rw [em8]; rfl) rfl).trans sm), t3.trans t4⟩
  obtain ⟨hZ, s18, uZ⟩ := s18
  refine ⟨hZ, ?_, M2.up.trans uZ⟩
  rw [t_TA]
  rw [← em1] at s1
  exact body_rt ((seq_nx s0).trans ((seq_nx s1).trans ((seq_nx s2).trans ((seq_nx s3).trans ((seq_nx s4).trans ((seq_nx s5).trans ((seq_nx s6).trans ((seq_nx s7).trans ((seq_nx s8).trans ((seq_nx s9).trans ((seq_nx s10).trans ((seq_nx s11).trans ((seq_nx s12).trans ((seq_nx s13).trans ((seq_nx s14).trans ((seq_nx s15).trans ((seq_nx s16).trans ((seq_nx s17).trans s18))))))))))))))))))
end
end K47
set_option Elab.async false
set_option linter.all false
set_option maxRecDepth 100000
set_option maxHeartbeats 400000
namespace K47
open MI XG XM XK DK LG PySem
open L2 (atI ixN)
def TO0 : MS := gAsg (gC .non) (tgName 2)
def TO1 : MS := gTry (List.lookup · [(6, false), (7, true), (8, true), (2, true), (3, true), (4, true), (5, true)]) 4 (gIfS (gB (gBin mEqX (gBin mIx (gVar 1) (gC (.int 0))) (gC (.str [102, 108, 117, 115, 104])))) (gExpr (gMeth 0 2011653624527041756678586470 m_Log_flush [] 1 (gVar 0) gNil)) (gIfS (gB (gBin mEqX (gBin mIx (gVar 1) (gC (.int 0))) (gC (.str [114, 101, 99, 111, 114, 100, 115])))) (gExpr (gMethK 0 9783122105461106636624876568225953874034 m_Log_records [] 2 1 1 [(0, 0), (2, 0)] (gVar 0) (gNil) (gCons (gBin mIx (gVar 1) (gC (.int 1))) (gNil)))) (gExpr (gMethK 0 510173640654947 m_Log_cut [] 3 1 2 [(0, 0), (2, 0), (2, 1)] (gVar 0) (gNil) (gCons (gBin mIx (gVar 1) (gC (.int 1))) (gCons (gBin mIx (gVar 1) (gC (.int 2))) (gNil))))))) (gAsg (gVar 4) (tgName 2))
def TO2 : MS := gIfS (gTru (gUn (mIsE (List.lookup · [(6, false), (7, false), (8, false), (2, false), (3, false), (4, false), (5, true)])) (gVar 2))) (gRet (gIf (gTru (gUn (mIsE (List.lookup · [(6, false), (7, false), (8, false), (2, false), (3, false), (4, false), (5, true)])) (gVar 2))) (gTup (gCons (gC (.str [70, 117, 108, 108])) (gCons (gUn (mGetE [5] 2243767335776190373954584675) (gVar 2)) (gNil)))) (gC (.str [111, 116, 104, 101, 114])))) (gNext)
def TO3 : MS := gIfS (gTru (gUn (mIsE (List.lookup · [(6, false), (7, false), (8, false), (2, false), (3, true), (4, false), (5, false)])) (gVar 2))) (gSeq (gAsg (gAndT (gUn (mIsE (List.lookup · [(6, false), (7, false), (8, true), (2, true), (3, true), (4, false), (5, false)])) (gVar 2)) (gNotV (gUn (mIsE (List.lookup · [(6, false), (7, false), (8, true), (2, true), (3, false), (4, false), (5, false)])) (gVar 2)))) (tgName 3)) (gRet (gIf (gTru (gVar 3)) (gTup (gCons (gC (.str [71, 111, 110, 101])) (gCons (gUn (mGetE [6, 3] 4624391343257609244839718701498478) (gVar 2)) (gNil)))) (gC (.str [111, 116, 104, 101, 114]))))) (gNext)
def TO4 : MS := gRet (gIf (gAnd (gTru (gUn (mIsE (List.lookup · [(6, false), (7, true), (8, false), (2, false), (3, false), (4, false), (5, false)])) (gVar 2))) (gTru (gUn (mIsE (List.lookup · [(6, true), (7, true), (8, false), (2, false), (3, false), (4, false), (5, false)])) (gVar 2)))) (gTup (gCons (gC (.str [78, 111, 67, 117, 116])) (gCons (gUn (mGetE [7] 2069681916294564979109003362) (gVar 2)) (gNil)))) (gVar 2))
theorem t_TO : m_law_told = gBody 5 (gSeq TO0 (gSeq TO1 (gSeq TO2 (gSeq TO3 (TO4))))) := rfl
def TOb : MS := gIfS (gB (gBin mEqX (gBin mIx (gVar 1) (gC (.int 0))) (gC (.str [102, 108, 117, 115, 104])))) (gExpr (gMeth 0 2011653624527041756678586470 m_Log_flush [] 1 (gVar 0) gNil)) (gIfS (gB (gBin mEqX (gBin mIx (gVar 1) (gC (.int 0))) (gC (.str [114, 101, 99, 111, 114, 100, 115])))) (gExpr (gMethK 0 9783122105461106636624876568225953874034 m_Log_records [] 2 1 1 [(0, 0), (2, 0)] (gVar 0) (gNil) (gCons (gBin mIx (gVar 1) (gC (.int 1))) (gNil)))) (gExpr (gMethK 0 510173640654947 m_Log_cut [] 3 1 2 [(0, 0), (2, 0), (2, 1)] (gVar 0) (gNil) (gCons (gBin mIx (gVar 1) (gC (.int 1))) (gCons (gBin mIx (gVar 1) (gC (.int 2))) (gNil))))))
abbrev tbT : Nat → Option Bool := (List.lookup · [(6, false), (7, true), (8, true), (2, true), (3, true), (4, true), (5, true)])
theorem t_TO1 : TO1 = gTry tbT 4 TOb (gAsg (gVar 4) (tgName 2)) := rfl
def mD (p : Nat) (xs : List MV) : ML := [some (.ref p), some (.tup xs), some .non, none, none]
def mX (e : MV) : ML := [none, none, some e, none, none]
section
variable {h h' : MH} {p : Nat} {xs : List MV}
theorem told_er {c : Nat} {ks : List Nat} {vs : List MV} {r : MV} (t : tbT c = some true) (e : TOb (mD p xs) h = .er (.own c ks vs) h') (tl : gSeq TO2 (gSeq TO3 TO4) (mX (.err c ks vs)) h' = .rt r h') : m_law_told [.ref p, .tup xs] h = .ok r h' := by
  have s0 : TO0 [some (.ref p), some (.tup xs), none, none, none] h = .nx (mD p xs) h := rfl
  have s1 : TO1 (mD p xs) h = .nx (mX (.err c ks vs)) h' := by
    rw [t_TO1]
    unfold gTry
    rw [e]
    simp only [t]
    rfl
  rw [t_TO]
  exact body_rt ((seq_nx s0).trans ((seq_nx s1).trans tl))
theorem methK1 {c f : Nat} {g : MF} {o a : ME} {m : ML} {h h1 h2 : MH} {i : Nat} {fs : List (Nat × MV)} {x : MV} (eo : o m h = .ok (.ref i) h1) (hi : h1.get i = some (.ins c fs)) (l : fs.lookup f = none) (ea : a m h1 = .ok x h2) : gMethK c f g [] 2 1 1 [(0, 0), (2, 0)] o gNil (gCons a gNil) m h = g [.ref i, x] h2 := by
  unfold gMethK
  rw [eo]
  simp only [Out.bind, hi, l, gCons, gNil, ea]
  rfl
theorem methK2 {c f : Nat} {g : MF} {o a b : ME} {m : ML} {h h1 h2 h3 : MH} {i : Nat} {fs : List (Nat × MV)} {x y : MV} (eo : o m h = .ok (.ref i) h1) (hi : h1.get i = some (.ins c fs)) (l : fs.lookup f = none) (ea : a m h1 = .ok x h2) (eb : b m h2 = .ok y h3) : gMethK c f g [] 3 1 2 [(0, 0), (2, 0), (2, 1)] o gNil (gCons a (gCons b gNil)) m h = g [.ref i, x, y] h3 := by
  unfold gMethK
  rw [eo]
  simp only [Out.bind, hi, l, gCons, gNil, ea, eb]
  rfl
abbrev wFull : MV := .str [70, 117, 108, 108]
abbrev wGone : MV := .str [71, 111, 110, 101]
abbrev wNoC : MV := .str [78, 111, 67, 117, 116]
abbrev wFls : MV := .str [102, 108, 117, 115, 104]
abbrev wRec : MV := .str [114, 101, 99, 111, 114, 100, 115]
abbrev wCut : MV := .str [99, 117, 116]
variable {h0 : MH} {pl N fi lb lo nx sf : Nat} {R : List (List MV)} {B : List MV} {w ep : Int} {m : ML} {o : ME}
theorem LS.told_full (L : LS h0 h pl p N fi lb lo nx sf R B w ep) {gs : List (List (List MV))} (eg : pkG (R.drop (sf - lo)) = gs) (ne : gs ≠ []) (room : N + lb < nx + gs.length) (s1 : lo ≤ sf) (s2 : sf ≤ lo + R.length) (r8 : ∀ r ∈ R, r.length ≤ 8) (lR : R.length < 900) (hs : shortB (.int (N : Nat)) = true) :
    ∃ h', m_law_told [.ref p, .tup [wFls]] h = .ok (.tup [wFull, .int (N : Nat)]) h' ∧ Up h h' := by
  obtain ⟨ka, kb, kc, rq, d, l, _⟩ := L.ex
  obtain ⟨h1, a1, a2⟩ := flush_full (D := 1) (eG := 3) (eF := 5) (eS := 4) (eB := 2) l s1 s2 r8 (by omega) eg.symm ne room hs
  refine ⟨h1, told_er (c := 5) (ks := [nCo]) (vs := [.int (N : Nat)]) rfl ?_ rfl, a2⟩
  have c : gB (gBin mEqX (gBin mIx (gVar 1) (gC (.int 0))) (gC (.str [102, 108, 117, 115, 104]))) (mD p [wFls]) h = .ok true h := rfl
  have e : gMeth 0 2011653624527041756678586470 m_Log_flush [] 1 (gVar 0) gNil (mD p [wFls]) h = .er (.own 5 [nCo] [.int (N : Nat)]) h1 := (meth0 (n := 1) rfl l.ins rfl rfl).trans a1
  exact (ifS_t c).trans (DK.expr_er e)
theorem LS.told_gone (L : LS h0 h pl p N fi lb lo nx sf R B w ep) {z : Int} (hz : z < (lo : Int) ∨ ((lo + R.length : Nat) : Int) < z) (hs : shortB (.int z) = true) : m_law_told [.ref p, .tup [wRec, .int z]] h = .ok (.tup [wGone, .int z]) h := by
  obtain ⟨ka, kb, kc, rq, d, l, _⟩ := L.ex
  have a1 := lrecs_er (eG := 3) l hz hs
  refine told_er (c := 3) (ks := [LG.nNum]) (vs := [.int z]) rfl ?_ rfl
  have c : gB (gBin mEqX (gBin mIx (gVar 1) (gC (.int 0))) (gC (.str [102, 108, 117, 115, 104]))) (mD p [wRec, .int z]) h = .ok false h := rfl
  have c2 : gB (gBin mEqX (gBin mIx (gVar 1) (gC (.int 0))) (gC (.str [114, 101, 99, 111, 114, 100, 115]))) (mD p [wRec, .int z]) h = .ok true h := rfl
  have e := (methK1 (f := 9783122105461106636624876568225953874034) (g := m_Log_records) (o := gVar 0) (m := mD p [wRec, .int z]) (h := h) (h1 := h) (a := gBin mIx (gVar 1) (gC (.int 1))) (x := .int z) (h2 := h) rfl l.ins rfl rfl).trans a1
  exact (ifS_f c).trans ((ifS_t c2).trans (DK.expr_er e))
theorem LS.told_noc (L : LS h0 h pl p N fi lb lo nx sf R B w ep) {z y : Int} (hz : z < (lb : Int) ∨ (nx : Int) < z) (hs : shortB (.int z) = true) : m_law_told [.ref p, .tup [wCut, .int z, .int y]] h = .ok (.tup [wNoC, .int z]) h := by
  obtain ⟨ka, kb, kc, rq, d, l, _⟩ := L.ex
  have a1 := cut_er (eG := 3) (eC := 7) (x := .int y) l hz hs
  refine told_er (c := 7) (ks := [nBlk]) (vs := [.int z]) rfl ?_ rfl
  have c : gB (gBin mEqX (gBin mIx (gVar 1) (gC (.int 0))) (gC (.str [102, 108, 117, 115, 104]))) (mD p [wCut, .int z, .int y]) h = .ok false h := rfl
  have c2 : gB (gBin mEqX (gBin mIx (gVar 1) (gC (.int 0))) (gC (.str [114, 101, 99, 111, 114, 100, 115]))) (mD p [wCut, .int z, .int y]) h = .ok false h := rfl
  have e := (methK2 (f := 510173640654947) (g := m_Log_cut) (o := gVar 0) (m := mD p [wCut, .int z, .int y]) (h := h) (h1 := h) (a := gBin mIx (gVar 1) (gC (.int 1))) (x := .int z) (h2 := h) (b := gBin mIx (gVar 1) (gC (.int 2))) (y := .int y) (h3 := h) rfl l.ins rfl rfl rfl).trans a1
  exact (ifS_f c).trans ((ifS_f c2).trans (DK.expr_er e))
theorem LS.recs2 {h1 : MH} {a : ME} (L : LS h0 h pl p N fi lb lo nx sf R B w ep) (eo : o m h1 = .ok (.ref p) h) {k : Nat} (ea : a m h = .ok (.int (k : Nat)) h) (k1 : lo ≤ k) (k2 : k ≤ lo + R.length) {R' : List (List MV)} (eR : R.drop (k - lo) = R') :
    gMeth 0 9783122105461106636624876568225953874034 m_Log_records [] 2 o (gCons a gNil) m h1 = .ok (.ref h.n) (h.push (.lst (R'.map .tup))) := by
  subst eR
  obtain ⟨ka, kb, kc, rq, d, l, _⟩ := L.ex
  exact (meth1 (n := 2) (h1 := h) (h2 := h) eo l.ins rfl ea rfl).trans (lrecs_ok (eG := 3) l k1 k2)
theorem LS.epoch2 {h1 : MH} (L : LS h0 h pl p N fi lb lo nx sf R B w ep) (eo : o m h1 = .ok (.ref p) h) : gMeth 0 2011653476953062778731495525 m_Log_epoch [] 1 o gNil m h1 = .ok (.int ep) h := by
  obtain ⟨ka, kb, kc, rq, d, l, _⟩ := L.ex
  exact (meth0 (n := 1) eo l.ins rfl rfl).trans (lepo_ok l)
theorem make_gen {dm xs : List MV} {args : MA} (ea : args m h = .ok xs h) (hn : xs.length + dm.length + 1 = 7) (e : m_Log___init (.ref h.n :: (xs ++ dm)) (h.push (.ins 0 [])) = .ok .non h') : gMake 0 m_Log___init dm 7 args m h = .ok (.ref h.n) h' := by
  unfold gMake
  rw [ea]
  simp only [Out.bind]
  rw [if_pos hn, e]
theorem makeK_fl {args : MA} {a : ME} {x1 x2 x3 x4 x5 z : MV} (ea : args m h = .ok [x1, x2, x3, x4, x5] h) (ez : a m h = .ok z h) (e : m_Log___init [.ref h.n, x1, x2, x3, x4, x5, z] (h.push (.ins 0 [])) = .ok .non h') : gMakeK 0 m_Log___init [.int 0, .int 0, .int 0] 7 6 1 [(0, 0), (0, 1), (0, 2), (0, 3), (0, 4), (0, 5), (2, 0)] args (gCons a gNil) m h = .ok (.ref h.n) h' := by
  unfold gMakeK
  rw [ea]
  simp only [Out.bind]
  rw [cons_ok ez nil_ok]
  simp only [Out.bind]
  rw [if_pos ⟨rfl, rfl, rfl⟩]
  rw [show m_Log___init (pick [(0, 0), (0, 1), (0, 2), (0, 3), (0, 4), (0, 5), (2, 0)] (.ref h.n :: [x1, x2, x3, x4, x5]) [.int 0, .int 0, .int 0] [z]) (h.push (.ins 0 [])) = .ok .non h' from e]
theorem for4 {t : MG} {b : MS} {gi : MI1} {m n0 n1 n2 n3 m0 m1 m2 m3 : ML} {h h1 h2 h3 h4 : MH} (ev : gi m h = .ok (it1R 0 4) h) (t0 : t (.int 0) m h = .nx n0 h) (b0 : b n0 h = .nx m0 h1) (t1 : t (.int 1) m0 h1 = .nx n1 h1) (b1 : b n1 h1 = .nx m1 h2) (t2 : t (.int 2) m1 h2 = .nx n2 h2) (b2 : b n2 h2 = .nx m2 h3) (t3 : t (.int 3) m2 h3 = .nx n3 h3) (b3 : b n3 h3 = .nx m3 h4) : gFor gi t b m h = .nx m3 h4 := by
  unfold gFor
  rw [ev]
  simp only [Out.bindS]
  show gForN (it1R 0 4) t b 5 0 m h = _
  unfold gForN
  rw [show (it1R 0 4).at_ 0 h = some (some (.int 0)) from rfl]
  simp only [t0, b0]
  unfold gForN
  rw [show (it1R 0 4).at_ (0 + 1) h1 = some (some (.int 1)) from rfl]
  simp only [t1, b1]
  unfold gForN
  rw [show (it1R 0 4).at_ (0 + 1 + 1) h2 = some (some (.int 2)) from rfl]
  simp only [t2, b2]
  unfold gForN
  rw [show (it1R 0 4).at_ (0 + 1 + 1 + 1) h3 = some (some (.int 3)) from rfl]
  simp only [t3, b3]
  unfold gForN
  rw [show (it1R 0 4).at_ (0 + 1 + 1 + 1 + 1) h4 = some none from rfl]
end
def RI0 : MS := gAsg (gMake 1 m_Disk___init [] 2 (gCons (gC (.int 4)) (gNil))) (tgName 2)
def RI1 : MS := gAsg (gMake 0 m_Log___init [.int 0, .int 0, .int 0] 7 (gCons (gVar 2) (gCons (gC (.int 0)) (gCons (gC (.int 4)) (gNil))))) (tgName 3)
def RI2 : MS := gFor (gRng1 (gC (.int 4))) (tgName 5) (gSeq (gExpr (gMeth 0 4056484048440708167605101516554337 m_Log_append [] 2 (gVar 3) (gCons (gTup (gCons (gVar 5) (gCons (gVar 0) (gNil)))) (gNil)))) (gExpr (gMeth 0 2011653624527041756678586470 m_Log_flush [] 1 (gVar 3) gNil)))
def RI3 : MS := gExpr (gMeth 0 4056484048440708167605101516554337 m_Log_append [] 2 (gVar 3) (gCons (gTup (gCons (gC (.str [120])) (gNil))) (gNil)))
def RI4 : MS := gAsg (gLst (gCons (gCall m_law_told [] 2 (gCons (gVar 3) (gCons (gTup (gCons (gC (.str [102, 108, 117, 115, 104])) (gNil))) (gNil)))) (gCons (gMeth 1 4664956162465078606366684397699191 m_Disk_writes [] 1 (gVar 2) gNil) (gCons (gMeth 0 931561024323279913075 m_Log_safe [] 1 (gVar 3) gNil) (gCons (gCall m_law_told [] 2 (gCons (gVar 3) (gCons (gTup (gCons (gC (.str [99, 117, 116])) (gCons (gC (.int 5)) (gCons (gC (.int 4)) (gNil))))) (gNil)))) (gNil)))))) (tgName 4)
def RI5 : MS := gAsg (gBin mAdd (gVar 4) (gLst (gCons (gCall m_law_told [] 2 (gCons (gVar 3) (gCons (gTup (gCons (gC (.str [114, 101, 99, 111, 114, 100, 115])) (gCons (gUn mNeg (gC (.int 1))) (gNil)))) (gNil)))) (gCons (gCall m_law_told [] 2 (gCons (gVar 3) (gCons (gTup (gCons (gC (.str [114, 101, 99, 111, 114, 100, 115])) (gCons (gC (.int 6)) (gNil)))) (gNil)))) (gCons (gMeth 0 9783122105461106636624876568225953874034 m_Log_records [] 2 (gVar 3) (gCons (gC (.int 5)) (gNil))) (gNil)))))) (tgName 4)
def RI6 : MS := gIfS (gNot (gTru (gCall m_law_same [] 2 (gCons (gVar 4) (gCons (gLst (gCons (gTup (gCons (gC (.str [70, 117, 108, 108])) (gCons (gC (.int 4)) (gNil)))) (gCons (gC (.int 4)) (gCons (gC (.int 4)) (gCons (gTup (gCons (gC (.str [78, 111, 67, 117, 116])) (gCons (gC (.int 5)) (gNil)))) (gCons (gTup (gCons (gC (.str [71, 111, 110, 101])) (gCons (gUn mNeg (gC (.int 1))) (gNil)))) (gCons (gTup (gCons (gC (.str [71, 111, 110, 101])) (gCons (gC (.int 6)) (gNil)))) (gCons (gLst (gNil)) (gNil))))))))) (gNil)))))) (gRet (gC (.bl false))) (gNext)
def RI7 : MS := gAsg (gLst (gCons (gMeth 0 510173640654947 m_Log_cut [] 3 (gVar 3) (gCons (gC (.int 2)) (gCons (gC (.int 2)) (gNil)))) (gCons (gCall m_law_told [] 2 (gCons (gVar 3) (gCons (gTup (gCons (gC (.str [99, 117, 116])) (gCons (gC (.int 1)) (gCons (gC (.int 1)) (gNil))))) (gNil)))) (gCons (gCall m_law_told [] 2 (gCons (gVar 3) (gCons (gTup (gCons (gC (.str [114, 101, 99, 111, 114, 100, 115])) (gCons (gC (.int 1)) (gNil)))) (gNil)))) (gCons (gMeth 0 2011653624527041756678586470 m_Log_flush [] 1 (gVar 3) gNil) (gNil)))))) (tgName 4)
def RI8 : MS := gAsg (gBin mAdd (gVar 4) (gLst (gCons (gMeth 0 9783122105461106636624876568225953874034 m_Log_records [] 2 (gVar 3) (gCons (gC (.int 2)) (gNil))) (gCons (gMeth 1 922337630296200970354 m_Disk_read [] 2 (gVar 2) (gCons (gC (.int 0)) (gNil))) (gNil))))) (tgName 4)
def RI9 : MS := gAsg (gLst (gCons (gC .non) (gCons (gTup (gCons (gC (.str [78, 111, 67, 117, 116])) (gCons (gC (.int 1)) (gNil)))) (gCons (gTup (gCons (gC (.str [71, 111, 110, 101])) (gCons (gC (.int 1)) (gNil)))) (gCons (gC .non) (gCons (gLst (gCons (gTup (gCons (gC (.int 2)) (gCons (gVar 0) (gNil)))) (gCons (gTup (gCons (gC (.int 3)) (gCons (gVar 0) (gNil)))) (gCons (gTup (gCons (gC (.str [120])) (gNil))) (gNil))))) (gCons (gTup (gCons (gC (.str [108, 111, 103])) (gCons (gC (.int 4)) (gCons (gC (.int 1)) (gCons (gC (.int 4)) (gCons (gC (.int 1)) (gCons (gC (.int 1)) (gCons (gC (.str [120])) (gNil))))))))) (gNil)))))))) (tgName 1)
def RI10 : MS := gIfS (gNot (gTru (gCall m_law_same [] 2 (gCons (gVar 4) (gCons (gVar 1) (gNil)))))) (gRet (gC (.bl false))) (gNext)
def RI11 : MS := gAsg (gLst (gCons (gMeth 0 9783122105461106636624876568225953874034 m_Log_records [] 2 (gMake 0 m_Log___init [.int 0] 7 (gCons (gVar 2) (gCons (gC (.int 0)) (gCons (gC (.int 4)) (gCons (gC (.int 2)) (gCons (gC (.int 2)) (gNil))))))) (gCons (gC (.int 2)) (gNil))) (gCons (gMeth 0 9783122105461106636624876568225953874034 m_Log_records [] 2 (gMake 0 m_Log___init [.int 0] 7 (gCons (gVar 2) (gCons (gC (.int 0)) (gCons (gC (.int 4)) (gCons (gC (.int 4)) (gCons (gC (.int 4)) (gNil))))))) (gCons (gC (.int 4)) (gNil))) (gCons (gMeth 0 9783122105461106636624876568225953874034 m_Log_records [] 2 (gMake 0 m_Log___init [.int 0, .int 0, .int 0] 7 (gCons (gVar 2) (gCons (gC (.int 0)) (gCons (gC (.int 4)) (gNil))))) (gCons (gC (.int 0)) (gNil))) (gNil))))) (tgName 4)
def RI12 : MS := gAsg (gBin mAdd (gVar 4) (gLst (gCons (gMeth 0 9783122105461106636624876568225953874034 m_Log_records [] 2 (gMake 0 m_Log___init [] 7 (gCons (gVar 2) (gCons (gC (.int 0)) (gCons (gC (.int 4)) (gCons (gC (.int 2)) (gCons (gC (.int 2)) (gCons (gC (.int 2)) (gNil)))))))) (gCons (gC (.int 2)) (gNil))) (gCons (gMeth 0 2011653476953062778731495525 m_Log_epoch [] 1 (gMakeK 0 m_Log___init [.int 0, .int 0, .int 0] 7 6 1 [(0, 0), (0, 1), (0, 2), (0, 3), (0, 4), (0, 5), (2, 0)] (gCons (gVar 2) (gCons (gC (.int 0)) (gCons (gC (.int 4)) (gCons (gC (.int 2)) (gCons (gC (.int 2)) (gNil)))))) (gCons (gC (.int 7)) (gNil))) gNil) (gNil))))) (tgName 4)
def RI13 : MS := gRet (gCall m_law_same [] 2 (gCons (gVar 4) (gCons (gLst (gCons (gLst (gCons (gTup (gCons (gC (.int 2)) (gCons (gVar 0) (gNil)))) (gCons (gTup (gCons (gC (.int 3)) (gCons (gVar 0) (gNil)))) (gCons (gTup (gCons (gC (.str [120])) (gNil))) (gNil))))) (gCons (gLst (gCons (gTup (gCons (gC (.str [120])) (gNil))) (gNil))) (gCons (gLst (gNil)) (gCons (gLst (gNil)) (gCons (gC (.int 8)) (gNil))))))) (gNil))))
theorem t_RI : m_law_ring_right = gBody 6 (gSeq RI0 (gSeq RI1 (gSeq RI2 (gSeq RI3 (gSeq RI4 (gSeq RI5 (gSeq RI6 (gSeq RI7 (gSeq RI8 (gSeq RI9 (gSeq RI10 (gSeq RI11 (gSeq RI12 (RI13)))))))))))))) := rfl
end K47
set_option Elab.async false
set_option linter.all false
set_option maxRecDepth 100000
set_option maxHeartbeats 400000
namespace K47
open MI XG XM XK DK LG PySem
open L2 (atI ixN)
def rr (t : Int) (o : MV) : List MV := [.int t, o]
def kr (t : Int) (o : MV) : List MV := [wLog, .int t, .int 1, .int t, .int 1, .int 2, .int t, o]
def rx : List MV := [.str [120]]
def kx : List MV := [wLog, .int 4, .int 1, .int 4, .int 1, .int 1, .str [120]]
def V1 (o : MV) : List MV := [.tup (kr 0 o), .tup [], .tup [], .tup []]
def V2 (o : MV) : List MV := [.tup (kr 0 o), .tup (kr 1 o), .tup [], .tup []]
def V3 (o : MV) : List MV := [.tup (kr 0 o), .tup (kr 1 o), .tup (kr 2 o), .tup []]
def V4 (o : MV) : List MV := [.tup (kr 0 o), .tup (kr 1 o), .tup (kr 2 o), .tup (kr 3 o)]
def V5 (o : MV) : List MV := [.tup kx, .tup (kr 1 o), .tup (kr 2 o), .tup (kr 3 o)]
def mR (o : MV) (s1 s2 s3 s4 s5 : Option MV) : ML := [some o, s1, s2, s3, s4, s5]
theorem push_up {h h' : MH} {o : MO} (e : h' = h.push o) : Up h h' ∧ h'.get h.n = some o := by
  subst e
  exact ⟨Up.push, get_top⟩
section
variable {h : MH} {n : Nat}
theorem ring_ok (hn : n < 1000000000) : ∃ h', m_law_ring_right [.int (n : Nat)] h = .ok (.bl true) h' ∧ Up h h' := by
  have oS := own_s hn
  obtain ⟨o, eo⟩ : ∃ o, o = MV.int (n : Nat) := ⟨_, rfl⟩
  rw [← eo] at oS ⊢
  have rrk : ∀ t : Int, t.natAbs < 100 → (rr t o).all atS = true := fun t ht => by
    have : atS (.int t) = true := decide_eq_true (by omega)
    simp [rr, oS, this]
  have krk : ∀ t : Int, t.natAbs < 100 → (kr t o).all atS = true := fun t ht => by
    have : atS (.int t) = true := decide_eq_true (by omega)
    simp [kr, oS, this]; decide
  have r8 : ∀ r ∈ [rr 0 o, rr 1 o, rr 2 o, rr 3 o, rx], r.length ≤ 8 ∧ ∀ x ∈ r, atB x = true := fun r hr => by
    simp only [List.mem_cons, List.not_mem_nil, or_false] at hr
    rcases hr with rfl | rfl | rfl | rfl | rfl
    · exact row_ok (by simp [rr]) (rrk 0 (by decide))
    · exact row_ok (by simp [rr]) (rrk 1 (by decide))
    · exact row_ok (by simp [rr]) (rrk 2 (by decide))
    · exact row_ok (by simp [rr]) (rrk 3 (by decide))
    · exact row_ok (by decide) (by decide)
  obtain ⟨h1, a, b, c, p1, p2, p3, p4⟩ := disk_new (m := mR o none none none none none) (e := gC (.int 4)) (n := 4) (h0 := h) (h := h) .refl rfl (by decide)
  obtain ⟨h2, l1, L2, u2⟩ := log_new (N := 4) (fi := 0) (lb := 0) (lo := 0) (fl := 0) (bs := List.replicate 4 []) (nx := 0) (R := []) (f2 := 0) (ep := 1) p2 p3 p4 (hb_of (rest := []) rfl) (fun xs hx => by rw [List.eq_of_mem_replicate hx]; exact ⟨by decide, fun x hx => by cases hx⟩) (by rfl) (by decide) (by decide) rfl rfl
  obtain ⟨pl, epl⟩ : ∃ pl, pl = h.n := ⟨_, rfl⟩
  obtain ⟨p, ep⟩ : ∃ p, p = h1.n := ⟨_, rfl⟩
  rw [← epl] at p1 p2 p4
  have s0 : RI0 (mR o none none none none none) h = .nx (mR o none (some (.ref pl)) none none none) h1 := asg_nx p1
  have s1 : RI1 (mR o none (some (.ref pl)) none none none) h1 = .nx (mR o none (some (.ref pl)) (some (.ref p)) none none) h2 := by
    rw [ep]
    rw [← epl] at l1
    exact asg_nx (make3 rfl rfl rfl l1)
  rw [← epl, ← ep] at L2
  -- four turns
  have arg : ∀ (t : Int) h, gTup (gCons (gVar 5) (gCons (gVar 0) (gNil))) (mR o none (some (.ref pl)) (some (.ref p)) none (some (.int t))) h = .ok (.tup (rr t o)) h := fun t h => rfl
  obtain ⟨h3, a3, L3⟩ := L2.app (by simp) (o := gVar 3) (m := mR o none (some (.ref pl)) (some (.ref p)) none (some (.int 0))) rfl .refl (arg 0 _) (.tup _)
  obtain ⟨h4, a4, L4⟩ := L3.flush (o := gVar 3) (m := mR o none (some (.ref pl)) (some (.ref p)) none (some (.int 0))) rfl (gs := [[rr 0 o]]) rfl (by simp) (by simp) (by simp) (by simp) (fun r hr => r8 r (by simp at hr ⊢; simp [hr])) (by simp) (by decide) (by decide) (by decide) (by decide) (by decide) (B' := V1 o) rfl
  obtain ⟨h5, a5, L5⟩ := L4.app (by simp) (o := gVar 3) (m := mR o none (some (.ref pl)) (some (.ref p)) none (some (.int 1))) rfl .refl (arg 1 _) (.tup _)
  obtain ⟨h6, a6, L6⟩ := L5.flush (o := gVar 3) (m := mR o none (some (.ref pl)) (some (.ref p)) none (some (.int 1))) rfl (gs := [[rr 1 o]]) rfl (by simp) (by simp) (by simp) (by simp) (fun r hr => r8 r (by simp at hr ⊢; rcases hr with z | z <;> simp [z])) (by simp) (by decide) (by simp [V1]) (by simp) (by decide) (by decide) (B' := V2 o) rfl
  obtain ⟨h7, a7, L7⟩ := L6.app (by simp) (o := gVar 3) (m := mR o none (some (.ref pl)) (some (.ref p)) none (some (.int 2))) rfl .refl (arg 2 _) (.tup _)
  obtain ⟨h8, a8, L8⟩ := L7.flush (o := gVar 3) (m := mR o none (some (.ref pl)) (some (.ref p)) none (some (.int 2))) rfl (gs := [[rr 2 o]]) rfl (by simp) (by simp) (by simp) (by simp) (fun r hr => r8 r (by simp at hr ⊢; rcases hr with z | z | z <;> simp [z])) (by simp) (by decide) (by simp [V2]) (by simp) (by decide) (by decide) (B' := V3 o) rfl
  obtain ⟨h9, a9, L9⟩ := L8.app (by simp) (o := gVar 3) (m := mR o none (some (.ref pl)) (some (.ref p)) none (some (.int 3))) rfl .refl (arg 3 _) (.tup _)
  obtain ⟨hA, aA, LA⟩ := L9.flush (o := gVar 3) (m := mR o none (some (.ref pl)) (some (.ref p)) none (some (.int 3))) rfl (gs := [[rr 3 o]]) rfl (by simp) (by simp) (by simp) (by simp) (fun r hr => r8 r (by simp at hr ⊢; rcases hr with z | z | z | z <;> simp [z])) (by simp) (by decide) (by simp [V3]) (by simp) (by decide) (by decide) (B' := V4 o) rfl
  have s2 : RI2 (mR o none (some (.ref pl)) (some (.ref p)) none none) h2 = .nx (mR o none (some (.ref pl)) (some (.ref p)) none (some (.int 3))) hA :=
    for4 rfl rfl ((seq_nx (expr_nx a3)).trans (expr_nx a4)) rfl ((seq_nx (expr_nx a5)).trans (expr_nx a6)) rfl ((seq_nx (expr_nx a7)).trans (expr_nx a8)) rfl ((seq_nx (expr_nx a9)).trans (expr_nx aA))
  -- one too many
  obtain ⟨m3, em3⟩ : ∃ m, m = mR o none (some (.ref pl)) (some (.ref p)) none (some (.int 3)) := ⟨_, rfl⟩
  have g3 : ∀ h, gVar 3 m3 h = .ok (.ref p) h := fun h => by rw [em3]; rfl
  have g2 : ∀ h, gVar 2 m3 h = .ok (.ref pl) h := fun h => by rw [em3]; rfl
  obtain ⟨hB, aB, LB⟩ := LA.app (by simp) (g3 _) (a := gTup (gCons (gC (.str [120])) (gNil))) (v := .tup rx) .refl rfl (.tup _)
  have s3 : RI3 m3 hA = .nx m3 hB := expr_nx aB
  have LB' : LS h hB pl p 4 0 0 0 4 4 [rr 0 o, rr 1 o, rr 2 o, rr 3 o, rx] (V4 o) 4 1 := LB
  obtain ⟨hC, aC, uC⟩ := LB'.told_full (gs := [[rx]]) rfl (by simp) (by simp) (by decide) (by simp) (fun r hr => (r8 r hr).1) (by simp) (by decide)
  have LC := LB'.ups uC
  have noc := LC.told_noc (z := 5) (y := 4) (.inr (by decide)) (by decide)
  obtain ⟨hD, eD⟩ : ∃ hD, hD = hC.push (.lst [.tup [wFull, .int 4], .int 4, .int 4, .tup [wNoC, .int 5]]) := ⟨_, rfl⟩
  obtain ⟨uD, qD⟩ := push_up eD
  obtain ⟨m4, em4⟩ : ∃ m, m = mR o none (some (.ref pl)) (some (.ref p)) (some (.ref hC.n)) (some (.int 3)) := ⟨_, rfl⟩
  have s4 : RI4 m3 hB = .nx m4 hD := by
    have c1 : gCall m_law_told [] 2 (gCons (gVar 3) (gCons (gTup (gCons (gC (.str [102, 108, 117, 115, 104])) (gNil))) (gNil))) m3 hB = .ok (.tup [wFull, .int 4]) hC := (call2 (n := 2) (x := .ref p) (y := .tup [wFls]) (g3 _) rfl rfl).trans aC
    have c4 : gCall m_law_told [] 2 (gCons (gVar 3) (gCons (gTup (gCons (gC (.str [99, 117, 116])) (gCons (gC (.int 5)) (gCons (gC (.int 4)) (gNil))))) (gNil))) m3 hC = .ok (.tup [wNoC, .int 5]) hC := (call2 (n := 2) (x := .ref p) (y := .tup [wCut, .int 5, .int 4]) (g3 _) rfl rfl).trans noc
    refine (asg_nx (lst_ok (cons_ok c1 (cons_ok (LC.writes (g2 _)) (cons_ok (LC.safe (g3 _)) (cons_ok c4 nil_ok)))) (by simp))).trans ?_
    rw [em3, em4, eD]; rfl
  have LD := LC.ups uD
  have k3 : ∀ h, gVar 3 m4 h = .ok (.ref p) h := fun h => by rw [em4]; rfl
  have gn1 := LD.told_gone (z := -1) (.inl (by decide)) (by decide)
  have gn2 := LD.told_gone (z := 6) (.inr (by simp)) (by decide)
  have d1 := LD.recs (k3 _) (a := gC (.int 5)) (k := 5) rfl (by decide) (by simp) (R' := []) rfl
  obtain ⟨hE, eE⟩ : ∃ hE, hE = hD.push (.lst (([] : List (List MV)).map .tup)) := ⟨_, rfl⟩
  obtain ⟨uE, qE⟩ := push_up eE
  rw [← eE] at d1
  obtain ⟨hF, eF⟩ : ∃ hF, hF = hE.push (.lst [.tup [wGone, .int (-1)], .tup [wGone, .int 6], .ref hD.n]) := ⟨_, rfl⟩
  obtain ⟨uF, qF⟩ := push_up eF
  obtain ⟨hG, eG⟩ : ∃ hG, hG = hF.push (.lst [.tup [wFull, .int 4], .int 4, .int 4, .tup [wNoC, .int 5], .tup [wGone, .int (-1)], .tup [wGone, .int 6], .ref hD.n]) := ⟨_, rfl⟩
  obtain ⟨uG, qG⟩ := push_up eG
  obtain ⟨m5, em5⟩ : ∃ m, m = mR o none (some (.ref pl)) (some (.ref p)) (some (.ref hF.n)) (some (.int 3)) := ⟨_, rfl⟩
  have s5 : RI5 m4 hD = .nx m5 hG := by
    have c1 : gCall m_law_told [] 2 (gCons (gVar 3) (gCons (gTup (gCons (gC (.str [114, 101, 99, 111, 114, 100, 115])) (gCons (gUn mNeg (gC (.int 1))) (gNil)))) (gNil))) m4 hD = .ok (.tup [wGone, .int (-1)]) hD := (call2 (n := 2) (x := .ref p) (y := .tup [wRec, .int (-1)]) (k3 _) rfl rfl).trans gn1
    have c2 : gCall m_law_told [] 2 (gCons (gVar 3) (gCons (gTup (gCons (gC (.str [114, 101, 99, 111, 114, 100, 115])) (gCons (gC (.int 6)) (gNil)))) (gNil))) m4 hD = .ok (.tup [wGone, .int 6]) hD := (call2 (n := 2) (x := .ref p) (y := .tup [wRec, .int 6]) (k3 _) rfl rfl).trans gn2
    have c3 := lst_ok (cons_ok c1 (cons_ok c2 (cons_ok d1 nil_ok))) (by simp)
    have c4 := bin_ok (g := mAdd) (x := gVar 4) (i := .ref hC.n) (m := m4) (h := hD) (by rw [em4]; rfl) c3
    rw [← eF, DK.add_ok (uF.at (uE.at qD)) qF (by simp)] at c4
    refine (asg_nx c4).trans ?_
    rw [em4, em5, eG]; rfl
  have LG' := ((LD.ups uE).ups uF).ups uG
  have rx0 : ∀ r ∈ ([] : List (List MV)), r.length ≤ 24 ∧ ∀ x ∈ r, atB x = true := fun r hr => by cases hr
  have tw : ∀ {h : MH} (s : List Nat) (z : Int), atB (.str s) = true → z.natAbs < 100 → Sd h (.tup [.str s, .int z]) (dT [.str s, .int z]) 2 6000 := fun s z hs hz => eT (by simp) (fun x hx => by
    simp only [List.mem_cons, List.not_mem_nil, or_false] at hx
    rcases hx with rfl | rfl
    · exact hs
    · exact atS.b (decide_eq_true (by omega)))
  have s6 : ∃ h6, RI6 m5 hG = .nx m5 h6 ∧ Up hG h6 := by
    let h6 := (hG.push (.lst [])).push (.lst [.tup [wFull, .int 4], .int 4, .int 4, .tup [wNoC, .int 5], .tup [wGone, .int (-1)], .tup [wGone, .int 6], .ref hG.n])
    have w6 : Up hG h6 := Up.push.trans Up.push
    refine ⟨h6, (if_same (q := hF.n) (z := hG.n + 1) (h1 := hG) (h' := h6) (by rw [em5]; rfl) rfl ?_).trans rfl, w6⟩
    have z3 : h6.get hG.n = some (.lst (([] : List (List MV)).map .tup)) := Up.push.at get_top
    exact same_lists (w6.at qG) (get_top (h := hG.push (.lst []))) (.cons (tw _ _ rfl (by decide)) (.cons (eI (by decide)) (.cons (eI (by decide)) (.cons (tw _ _ rfl (by decide)) (.cons (tw _ _ rfl (by decide)) (.cons (tw _ _ rfl (by decide)) (.cons (eL (w6.at (uG.at (uF.at qE))) (by simp) rx0) .nil)))))))
      (.cons (tw _ _ rfl (by decide)) (.cons (eI (by decide)) (.cons (eI (by decide)) (.cons (tw _ _ rfl (by decide)) (.cons (tw _ _ rfl (by decide)) (.cons (tw _ _ rfl (by decide)) (.cons (eL z3 (by simp) rx0) .nil))))))) (by simp) (by simp)
  obtain ⟨hH, s6, uH⟩ := s6
  have LH := LG'.ups uH
  -- a cut
  have n3 : ∀ h, gVar 3 m5 h = .ok (.ref p) h := fun h => by rw [em5]; rfl
  have n2 : ∀ h, gVar 2 m5 h = .ok (.ref pl) h := fun h => by rw [em5]; rfl
  obtain ⟨hI, aI, LI⟩ := LH.cut (n3 _) (a := gC (.int 2)) (b := gC (.int 2)) (k := 2) (r := 2) rfl rfl (by decide) (by decide) (by decide) (by simp) (R' := [rr 2 o, rr 3 o, rx]) rfl
  have noc1 := LI.told_noc (z := 1) (y := 1) (.inl (by decide)) (by decide)
  have gn3 := LI.told_gone (z := 1) (.inl (by decide)) (by decide)
  have r8' : ∀ r ∈ [rr 2 o, rr 3 o, rx], r.length ≤ 8 ∧ ∀ x ∈ r, atB x = true := fun r hr => r8 r (by simp at hr ⊢; rcases hr with z | z | z <;> simp [z])
  have r24 : ∀ r ∈ [rr 2 o, rr 3 o, rx], r.length ≤ 24 ∧ ∀ x ∈ r, atB x = true := fun r hr => ⟨by have := (r8' r hr).1; omega, (r8' r hr).2⟩
  obtain ⟨hJ, aJ, LJ⟩ := LI.flush (n3 _) (gs := [[rx]]) rfl (by simp) (by simp) (by decide) (by simp) r8' (by simp) (by decide) (by simp [V4]) (by simp) (by decide) (by decide) (B' := V5 o) rfl
  have LJ' : LS h hJ pl p 4 0 2 2 5 5 [rr 2 o, rr 3 o, rx] (V5 o) 5 1 := LJ
  obtain ⟨hK, eK⟩ : ∃ hK, hK = hJ.push (.lst [.non, .tup [wNoC, .int 1], .tup [wGone, .int 1], .non]) := ⟨_, rfl⟩
  obtain ⟨uK, qK⟩ := push_up eK
  obtain ⟨m6, em6⟩ : ∃ m, m = mR o none (some (.ref pl)) (some (.ref p)) (some (.ref hJ.n)) (some (.int 3)) := ⟨_, rfl⟩
  have s7 : RI7 m5 hH = .nx m6 hK := by
    have c2 : gCall m_law_told [] 2 (gCons (gVar 3) (gCons (gTup (gCons (gC (.str [99, 117, 116])) (gCons (gC (.int 1)) (gCons (gC (.int 1)) (gNil))))) (gNil))) m5 hI = .ok (.tup [wNoC, .int 1]) hI := (call2 (n := 2) (x := .ref p) (y := .tup [wCut, .int 1, .int 1]) (n3 _) rfl rfl).trans noc1
    have c3 : gCall m_law_told [] 2 (gCons (gVar 3) (gCons (gTup (gCons (gC (.str [114, 101, 99, 111, 114, 100, 115])) (gCons (gC (.int 1)) (gNil)))) (gNil))) m5 hI = .ok (.tup [wGone, .int 1]) hI := (call2 (n := 2) (x := .ref p) (y := .tup [wRec, .int 1]) (n3 _) rfl rfl).trans gn3
    refine (asg_nx (lst_ok (cons_ok aI (cons_ok c2 (cons_ok c3 (cons_ok aJ nil_ok)))) (by simp))).trans ?_
    rw [em5, em6, eK]; rfl
  have LK := LJ'.ups uK
  have x3 : ∀ h, gVar 3 m6 h = .ok (.ref p) h := fun h => by rw [em6]; rfl
  have x2 : ∀ h, gVar 2 m6 h = .ok (.ref pl) h := fun h => by rw [em6]; rfl
  have d2 := LK.recs (x3 _) (a := gC (.int 2)) (k := 2) rfl (by decide) (by simp) (R' := [rr 2 o, rr 3 o, rx]) rfl
  obtain ⟨hL, eL'⟩ : ∃ hL, hL = hK.push (.lst ([rr 2 o, rr 3 o, rx].map .tup)) := ⟨_, rfl⟩
  obtain ⟨uL, qL⟩ := push_up eL'
  rw [← eL'] at d2
  have LL := LK.ups uL
  obtain ⟨hM, eM⟩ : ∃ hM, hM = hL.push (.lst [.ref hK.n, .tup kx]) := ⟨_, rfl⟩
  obtain ⟨uM, qM⟩ := push_up eM
  obtain ⟨hN, eN⟩ : ∃ hN, hN = hM.push (.lst [.non, .tup [wNoC, .int 1], .tup [wGone, .int 1], .non, .ref hK.n, .tup kx]) := ⟨_, rfl⟩
  obtain ⟨uN, qN⟩ := push_up eN
  obtain ⟨m7, em7⟩ : ∃ m, m = mR o none (some (.ref pl)) (some (.ref p)) (some (.ref hM.n)) (some (.int 3)) := ⟨_, rfl⟩
  have s8 : RI8 m6 hK = .nx m7 hN := by
    have c3 := lst_ok (cons_ok d2 (cons_ok (LL.read (x2 _) (a := gC (.int 0)) (k := 0) (v := .tup kx) rfl rfl) nil_ok)) (by simp)
    have c4 := bin_ok (g := mAdd) (x := gVar 4) (i := .ref hJ.n) (m := m6) (h := hK) (by rw [em6]; rfl) c3
    rw [← eM, DK.add_ok (uM.at (uL.at qK)) qM (by simp)] at c4
    refine (asg_nx c4).trans ?_
    rw [em6, em7, eN]; rfl
  obtain ⟨hO, eO⟩ : ∃ hO, hO = hN.push (.lst ([rr 2 o, rr 3 o, rx].map .tup)) := ⟨_, rfl⟩
  obtain ⟨uO, qO⟩ := push_up eO
  obtain ⟨hP, eP⟩ : ∃ hP, hP = hO.push (.lst [.non, .tup [wNoC, .int 1], .tup [wGone, .int 1], .non, .ref hN.n, .tup kx]) := ⟨_, rfl⟩
  obtain ⟨uP, qP⟩ := push_up eP
  obtain ⟨m8, em8⟩ : ∃ m, m = mR o (some (.ref hO.n)) (some (.ref pl)) (some (.ref p)) (some (.ref hM.n)) (some (.int 3)) := ⟨_, rfl⟩
  have s9 : RI9 m7 hN = .nx m8 hP := by rw [em7, em8, eP, eO]; rfl
  have kxt : ∀ {h : MH}, Sd h (.tup kx) (dT kx) 2 6000 := eT (by decide) (all_b (by decide))
  have s10 : RI10 m8 hP = .nx m8 hP := by
    refine (if_same (e2 := gVar 1) (q := hM.n) (z := hO.n) (h1 := hP) (h' := hP) (by rw [em8]; rfl) (by rw [em8]; rfl) ?_).trans rfl
    have uNP := uO.trans uP
    exact same_lists (uNP.at qN) qP (.cons (eA rfl) (.cons (tw _ _ rfl (by decide)) (.cons (tw _ _ rfl (by decide)) (.cons (eA rfl) (.cons (eL (uNP.at (uN.at (uM.at qL))) (by simp) r24) (.cons kxt .nil))))))
      (.cons (eA rfl) (.cons (tw _ _ rfl (by decide)) (.cons (tw _ _ rfl (by decide)) (.cons (eA rfl) (.cons (eL (uP.at qO) (by simp) r24) (.cons kxt .nil)))))) (by simp) (by simp)
  -- logs from marks
  have LP := ((((LL.ups uM).ups uN).ups uO).ups uP)
  have hbs : ∀ xs ∈ [kx, kr 1 o, kr 2 o, kr 3 o], xs.length ≤ 24 ∧ ∀ x ∈ xs, atS x = true := fun xs hx => by
    simp only [List.mem_cons, List.not_mem_nil, or_false] at hx
    rcases hx with rfl | rfl | rfl | rfl
    · exact ⟨by decide, all_at (by decide)⟩
    · exact ⟨by simp [kr], all_at (krk 1 (by decide))⟩
    · exact ⟨by simp [kr], all_at (krk 2 (by decide))⟩
    · exact ⟨by simp [kr], all_at (krk 3 (by decide))⟩
  have hb : ∀ k xs, [kx, kr 1 o, kr 2 o, kr 3 o][k]? = some xs → (V5 o)[0 + k]? = some (.tup xs) := hb_of (rest := []) rfl
  have y2 : ∀ h, gVar 2 m8 h = .ok (.ref pl) h := fun h => by rw [em8]; rfl
  obtain ⟨i1, e1, N1, w1⟩ := LP.log (lb' := 2) (lo' := 2) (fl := 0) (nx' := 5) (R' := [rr 2 o, rr 3 o, rx]) (f2 := 1) (ep' := 2) hb hbs (by rfl) (by decide) (by decide) (by kernel_rfl) (by kernel_rfl)
  have c1 := N1.recs2 (o := gMake 0 m_Log___init [.int 0] 7 (gCons (gVar 2) (gCons (gC (.int 0)) (gCons (gC (.int 4)) (gCons (gC (.int 2)) (gCons (gC (.int 2)) (gNil))))))) (m := m8) (h1 := hP) (make_gen (xs := [.ref pl, .int 0, .int 4, .int 2, .int 2]) (cons_ok (y2 _) rfl) rfl e1) (a := gC (.int 2)) (k := 2) rfl (by decide) (by simp) (R' := [rr 2 o, rr 3 o, rx]) rfl
  obtain ⟨i2, e2⟩ : ∃ i2, i2 = i1.push (.lst ([rr 2 o, rr 3 o, rx].map .tup)) := ⟨_, rfl⟩
  obtain ⟨w2, q2⟩ := push_up e2
  rw [← e2] at c1
  obtain ⟨i3, e3, N3, w3⟩ := (N1.ups w2).log (lb' := 4) (lo' := 4) (fl := 0) (nx' := 5) (R' := [rx]) (f2 := 1) (ep' := 2) hb hbs (by rfl) (by decide) (by decide) (by kernel_rfl) (by kernel_rfl)
  have c2 := N3.recs2 (o := gMake 0 m_Log___init [.int 0] 7 (gCons (gVar 2) (gCons (gC (.int 0)) (gCons (gC (.int 4)) (gCons (gC (.int 4)) (gCons (gC (.int 4)) (gNil))))))) (m := m8) (h1 := i2) (make_gen (xs := [.ref pl, .int 0, .int 4, .int 4, .int 4]) (cons_ok (y2 _) rfl) rfl e3) (a := gC (.int 4)) (k := 4) rfl (by decide) (by simp) (R' := [rx]) rfl
  obtain ⟨i4, e4⟩ : ∃ i4, i4 = i3.push (.lst ([rx].map .tup)) := ⟨_, rfl⟩
  obtain ⟨w4, q4⟩ := push_up e4
  rw [← e4] at c2
  obtain ⟨i5, e5, N5, w5⟩ := (N3.ups w4).log (lb' := 0) (lo' := 0) (fl := 0) (nx' := 0) (R' := []) (f2 := 0) (ep' := 2) hb hbs (by rfl) (by decide) (by decide) (by kernel_rfl) (by kernel_rfl)
  have c3 := N5.recs2 (o := gMake 0 m_Log___init [.int 0, .int 0, .int 0] 7 (gCons (gVar 2) (gCons (gC (.int 0)) (gCons (gC (.int 4)) (gNil))))) (m := m8) (h1 := i4) (make_gen (xs := [.ref pl, .int 0, .int 4]) (cons_ok (y2 _) rfl) rfl e5) (a := gC (.int 0)) (k := 0) rfl (by decide) (by simp) (R' := []) rfl
  obtain ⟨i6, e6⟩ : ∃ i6, i6 = i5.push (.lst (([] : List (List MV)).map .tup)) := ⟨_, rfl⟩
  obtain ⟨w6, q6⟩ := push_up e6
  rw [← e6] at c3
  obtain ⟨i7, e7⟩ : ∃ i7, i7 = i6.push (.lst [.ref i1.n, .ref i3.n, .ref i5.n]) := ⟨_, rfl⟩
  obtain ⟨w7, q7⟩ := push_up e7
  obtain ⟨m9, em9⟩ : ∃ m, m = mR o (some (.ref hO.n)) (some (.ref pl)) (some (.ref p)) (some (.ref i6.n)) (some (.int 3)) := ⟨_, rfl⟩
  have s11 : RI11 m8 hP = .nx m9 i7 := by
    refine (asg_nx (lst_ok (cons_ok c1 (cons_ok c2 (cons_ok c3 nil_ok))) (by simp))).trans ?_
    rw [em8, em9, e7]; rfl
  have z2 : ∀ h, gVar 2 m9 h = .ok (.ref pl) h := fun h => by rw [em9]; rfl
  obtain ⟨i8, e8, N8, w8⟩ := ((N5.ups w6).ups w7).log (lb' := 2) (lo' := 2) (fl := 2) (nx' := 2) (R' := []) (f2 := 2) (ep' := 3) hb hbs (by rfl) (by decide) (by decide) (by kernel_rfl) (by kernel_rfl)
  have c4 := N8.recs2 (o := gMake 0 m_Log___init [] 7 (gCons (gVar 2) (gCons (gC (.int 0)) (gCons (gC (.int 4)) (gCons (gC (.int 2)) (gCons (gC (.int 2)) (gCons (gC (.int 2)) (gNil)))))))) (m := m9) (h1 := i7) (make_gen (xs := [.ref pl, .int 0, .int 4, .int 2, .int 2, .int 2]) (cons_ok (z2 _) rfl) rfl e8) (a := gC (.int 2)) (k := 2) rfl (by decide) (by simp) (R' := []) rfl
  obtain ⟨i9, e9⟩ : ∃ i9, i9 = i8.push (.lst (([] : List (List MV)).map .tup)) := ⟨_, rfl⟩
  obtain ⟨w9, q9⟩ := push_up e9
  rw [← e9] at c4
  obtain ⟨jA, eA', NA, wA⟩ := (N8.ups w9).log (lb' := 2) (lo' := 2) (fl := 7) (nx' := 2) (R' := []) (f2 := 7) (ep' := 8) hb hbs (by rfl) (by decide) (by decide) (by kernel_rfl) (by kernel_rfl)
  have c5 := NA.epoch2 (o := gMakeK 0 m_Log___init [.int 0, .int 0, .int 0] 7 6 1 [(0, 0), (0, 1), (0, 2), (0, 3), (0, 4), (0, 5), (2, 0)] (gCons (gVar 2) (gCons (gC (.int 0)) (gCons (gC (.int 4)) (gCons (gC (.int 2)) (gCons (gC (.int 2)) (gNil)))))) (gCons (gC (.int 7)) (gNil))) (m := m9) (h1 := i9) (makeK_fl (cons_ok (z2 _) rfl) rfl eA')
  obtain ⟨jB, eB⟩ : ∃ jB, jB = jA.push (.lst [.ref i8.n, .int 8]) := ⟨_, rfl⟩
  obtain ⟨wB, qB⟩ := push_up eB
  obtain ⟨jC, eC⟩ : ∃ jC, jC = jB.push (.lst [.ref i1.n, .ref i3.n, .ref i5.n, .ref i8.n, .int 8]) := ⟨_, rfl⟩
  obtain ⟨wC, qC⟩ := push_up eC
  obtain ⟨mA, emA⟩ : ∃ m, m = mR o (some (.ref hO.n)) (some (.ref pl)) (some (.ref p)) (some (.ref jB.n)) (some (.int 3)) := ⟨_, rfl⟩
  have w7B := w8.trans (w9.trans (wA.trans wB))
  have s12 : RI12 m9 i7 = .nx mA jC := by
    have c6 := lst_ok (cons_ok c4 (cons_ok c5 nil_ok)) (by simp)
    have c7 := bin_ok (g := mAdd) (x := gVar 4) (i := .ref i6.n) (m := m9) (h := i7) (by rw [em9]; rfl) c6
    rw [← eB, DK.add_ok (w7B.at q7) qB (by simp)] at c7
    refine (asg_nx c7).trans ?_
    rw [em9, emA, eC]; rfl
  have s13 : ∃ h6, RI13 mA jC = .rt (.bl true) h6 ∧ Up jC h6 := by
    let j1 := jC.push (.lst [.tup (rr 2 o), .tup (rr 3 o), .tup rx])
    let j2 := j1.push (.lst [.tup rx])
    let j3 := j2.push (.lst [])
    let j4 := j3.push (.lst [])
    let j5 := j4.push (.lst [.ref jC.n, .ref j1.n, .ref j2.n, .ref j3.n, .int 8])
    have v1 : Up jC j1 := Up.push
    have v2 : Up j1 j2 := Up.push
    have v3 : Up j2 j3 := Up.push
    have v4 : Up j3 j4 := Up.push
    have v5 : Up j4 j5 := Up.push
    have v15 := v2.trans (v3.trans (v4.trans v5))
    have t1 : j5.get jC.n = some (.lst ([rr 2 o, rr 3 o, rx].map .tup)) := v15.at get_top
    have t2 : j5.get j1.n = some (.lst ([rx].map .tup)) := (v3.trans (v4.trans v5)).at get_top
    have t3 : j5.get j2.n = some (.lst (([] : List (List MV)).map .tup)) := (v4.trans v5).at get_top
    have t4 : j5.get j3.n = some (.lst (([] : List (List MV)).map .tup)) := v5.at get_top
    have t5 : j5.get j4.n = some (.lst [.ref jC.n, .ref j1.n, .ref j2.n, .ref j3.n, .int 8]) := get_top
    have vv := v1.trans v15
    have xk : ∀ r ∈ [rx], r.length ≤ 24 ∧ ∀ x ∈ r, atB x = true := fun r hr => by
      rw [List.mem_singleton.mp hr]
      exact ⟨by decide, all_b (by decide)⟩
    have W := wC.trans vv
    have sm := same_lists (vv.at qC) t5 (.cons (eL (W.at (w7B.at (w7.at (w6.at (w5.at (w4.at (w3.at q2))))))) (by simp) r24) (.cons (eL (W.at (w7B.at (w7.at (w6.at (w5.at q4))))) (by simp) xk) (.cons (eL (W.at (w7B.at (w7.at q6))) (by simp) rx0) (.cons (eL (W.at (wB.at (wA.at q9))) (by simp) rx0) (.cons (eI (by decide)) .nil)))))
      (.cons (eL t1 (by simp) r24) (.cons (eL t2 (by simp) xk) (.cons (eL t3 (by simp) rx0) (.cons (eL t4 (by simp) rx0) (.cons (eI (by decide)) .nil))))) (by simp) (by simp)
    exact ⟨j5, ret_of ((call2 (n := 2) (x := .ref jB.n) (y := .ref j4.n) (h1 := jC) (h2 := j5) (by rw [emA]; rfl) (by rw [emA]; rfl) rfl).trans sm), vv⟩
  obtain ⟨hZ, s13, uZ⟩ := s13
  refine ⟨hZ, ?_, NA.up.trans (wB.trans (wC.trans uZ))⟩
  rw [t_RI]
  rw [← em3] at s2
  exact body_rt ((seq_nx s0).trans ((seq_nx s1).trans ((seq_nx s2).trans ((seq_nx s3).trans ((seq_nx s4).trans ((seq_nx s5).trans ((seq_nx s6).trans ((seq_nx s7).trans ((seq_nx s8).trans ((seq_nx s9).trans ((seq_nx s10).trans ((seq_nx s11).trans ((seq_nx s12).trans s13)))))))))))))
end
end K47
set_option Elab.async false
set_option linter.all false
set_option maxRecDepth 100000
set_option maxHeartbeats 400000
namespace K47
open MI XG XM XK DK LG PySem
open L2 (atI ixN)
def LW0 : MS := gAsg (gBin mAdd (gCB (f1 mList) (gCons (gSl (gVar 0) (gPn) (gPs (gC (.int 3)))) (gNil))) (gLst (gCons (gC (.int 0)) (gNil)))) (tgName 1)
def LW1 : MS := gFor (gRng1 (gCB (f1 mLenV) (gCons (gVar 1) (gNil)))) (tgName 2) (gSeq (gAsg (gCall m_law_take [] 2 (gCons (gCall m_law_box [] 2 (gCons (gVar 1) (gCons (gVar 2) (gNil)))) (gCons (gBin mPow (gC (.int 10)) (gC (.int 9))) (gNil)))) (tgName 3)) (gIfS (gOr (gNot (gTru (gCall m_law_blocks_right [] 1 (gCons (gVar 3) (gNil))))) (gOr (gNot (gTru (gCall m_law_tail_right [] 1 (gCons (gVar 3) (gNil))))) (gNot (gTru (gCall m_law_ring_right [] 1 (gCons (gVar 3) (gNil))))))) (gRet (gC (.bl false))) (gNext)))
def LW2 : MS := gRet (gC (.bl true))
theorem t_LW : m_law = gBody 4 (gSeq LW0 (gSeq LW1 (LW2))) := rfl
def bLW : MS := gSeq (gAsg (gCall m_law_take [] 2 (gCons (gCall m_law_box [] 2 (gCons (gVar 1) (gCons (gVar 2) (gNil)))) (gCons (gBin mPow (gC (.int 10)) (gC (.int 9))) (gNil)))) (tgName 3)) (gIfS (gOr (gNot (gTru (gCall m_law_blocks_right [] 1 (gCons (gVar 3) (gNil))))) (gOr (gNot (gTru (gCall m_law_tail_right [] 1 (gCons (gVar 3) (gNil))))) (gNot (gTru (gCall m_law_ring_right [] 1 (gCons (gVar 3) (gNil))))))) (gRet (gC (.bl false))) (gNext))
theorem t_LW1 : LW1 = gFor (gRng1 (gCB (f1 mLenV) (gCons (gVar 1) (gNil)))) (tgName 2) bLW := rfl
section
variable {h : MH} {c k : Nat} {cs : List Int} {A o3 : Option MV}
theorem turn_ok (hg : h.get c = some (.lst (cs.map MV.int))) (hk : k < cs.length) :
    ∃ h' r, bLW [A, some (.ref c), some (.int (k : Nat)), o3] h = .nx [A, some (.ref c), some (.int (k : Nat)), r] h' ∧ Up h h' := by
  obtain ⟨h1, b1, b2, b3, b4⟩ := box_ok (k := k) (x := cs[k]) hg (List.getElem?_eq_getElem hk)
  have u1 : Up h h1 := ⟨by omega, b4⟩
  obtain ⟨r, h2, r0, r1, t1, t2, t3, t4⟩ := take_ok (n := 1000000000) b2 (by decide) (by decide) (by decide)
  obtain ⟨n, rfl⟩ : ∃ n : Nat, r = (n : Nat) := ⟨r.toNat, by omega⟩
  have u2 : Up h h2 := ⟨by omega, fun j hj => (t3.get j (by omega) (by omega)).trans (b4 j hj)⟩
  have e1 : gCall m_law_box [] 2 (gCons (gVar 1) (gCons (gVar 2) (gNil))) [A, some (.ref c), some (.int (k : Nat)), o3] h = .ok (.ref h.n) h1 := (call2 (n := 2) (x := .ref c) (y := .int (k : Nat)) (h1 := h) (h2 := h) rfl rfl rfl).trans b1
  have s1 : gAsg (gCall m_law_take [] 2 (gCons (gCall m_law_box [] 2 (gCons (gVar 1) (gCons (gVar 2) (gNil)))) (gCons (gBin mPow (gC (.int 10)) (gC (.int 9))) (gNil)))) (tgName 3) [A, some (.ref c), some (.int (k : Nat)), o3] h = .nx [A, some (.ref c), some (.int (k : Nat)), some (.int (n : Nat))] h2 :=
    asg_nx ((call2 (n := 2) (x := .ref h.n) (y := .int 1000000000) (h1 := h1) (h2 := h1) e1 rfl rfl).trans t1)
  have hn : n < 1000000000 := by omega
  obtain ⟨h3, a3, u3⟩ := blocks_ok (h := h2) hn
  obtain ⟨h4, a4, u4⟩ := tail_ok (h := h3) hn
  obtain ⟨h5, a5, u5⟩ := ring_ok (h := h4) hn
  refine ⟨h5, some (.int (n : Nat)), (seq_nx s1).trans ((ifS_f (h1 := h5) ?_).trans rfl), u2.trans (u3.trans (u4.trans u5))⟩
  have c3 := nt_true ((call1 (n := 1) (g := m_law_blocks_right) (a := gVar 3) (m := [A, some (.ref c), some (.int (k : Nat)), some (.int (n : Nat))]) (x := .int (n : Nat)) (h := h2) (h2 := h2) rfl rfl).trans a3)
  have c4 := nt_true ((call1 (n := 1) (g := m_law_tail_right) (a := gVar 3) (m := [A, some (.ref c), some (.int (k : Nat)), some (.int (n : Nat))]) (x := .int (n : Nat)) (h := h3) (h2 := h3) rfl rfl).trans a4)
  have c5 := nt_true ((call1 (n := 1) (g := m_law_ring_right) (a := gVar 3) (m := [A, some (.ref c), some (.int (k : Nat)), some (.int (n : Nat))]) (x := .int (n : Nat)) (h := h4) (h2 := h4) rfl rfl).trans a5)
  exact (or_f c3).trans ((or_f c4).trans c5)
end
theorem law_true {ns : List Int} (hl : ns.length ≤ 63) : ∃ h', m_law [.fls (ns.map .int)] .empty = .ok (.bl true) h' := by
  let A : MV := .fls (ns.map MV.int)
  let h1 := MH.empty.push (.lst ((ns.take 3).map MV.int))
  let h2 := h1.push (.lst ((ns.take 3).map MV.int))
  let h3 := h2.push (.lst [MV.int 0])
  let cs := ns.take 3 ++ [0]
  let h4 := h3.push (.lst (cs.map MV.int))
  have lc : cs.length ≤ 4 := by simp [cs]; omega
  have e1 : gSl (gVar 0) (gPn) (gPs (gC (.int 3))) [some A, none, none, none] MH.empty = .ok (.ref MH.empty.n) h1 := by
    have d0 := cut1 (ns := ns) (m := 3)
    simp only [gSl, gPn, gPs, gC, gVar, Out.bind, A]
    show mSl (.fls (ns.map MV.int)) none (some ((3 : Nat) : Int)) MH.empty = _
    simp only [mSl, isL, if_pos, seqOf, d0]
    rfl
  have e2 : gCB (f1 mList) (gCons (gSl (gVar 0) (gPn) (gPs (gC (.int 3)))) (gNil)) [some A, none, none, none] MH.empty = .ok (.ref h1.n) h2 := (cb1 e1).trans (list_ok (.ref get_top))
  have e3 : gLst (gCons (gC (.int 0)) (gNil)) [some A, none, none, none] h2 = .ok (.ref h2.n) h3 := rfl
  have s0 : LW0 [some A, none, none, none] MH.empty = .nx [some A, some (.ref h3.n), none, none] h4 := by
    refine asg_nx (v := .ref h3.n) (h' := h4) ?_
    rw [bin_ok e2 e3, DK.add_ok ((Up.push (h := h2)).at get_top) get_top (by simp; omega)]
    show Out.ok (MV.ref h3.n) (h3.push (.lst ((ns.take 3).map MV.int ++ [.int 0]))) = _
    simp only [h4, cs, List.map_append, List.map_cons, List.map_nil]
  obtain ⟨m', h', q, r2, r3, em, u⟩ := for_loop (it := it1R 0 cs.length) (t := tgName 2) (b := bLW) (N := cs.length) (fun j m h' => ∃ r2 r3, m = [some A, some (.ref h3.n), r2, r3] ∧ Up h4 h')
    (fun _ _ _ => rng_end) (fun j m h' hj ⟨r2, r3, em, u⟩ => by
      subst em
      obtain ⟨h2', r, b1, b2⟩ := turn_ok (k := j) (A := some A) (o3 := r3) (c := h3.n) (cs := cs) (u.at get_top) hj
      exact ⟨.int (j : Nat), _, h', _, h2', rng_at0 hj, rfl, b1, _, _, rfl, u.trans b2⟩)
    (cs.length + 1) 0 [some A, some (.ref h3.n), none, none] h4 (by omega) (Nat.zero_le _) ⟨none, none, rfl, .refl⟩
  subst em
  have s1 : LW1 [some A, some (.ref h3.n), none, none] h4 = .nx [some A, some (.ref h3.n), r2, r3] h' := by
    rw [t_LW1]
    unfold gFor
    have g4 : h4.get h3.n = some (.lst (cs.map MV.int)) := get_top
    have ln := (Sq.ref g4).len
    rw [List.length_map] at ln
    have c1 : gCB (f1 mLenV) (gCons (gVar 1) (gNil)) [some A, some (.ref h3.n), none, none] h4 = .ok (.int (cs.length : Nat)) h4 := (cb1 (x := .ref h3.n) (h1 := h4) rfl).trans ln
    have c2 : gRng1 (gCB (f1 mLenV) (gCons (gVar 1) (gNil))) [some A, some (.ref h3.n), none, none] h4 = .ok (it1R 0 cs.length) h4 := by
      unfold gRng1
      rw [c1]
      simp only [Out.bind]
      rw [if_pos (by omega), Int.toNat_natCast]
    rw [c2]
    exact q
  refine ⟨h', ?_⟩
  rw [t_LW]
  exact body_rt ((seq_nx s0).trans ((seq_nx s1).trans rfl))
end K47
set_option Elab.async false
set_option linter.all false
set_option maxRecDepth 100000
set_option maxHeartbeats 0
namespace K47
open PySem PySem.Spec PyProof.Rows L2 JB MI
abbrev R : PySem.W.OpenRow := PySem.W.OpenLaw.row PySem.Challenge.rw_lastingrun_k47_a_known_log
abbrev hk : PySem.W.Hook := hookM 5 fa fn fc
def ob (s : PySem.W.SharedT) : He.AlD × Bool := obM 5 fa fn fc (HandSHeadRun.getT s)
theorem ob_eq (s : PySem.W.SharedT) : ob s = hk.obs s.abs := obM_eq (HandSHeadRun.getT_eq s)
def loose : List Str := (["_wall", "NoLoose", "NoCut", "NoPlace", "NoBlock", "Gone", "Stopped", "Full", "WIDTH", "KIND", "HEAD", "LONGEST", "packs", "packed", "is_count", "unpacked", "records_of", "Log", "as_tuples", "Disk"] : List Str) ++ (["_law_box", "_law_take", "_law_same", "_law_told", "_law_blocks_right", "_law_tail_right", "_law_ring_right"] : List Str)
theorem run (w : World) : HandSHeadRun.RunEq R (PySem.W.view R.prog [33]) hk ob 8000 loose w := by
  intro os
  kernel_rfl
theorem facts {P : Program} {w : World} {K : PySem.W.Frag} {h : Heap} {mg : Str → Option Value} {f : Addr} (X : K.In h) (G : h.Ns mainGlobals mg) (hfa : mg ("law" : Str) = some (.ref f)) (c : He.SaysD fa fn K) (cx : fc.all (fun f => f.ok K) = true) :
    ∃ fd : FuncData, (∀ (s : Shared) (v : Value), BindsTo s fd ⟨[v], []⟩ [("_law_script", v)]) ∧ ∀ base : Heap, K.In base → base.Ns mainGlobals mg → FnG P w K mg base (L2.CX P w) 8 f fd ["_law_script"] (spM ⟨K, tN K⟩ 1 m_law) := by
  have F : W K mg := ⟨⟨h, X, G⟩, c, cx⟩
  obtain ⟨fd, D⟩ := c.def_ (35) (d := d_law) rfl
  have e := hfa.symm.trans (He.glo_ok X G (c.fact 0 (f := .glo "law") rfl))
  cases e
  have b := FunD.bindsA (ps := ["_law_script"]) D fun _ _ _ _ _ _ us hl => match us, hl with | [_], _ => rfl
  exact ⟨fd, fun s v => b s [v] rfl, fun base _ _ => fn_law F D⟩
end K47
open PySem PySem.W PySem.Calls PyProof.Rows
set_option maxRecDepth 100000 in
set_option maxHeartbeats 0 in
theorem PySem.Challenge.cw_lastingrun_k47_a_known_log_holds : PySem.Challenge.rw_lastingrun_k47_a_known_log.Holds := by
  w_on; o_law
  refine HandSHeadRun.head_any (r := OpenLaw.row PySem.Challenge.rw_lastingrun_k47_a_known_log) (q := view (OpenLaw.row PySem.Challenge.rw_lastingrun_k47_a_known_log).prog [33]) (H := K47.hk) (ob := K47.ob) (M := 8000) (loose := K47.loose) (d := HandSHeadRun.topDef (OpenLaw.row PySem.Challenge.rw_lastingrun_k47_a_known_log).prog 33) (kwd := []) K47.ob_eq
    (by kernel_rfl) (fun s => by kernel_rfl) K47.run (by kernel_rfl) (by kernel_rfl) (by kernel_rfl) (by rfl) (by first | assumption | decide +kernel) (by decide +kernel) ⟨rfl, rfl, rfl, rfl, rfl, by decide +kernel⟩ ?hw ?hc
  case hw => w_witness2
  case hc =>
    refine MI.walk_GE (l := PySem.Challenge.rw_lastingrun_k47_a_known_log) (n := 63) (k := 8) (x := "_law_script") rfl (by decide) (by kernel_rfl) ⟨rfl, by decide, by decide⟩ ?F
    intro w mg fa h Y G hmg0
    obtain ⟨K, KX, c, cx⟩ := Y
    have hmg : mg ("law" : PySem.Str) = some (.ref fa) := by
      have e : (HandSHeadRun.topDef (OpenLaw.row PySem.Challenge.rw_lastingrun_k47_a_known_log).prog 33).name = ("law" : PySem.Str) := by kernel_rfl
      rw [← e]
      exact hmg0
    obtain ⟨fd, hb, hF⟩ := K47.facts (P := (PySem.Challenge.rw_lastingrun_k47_a_known_log).prog) (w := w) KX G hmg c cx
    refine ⟨K, fd, _, KX, hb, fun H a ns hl hO hS => ?_, hF⟩
    obtain ⟨h', e⟩ := K47.law_true hl
    exact MI.law_sp (Z := ⟨K, K47.tN K⟩) hO hS e
