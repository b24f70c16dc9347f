import PyProof.Rows.All
import Wide.All
import OpenK.AllK
import Wide.FinOn
import HandS.ForMost
import HandS.IsInst
import HandS.FStr
import HandS.ExcInit
import HandS.ExcIs
import HandS.MakeKw
import HandS.Rev
import HandS.NoneIn
import HandS.Small
import HandS.Flow
import HandS.TupAny
import KE.KUnpack
import PyProof.AutoSeq1
import PyProof.ReprBulk
import HandS.Star
import HandS.SetKeys
import HandS.TupMul
import HandS.SortInts
import HandS.More
import KE.KSortedM
import PyProof.Draws
import PyProof.EnumMake
import PyProof.TupleIter
import HandS.SortKw
import PyProof.MinMaxWalk
import PyProof.DictWalks
import HandS.HeadEnd
import HandS.HeadHook1
import HandS.HeadHook2
import HandS.Head2
import HandS.Defaults
import Lean
import HandS.Conv
import HandS.RaiseMore
import PyProof.CallFns
import PyProof.FitsInt
import KE.KExcIs
import HandS.ExcValue
import HandS.TryMany
import HandS.Style
import KE.DataFind
import HandS.DictComp
import PyProof.ListMulRight
import PyProof.ListMulAny
import PyProof.Rows.ListMulArg
import HandS.ListItems
import HandS.RevTup
import HandS.SetBool
import HandS.Strs
import HandS.SortRule
import PySem.Challenge.RW_lastingrun_k57_a_known_store
set_option Elab.async false
set_option linter.all false
set_option maxRecDepth 100000
set_option maxHeartbeats 4000000
namespace JB
open PySem PySem.Spec PyProof.Rows L2
abbrev Still (A : Around) : Prop := A.guards = some []
structure FnG (P : Program) (w : World) (K : PySem.W.Frag) (mg : Str → Option Value)
    (base : Heap) (CX : CXT) (k : Nat) (f : Addr) (fd : FuncData) (ps : List Str) (sp : Sp) : Prop where
  many : ∀ a h q e, sp a h q e → a.length = ps.length
  goes : ∀ (A : Around) (outer : List Env) (s : Shared) (H : Hp) (args : Args)
    (us : List Value) (vs : List V) (Q : VK) (E : XK), Still A → Room k A →
    Env0 P w K mg base A outer s H → BindsTo s fd args (ps.zip us) → Vals vs us →
    sp vs H Q E → codeAny (model P w) A (.call (.ref f) args) (CR CX outer P w H s Q E) s
section
variable {P : Program} {w : World} {K : PySem.W.Frag} {mg : Str → Option Value} {base : Heap}
variable {CX : CXT} {j k : Nat} {f : Addr} {fd : FuncData} {ps : List Str} {sp : Sp}
theorem FnG.of (F : FnOk P w K mg base CX k f fd ps sp) : FnG P w K mg base CX k f fd ps sp :=
  ⟨F.len, fun A o s H a us vs Q E _ r e b v h => F.run A o s H a us vs Q E r e b v h⟩
end
theorem still_make {A : Around} {C : Addr} {us : List Value} {kw : List (Str × Value)} (h : Still A) :
    Still (A.under (.builtin "type.__call__" ⟨.ref C :: us, kw⟩)) := by
  first
    | exact h
    | (simpa [Still, Around.under, Code.guards, Code.isGuard, pushGuards, guardIds] using h)
section
variable {X : Cx} {CX : CXT} {k : Nat} {f C : Addr} {fd : FuncData} {ps : List Str} {sp : Sp}
variable {dvs : List V} {ds : List Value} {E : XK} {x m : Str} {p pos apos : Pos} {e o : Expr} {es : List Expr} {ta : TE} {t : TA}
theorem run_g {pins : List (Addr × Obj)} {σ : L2.St} {H : Hp} {s : Shared} {Q : VK} {us : List Value}
    {vs : List V} (hs : Still X.A) (F : FnG X.prog X.w X.K X.mg X.base CX k f fd ps sp)
    (hr : Room k X.A) (hb : Binds X.K fd ps ds) (hd : Vals dvs ds) (hx : Passes CX X E)
    (I : Inv X pins σ H s) (r : Vals vs us) (h : sp (vs ++ dvs) H Q E) :
    wpAny (model X.prog X.w) X.A (call (.ref f) us) (EP X pins σ Q) X.xe s := by
  have rr := r.append hd
  have hl : (us ++ ds).length = ps.length := by
    rw [← rr.length]; exact F.many _ _ _ _ h
  refine wpAny_call (codeAny_mono (F.goes X.A X.stack s H ⟨us, []⟩ (us ++ ds) (vs ++ dvs) Q E hs hr
    I.env0 (hb s us I.kIn hl) rr h) fun z s' hq => ?_)
  cases z with
  | error er => exact hx pins σ H s er s' I hq
  | ok fl => cases fl <;> first | exact I.after hq | exact False.elim hq
theorem pe_callG (hs : Still X.A) (F : FnG X.prog X.w X.K X.mg X.base CX k f fd ps sp)
    (hr : Room k X.A) (hg : Gl X x) (hm : X.mg x = some (.ref f))
    (hk : PySem.W.keepIn X.K (.ref f) = true) (hb : Binds X.K fd ps ds) (hd : Vals dvs ds)
    (hx : Passes CX X E) (ha : PA X (e :: es) t)
    (hdb : (x == ("__debug__" : Str)) = false := by decide)
    (he : starEach (e :: es) X.env = (false, eval e X.env) :: starEach es X.env := by rfl)
    (hpl : (backTo pos (starEach es X.env)).any (·.1) = false := by rfl) :
    PE X (.Call (.Name x p) (e :: es) [] pos) (tCall sp dvs E t) :=
  ⟨fun pins s σ H Q I h => wpAny_Call_Name_kw (ld_glob I hg hm (PySem.W.callWith_K (h₀ := X.base)
    I.ok.mod.kin hk (thn (ha.run pos pins s σ H _ I h) fun us s1 ⟨vs, H1, I1, r, q⟩ =>
      ⟨I1.kIn, run_g hs F hr hb hd hx I1 r q⟩) he hpl) hdb)⟩
end
theorem fn_g {CX : CXT} {P : Program} {w : World} {K : PySem.W.Frag} {mg : Str → Option Value}
    {base : Heap} {k : Nat} {f : Addr} {name qual : Str} {params : Arguments} {body : List Stmt}
    {scope : Scope} {dV kV doc pm cdv ct oc : Value} {an od : Option Addr}
    {osl : Array (Option Value)} {N ps : List Str} {sp : Sp}
    (lk : K.lookup f = some ⟨oc, od, .func (PySem.W.fnOf name qual params body scope dV kV doc pm an cdv ct), osl⟩)
    (hcd : PySem.W.codeIn K cdv qual = true) (S : FnScope N ps scope)
    (many : ∀ a h q e, sp a h q e → a.length = ps.length)
    (hbody : ∀ (A : Around) (outer : List Env) (s : Shared) (H : Hp) (vs : List V) (Q : VK) (E : XK),
      Still (A.deeper (envOfC qual scope s.heap.objs.size f cdv)) →
      Room k (A.deeper (envOfC qual scope s.heap.objs.size f cdv)) → sp vs H Q E →
      ∃ t, PSs (cxOf CX P w K mg base N qual scope f cdv A outer s H E) body t ∧
        t { nx := fun _ H' => Q .non H', rt := Q } (start N vs) H) :
    FnG P w K mg base CX (k + 1) f (PySem.W.fnOf name qual params body scope dV kV doc pm an cdv ct) ps sp := by
  refine ⟨many, fun A outer s H args us vs Q E hst hr e0 hb r hsp => ?_⟩
  have hl := many _ _ _ _ hsp
  have KX : K.In s.heap := e0.mod.kin.keeps fun b o e => (e0.bs b o e).1
  have lim : s.heap.NoLimit := e0.mod.nolimit.keeps fun b o e => (e0.bs b o e).1
  have hkind : ∀ y ∈ ps.zip us, scope.names.lookup y.1 = some .local ∨ (scope.names.lookup y.1 = some .cell ∧
      ((cellsFrom (s.heap.objs.size + 1) scope.names []).lookup y.1).isSome = true) := by
    rintro ⟨n, v⟩ hy
    rcases S.par n (List.of_mem_zip hy).1 with q | q
    · exact .inl q
    · exact .inr ⟨q, PySem.W.cellsFrom_some _ _ _ (.inl q)⟩
  refine codeAny_call_function hr.depth (KX _ _ lk) rfl S.co S.gen rfl
    (PySem.W.codeRec_of KX hcd) (hb _ _ _ _ ?_)
  refine wpAny_newFunctionEnv_cells S.kind hkind fun env he s1 x => ?_
  subst he
  refine ⟨lim.keeps x.toInCall.keep, codeAny_func ?_⟩
  obtain ⟨t, ht, hq⟩ := hbody A outer s H vs Q E hst (hr.deeper _) hsp
  have I : Inv (cxOf CX P w K mg base N qual scope f cdv A outer s H E) [] (start N vs) H s1 :=
    inv_start S hr.hd e0 hl r x
  refine wpAny_mono (ht.run [] s1 (start N vs) H _ I hq) (fun fl s' hs => ?_) fun e s' hs => hs
  have fin : ∀ {σ' : L2.St} {H' : Hp} {v : V} {u : Value},
      Inv (cxOf CX P w K mg base N qual scope f cdv A outer s H E) [] σ' H' s' → RelV v u →
      Q v H' → CE outer P w H s Q u s' :=
    fun {σ' H' v u} J rv q => ⟨v, H', J.os, J.bare, J.base, J.hok, rv, q⟩
  cases fl with
  | ret u => obtain ⟨v, σ', H', J, rv, q⟩ := hs; exact fin J rv q
  | next => obtain ⟨σ', H', J, q⟩ := hs; exact fin (v := V.non) (u := Value.none) J rfl q
  | brk => obtain ⟨_, _, _, q⟩ := hs; exact False.elim q
  | cont => obtain ⟨_, _, _, q⟩ := hs; exact False.elim q
end JB
set_option Elab.async false
set_option linter.all false
set_option maxRecDepth 100000
set_option maxHeartbeats 4000000
namespace JB
open PySem PySem.Spec PyProof.Rows L2
theorem law_callG {P : Program} {w : World} {K : PySem.W.Frag} {mg mb : Str → Option Value} {CX : CXT}
    {k : Nat} {fa a : Addr} {fd : FuncData} {x : Str} {sp : Sp} {s₁ : Shared} {vs : List Value} {ns : List Int}
    (KX : K.In s₁.heap) (hns : s₁.heap.Ns mainGlobals mg) (hb : s₁.heap.Ns builtinsNs mb)
    (hbb : ∀ x : Str, x ≠ "__name__" → mb x = bootBuiltins x) (hlim : s₁.heap.NoLimit)
    (hg : s₁.gens = #[]) (ha : s₁.heap.get? a = some { cls := .type "list", data := .seq vs.toArray })
    (hi : IntsAre vs ns) (hl : ns.length ≤ sizeLine) (hr : Room k callerA)
    (F : ∀ base : Heap, K.In base → base.Ns mainGlobals mg → FnG P w K mg base CX k fa fd [x] sp)
    (hbind : ∀ (s : Shared) (u : Value), BindsTo s fd ⟨[u], []⟩ [(x, u)])
    (hsp : ∀ H : Hp, Only H → SqL K H a (ns.map V.int) →
      sp [.ref a] H (fun v _ => v = .bl true) fun _ _ _ => False)
    (hCX : ∀ H e s', CX [] H s₁ (fun _ _ _ => False) e s' → False) :
    codeAny (model P w) callerA (.call (.ref fa) ⟨[.ref a], []⟩)
      (fun r s' => r = .ok (.ret (.bool true)) ∧ OldK s₁.heap s'.heap ∧ s'.os = s₁.os ∧ AllBare s'.gens) s₁ := by
  have rv := vals_ints hi
  have lenV := hi.length
  have core : ∀ H : Hp, Only H → SqL K H a (ns.map V.int) → HOk P w H s₁.heap →
      (∀ b, H b ≠ none → b = a) → (H a ≠ none → K.lookup a = none) →
      codeAny (model P w) callerA (.call (.ref fa) ⟨[.ref a], []⟩)
        (fun r s' => r = .ok (.ret (.bool true)) ∧ OldK s₁.heap s'.heap ∧ s'.os = s₁.os ∧ AllBare s'.gens) s₁ := by
    intro H hO hS hok hA hK
    have base_of : ∀ {b : Addr} {o : Obj}, s₁.heap.get? b = some o → H b = none →
        (hidT s₁.heap H).get? b = some o := fun e n => hidT_get e n
    have noA : ∀ {b : Addr} {o : Obj} {es : Array DictEntry} {ep : Nat},
        s₁.heap.get? b = some o → o.data = .dict es ep → H b = none := by
      intro b o es ep e d
      cases q : H b with
      | none => rfl
      | some u =>
        obtain rfl : b = a := hA b (by rw [q]; simp)
        rw [ha] at e
        cases e
        exact absurd (show Data.seq vs.toArray _ = Data.dict es ep from d) (fun z => by cases z)
    have nsK : ∀ {b : Addr} {m : Str → Option Value}, s₁.heap.Ns b m → (hidT s₁.heap H).Ns b m := by
      rintro b m ⟨o, es, ep, e, d, r⟩
      exact ⟨o, es, ep, base_of e (noA e d), d, r⟩
    have hKb : K.In (hidT s₁.heap H) := by
      intro b o e
      refine base_of (KX b o e) ?_
      cases q : H b with
      | none => rfl
      | some u =>
        obtain rfl : b = a := hA b (by rw [q]; simp)
        rw [hK (by rw [q]; simp)] at e
        cases e
    have hM : Mod K mg (hidT s₁.heap H) := by
      obtain ⟨mc, h1, h2⟩ := hlim
      exact ⟨hKb, nsK hns, ⟨mb, nsK hb, hbb⟩, ⟨mc, nsK h1, h2⟩⟩
    have nil : ∀ {α : Type} (b : α), ¬ b ∈ ([] : List α) := fun b z => nomatch z
    have e0 : Env0 P w K mg (hidT s₁.heap H) callerA [] s₁ H :=
      ⟨rfl, hM, fun b o e => of_hidT e, Nat.le_of_eq (hidT_size _ _), trivial,
        fun b hb => (nil b hb).elim, hok, .of_eq hg⟩
    refine codeAny_mono ((F _ hKb (nsK hns)).goes callerA [] s₁ H ⟨[.ref a], []⟩ [.ref a] [.ref a] _ _
      rfl hr e0 (hbind s₁ (.ref a)) (.cons rfl .nil) (hsp H hO hS)) fun r s' h => ?_
    cases r with
    | error e => exact (hCX H e s' h).elim
    | ok fl =>
      cases fl with
      | next => exact False.elim h
      | brk => exact False.elim h
      | cont => exact False.elim h
      | ret u =>
        obtain ⟨v, H', os, bare, un, hok', r', q⟩ := h
        obtain rfl : v = .bl true := q
        obtain rfl : u = Value.bool true := r'
        refine ⟨rfl, OldK.of_keep fun b o e => ?_, os, bare⟩
        rcases hO b with z | ⟨ob, xs, z⟩
        · exact un.keep b o e z (nil b) (nil b)
        · obtain ⟨e1, _⟩ := hok b _ z
          obtain ⟨e2, _⟩ := hok' b _ (un.frzs b ob _ z)
          rw [e] at e1
          cases e1
          exact e2
  cases hk : K.lookup a with
  | some o =>
    have e := KX a o hk
    rw [ha] at e
    cases e
    refine core (fun _ => none) (fun _ => .inl rfl) (.inr ⟨_, vs.toArray, _, hk, rfl, rfl, rfl, ?_, ?_⟩)
      (fun b u z => ?_) (fun b z => absurd rfl z) fun z => absurd rfl z
    · rw [List.size_toArray, lenV]; exact hl
    · simpa using rv
    · exact absurd (show (none : Option HO) = some u from z) (fun z => by cases z)
  | none =>
    refine core (fun b => if b = a then some (.frz { cls := .type "list", data := .seq vs.toArray }
      (.lst (ns.map V.int))) else none) (fun b => ?_) (.inl (.inr ⟨_, if_pos rfl⟩)) (fun b u z => ?_)
      (fun b z => ?_) fun _ => hk
    all_goals by_cases hb : b = a
    · exact .inr ⟨_, _, if_pos hb⟩
    · exact .inl (if_neg hb)
    · have z' := (if_pos hb).symm.trans z
      cases z'
      subst hb
      exact ⟨ha, by rw [List.length_map]; exact hl, vs, _, rv, ha⟩
    · have z' := (if_neg hb).symm.trans z
      cases z'
    · exact hb
    · exact absurd (if_neg hb) z
section
variable {X : Cx}
def rShow (K : PySem.W.Frag) : List V → Hp → VK → Prop := fun xs H Q => ∃ (a : Addr) (d : PyData),
  xs = [.ref a] ∧ Dp K H (.ref a) d ∧ d.showable = true ∧ d.hasDict = false ∧ d.depth ≤ 60 ∧
  d.shown.length ≤ sizeLine ∧ Q (.str d.shown) H
theorem call_show (hs : Still X.A) (hu : X.A.units + 64 < cLine) : CallR X (.builtin "repr") (rShow X.K) := by
  intro pins s σ H xs us Q I r h
  obtain ⟨a, d, rfl, hd, h1, h2, h3, h4, q⟩ := h
  obtain ⟨u, rfl, rfl⟩ : ∃ u, us = [u] ∧ u = Value.ref a := by
    cases r with | cons r1 r2 => cases r2; exact ⟨_, rfl, r1⟩
  obtain ⟨as, rd⟩ := Dp.reads I d (.ref a) (.ref a) hd rfl
  exact repr_of_reads' rd h1 (PyData.noDict_hsm h2) hs (by omega) (fun _ _ e => e)
    (fun h' u tk hk => ⟨.str d.shown, H, I.kept hk, ⟨u, rfl⟩, q⟩) h4
end
end JB
set_option Elab.async false
set_option linter.all false
set_option maxRecDepth 100000
set_option maxHeartbeats 4000000
namespace MI
open PySem PySem.Spec PyProof.Rows L2
structure Zt where
  K : PySem.W.Frag
  adr : Nat → Addr
inductive MV where
  | non | bl (b : Bool) | int (n : Int) | str (s : List Nat) | tup (xs : List MV) | ktp (xs : List MV) | fls (xs : List MV) | ref (i : Nat) | adr (a : Nat) | ty (s : String) | err (C : Nat) (ks : List Nat) (xs : List MV)
  deriving Inhabited
abbrev MK := Sum Int (List Nat)
def kOf : MK → Key
  | .inl i => .inl i
  | .inr s => .inr ⟨s.toArray⟩
def digs : Nat → Nat → List Nat
  | 0, _ => []
  | n + 1, k => if k = 0 then [] else (k % 2097152) :: digs n (k / 2097152)
def digv : List Nat → Nat
  | [] => 0
  | d :: l => d + 2097152 * digv l
theorem digv_digs : ∀ n k : Nat, k ≤ n → digv (digs n k) = k
  | 0, k, h => by
    have : k = 0 := by omega
    subst this; rfl
  | n + 1, k, h => by
    unfold digs
    by_cases e : k = 0
    · rw [if_pos e, e]; rfl
    · rw [if_neg e]
      show k % 2097152 + 2097152 * digv (digs n (k / 2097152)) = k
      rw [digv_digs n (k / 2097152) (by omega)]
      omega
def nm (k : Nat) : Str := ⟨(digs k k).toArray⟩
theorem nm_inj {i j : Nat} (h : nm i = nm j) : i = j := by
  have e2 : (digs i i).toArray = (digs j j).toArray := Str.mk.inj h
  have e3 : digs i i = digs j j := by simpa using e2
  rw [← digv_digs i i (Nat.le_refl _), ← digv_digs j j (Nat.le_refl _), e3]
inductive MO where
  | lst (xs : List MV) | dic (kvs : List (MK × MV)) | dit (kvs : List (List MK × MV)) | ins (C : Nat) (fs : List (Nat × MV)) | fdi (kvs : List (MK × MV))
  deriving Inhabited
def MO.opn : MO → Bool
  | .fdi _ => false
  | _ => true
inductive Tr where
  | nil | leaf (l : List (Nat × MO)) | node (l r : Tr)
namespace Tr
def get : Nat → Tr → Nat → Option MO
  | 0, .leaf l, i => l.lookup i
  | _, .leaf _, _ => none
  | d + 1, .node l r, i => if i % 2 = 0 then get d l (i / 2) else get d r (i / 2)
  | 0, .node _ _, _ => none
  | _, .nil, _ => none
def set : Nat → Tr → Nat → MO → Tr
  | 0, .leaf l, i, o => .leaf ((i, o) :: l.filter fun p => p.1 != i)
  | 0, _, i, o => .leaf [(i, o)]
  | d + 1, .node l r, i, o => if i % 2 = 0 then .node (set d l (i / 2) o) r else .node l (set d r (i / 2) o)
  | d + 1, _, i, o => if i % 2 = 0 then .node (set d .nil (i / 2) o) .nil else .node .nil (set d .nil (i / 2) o)
theorem look_filter {l : List (Nat × MO)} {i j : Nat} (h : j ≠ i) : (l.filter fun p => p.1 != i).lookup j = l.lookup j := by
  induction l with
  | nil => rfl
  | cons p l ih =>
    obtain ⟨a, o⟩ := p
    rw [List.filter_cons]
    by_cases e : a = i
    · subst e
      rw [if_neg (by simp), ih, List.lookup_cons]
      rw [beq_false_of_ne h]
    · rw [if_pos (by simpa using e), List.lookup_cons, List.lookup_cons, ih]
theorem get_set (d : Nat) : ∀ (t : Tr) (i j : Nat) (o : MO), get d (set d t i o) j = if j = i then some o else get d t j := by
  induction d with
  | zero =>
    intro t i j o
    cases t with
    | leaf l =>
      show List.lookup j ((i, o) :: _) = _
      rw [List.lookup_cons]
      by_cases e : j = i
      · subst e; simp
      · rw [if_neg e, beq_false_of_ne e]
        exact look_filter e
    | nil =>
      show List.lookup j [(i, o)] = _
      rw [List.lookup_cons]
      by_cases e : j = i
      · subst e; simp
      · rw [if_neg e, beq_false_of_ne e]; rfl
    | node _ _ =>
      show List.lookup j [(i, o)] = _
      rw [List.lookup_cons]
      by_cases e : j = i
      · subst e; simp
      · rw [if_neg e, beq_false_of_ne e]; rfl
  | succ d ih =>
    intro t i j o
    have key : ∀ l r : Tr, get (d + 1) (if i % 2 = 0 then Tr.node (set d l (i / 2) o) r else .node l (set d r (i / 2) o)) j = if j = i then some o else get (d + 1) (.node l r) j := by
      intro l r
      by_cases hi : i % 2 = 0
      · rw [if_pos hi]
        show (if j % 2 = 0 then get d (set d l (i / 2) o) (j / 2) else get d r (j / 2)) = _
        by_cases hj : j % 2 = 0
        · rw [if_pos hj, ih]
          by_cases e : j = i
          · subst e; simp
          · rw [if_neg (by omega), if_neg e]
            show _ = if j % 2 = 0 then get d l (j / 2) else get d r (j / 2)
            rw [if_pos hj]
        · rw [if_neg hj, if_neg (by intro e; subst e; exact hj hi)]
          show _ = if j % 2 = 0 then get d l (j / 2) else get d r (j / 2)
          rw [if_neg hj]
      · rw [if_neg hi]
        show (if j % 2 = 0 then get d l (j / 2) else get d (set d r (i / 2) o) (j / 2)) = _
        by_cases hj : j % 2 = 0
        · rw [if_pos hj, if_neg (by intro e; subst e; exact hi hj)]
          show _ = if j % 2 = 0 then get d l (j / 2) else get d r (j / 2)
          rw [if_pos hj]
        · rw [if_neg hj, ih]
          by_cases e : j = i
          · subst e; simp
          · rw [if_neg (by omega), if_neg e]
            show _ = if j % 2 = 0 then get d l (j / 2) else get d r (j / 2)
            rw [if_neg hj]
    have nn : ∀ n k, get n .nil k = none := fun n k => by cases n <;> rfl
    have nil2 : get (d + 1) (.node .nil .nil) j = none := by
      show (if j % 2 = 0 then get d .nil (j / 2) else get d .nil (j / 2)) = none
      rw [nn]; split <;> rfl
    cases t with
    | node l r => exact key l r
    | nil =>
      have := key .nil .nil
      rw [nil2] at this
      exact this
    | leaf l =>
      have := key .nil .nil
      rw [nil2] at this
      exact this
end Tr
structure MH where
  n : Nat
  t : Tr
namespace MH
def get (h : MH) (i : Nat) : Option MO := if i < h.n then h.t.get 6 i else none
def set (h : MH) (i : Nat) (o : MO) : MH := ⟨h.n, h.t.set 6 i o⟩
def push (h : MH) (o : MO) : MH := ⟨h.n + 1, h.t.set 6 h.n o⟩
def empty : MH := ⟨0, .nil⟩
theorem get_set {h : MH} {i j : Nat} {o : MO} (hi : i < h.n) : (h.set i o).get j = if j = i then some o else h.get j := by
  unfold get set
  show (if j < h.n then _ else _) = _
  rw [Tr.get_set]
  by_cases e : j = i
  · subst e; rw [if_pos hi, if_pos rfl, if_pos rfl]
  · rw [if_neg e, if_neg e]
theorem get_push {h : MH} {j : Nat} {o : MO} : (h.push o).get j = if j = h.n then some o else h.get j := by
  unfold get push
  show (if j < h.n + 1 then _ else _) = _
  rw [Tr.get_set]
  by_cases e : j = h.n
  · subst e; rw [if_pos (Nat.lt_succ_self _), if_pos rfl, if_pos rfl]
  · rw [if_neg e, if_neg e]
    by_cases e2 : j < h.n
    · rw [if_pos e2, if_pos (by omega)]
    · rw [if_neg e2, if_neg (by omega)]
theorem get_lt {h : MH} {i : Nat} {o : MO} (e : h.get i = some o) : i < h.n := by
  unfold get at e
  split at e
  · assumption
  · cases e
theorem get_none {h : MH} {i : Nat} (e : h.n ≤ i) : h.get i = none := by unfold get; rw [if_neg (by omega)]
end MH
def FzL (K : PySem.W.Frag) (H : Hp) (a : Addr) (vs : List V) : Prop := (∃ o, H a = some (.frz o (.lst vs))) ∨ SqL K (fun _ => none) a vs
theorem ktp_sq {K : PySem.W.Frag} {H : Hp} {a : Addr} {vs : List V} (h : SqT K (fun _ => none) a vs) : SqT K H a vs := by
  rcases h with (h | ⟨o, h⟩) | h
  · cases h
  · cases h
  · exact .inr h
theorem FzL.sq {K : PySem.W.Frag} {H : Hp} {a : Addr} {vs : List V} (h : FzL K H a vs) : SqL K H a vs := by
  rcases h with h | h
  · exact .inl (.inr h)
  · rcases h with (h | ⟨o, h⟩) | h
    · cases h
    · cases h
    · exact .inr h
def exk (e C : Addr) (d : Option Addr) : HO := .ext fun h => ∃ (oe : Obj) (vs : Array Value), h.get? e = some oe ∧ oe.cls = .ref C ∧ oe.dict = d ∧ oe.data = .fields vs
def XdH (H : Hp) (d : Option Addr) (ks : List Nat) (vs : List V) : Prop := (d = none ∧ ks = [] ∧ vs = []) ∨ ∃ dx, d = some dx ∧ H dx = some (.xd ((ks.map nm).zip vs)) ∧ ks.length = vs.length
mutual
inductive RV (Z : Zt) (ρ : List Addr) (H : Hp) : MV → V → Prop
  | non : RV Z ρ H .non .non
  | bl (b : Bool) : RV Z ρ H (.bl b) (.bl b)
  | int (n : Int) : RV Z ρ H (.int n) (.int n)
  | str (s : List Nat) : RV Z ρ H (.str s) (.str ⟨s.toArray⟩)
  | ty (s : String) : RV Z ρ H (.ty s) (.ty s)
  | adr (a : Addr) : RV Z ρ H (.adr a) (.ref a)
  | ref {i : Nat} {a : Addr} : ρ[i]? = some a → RV Z ρ H (.ref i) (.ref a)
  | tup {a : Addr} {xs : List MV} {vs : List V} : H a = some (.tup vs) → RVs Z ρ H xs vs → RV Z ρ H (.tup xs) (.ref a)
  | ktp {a : Addr} {xs : List MV} {vs : List V} : SqT Z.K (fun _ => none) a vs → RVs Z ρ H xs vs → RV Z ρ H (.ktp xs) (.ref a)
  | fls {a : Addr} {xs : List MV} {vs : List V} : FzL Z.K H a vs → RVs Z ρ H xs vs → RV Z ρ H (.fls xs) (.ref a)
  | err {a : Addr} {C : Nat} {d : Option Addr} {ks : List Nat} {xs : List MV} {vs : List V} : H a = some (exk a (Z.adr C) d) → XdH H d ks vs → RVs Z ρ H xs vs → RV Z ρ H (.err C ks xs) (.ref a)
inductive RVs (Z : Zt) (ρ : List Addr) (H : Hp) : List MV → List V → Prop
  | nil : RVs Z ρ H [] []
  | cons {x : MV} {v : V} {xs : List MV} {vs : List V} : RV Z ρ H x v → RVs Z ρ H xs vs → RVs Z ρ H (x :: xs) (v :: vs)
end
def Still : HO → Prop
  | .tup _ => True
  | .own _ => True
  | .frz _ _ => True
  | .xd _ => True
  | .ext _ => True
  | _ => False
structure Ext (ρ : List Addr) (H : Hp) (ρ' : List Addr) (H' : Hp) : Prop where
  pre : ∃ τ, ρ' = ρ ++ τ ∧ ∀ a ∈ τ, H a = none
  hold : ∀ a o, H a = some o → (Still o ∨ ¬ a ∈ ρ) → H' a = some o
  mono : ∀ a, H' a = none → H a = none
theorem Ext.still {ρ ρ' : List Addr} {H H' : Hp} (e : Ext ρ H ρ' H') : ∀ a o, H a = some o → Still o → H' a = some o := fun a o h s => e.hold a o h (.inl s)
theorem Ext.refl {ρ : List Addr} {H : Hp} : Ext ρ H ρ H := ⟨⟨[], by simp⟩, fun _ _ h _ => h, fun _ h => h⟩
theorem Ext.trans {ρ ρ1 ρ2 : List Addr} {H H1 H2 : Hp} (a : Ext ρ H ρ1 H1) (b : Ext ρ1 H1 ρ2 H2) : Ext ρ H ρ2 H2 := by
  obtain ⟨⟨t1, rfl, f1⟩, s1, m1⟩ := a
  obtain ⟨⟨t2, rfl, f2⟩, s2, m2⟩ := b
  refine ⟨⟨t1 ++ t2, by simp, fun x hx => ?_⟩, fun x o h s => s2 x o (s1 x o h s) ?_, fun x h => m1 x (m2 x h)⟩
  · rcases List.mem_append.mp hx with hx | hx
    · exact f1 x hx
    · exact m1 x (f2 x hx)
  · rcases s with s | s
    · exact .inl s
    · refine .inr fun hx => ?_
      rcases List.mem_append.mp hx with hx | hx
      · exact s hx
      · rw [f1 x hx] at h; cases h
theorem Ext.at {ρ ρ' : List Addr} {H H' : Hp} (e : Ext ρ H ρ' H') {i : Nat} {a : Addr} (h : ρ[i]? = some a) : ρ'[i]? = some a := by
  obtain ⟨⟨t, rfl, _⟩, _⟩ := e
  rw [List.getElem?_append_left]
  · exact h
  · exact (List.getElem?_eq_some_iff.mp h).1
theorem Ext.sqT {Z : Zt} {ρ ρ' : List Addr} {H H' : Hp} (e : Ext ρ H ρ' H') {a : Addr} {vs : List V} (h : SqT Z.K H a vs) : SqT Z.K H' a vs := by
  rcases h with (h | ⟨o, h⟩) | h
  · exact .inl (.inl (e.still _ _ h trivial))
  · exact .inl (.inr ⟨o, e.still _ _ h trivial⟩)
  · exact .inr h
theorem Ext.fzL {K : PySem.W.Frag} {ρ ρ' : List Addr} {H H' : Hp} (e : Ext ρ H ρ' H') {a : Addr} {vs : List V} (h : FzL K H a vs) : FzL K H' a vs := by
  rcases h with ⟨o, h⟩ | h
  · exact .inl ⟨o, e.still _ _ h trivial⟩
  · exact .inr h
theorem Ext.xdH {ρ ρ' : List Addr} {H H' : Hp} (e : Ext ρ H ρ' H') {d : Option Addr} {ks : List Nat} {vs : List V} (h : XdH H d ks vs) : XdH H' d ks vs := by
  rcases h with h | ⟨dx, h1, h2, h3⟩
  · exact .inl h
  · exact .inr ⟨dx, h1, e.still _ _ h2 trivial, h3⟩
mutual
theorem RV.ext {Z : Zt} {ρ ρ' : List Addr} {H H' : Hp} (e : Ext ρ H ρ' H') {x : MV} {v : V} : RV Z ρ H x v → RV Z ρ' H' x v
  | .non => .non
  | .bl b => .bl b
  | .int n => .int n
  | .str s => .str s
  | .fls h r => .fls (e.fzL h) (RVs.ext e r)
  | .ty s => .ty s
  | .adr a => .adr a
  | .ref h => .ref (e.at h)
  | .tup h r => .tup (e.still _ _ h trivial) (RVs.ext e r)
  | .ktp h r => .ktp h (RVs.ext e r)
  | .err h k r => .err (e.still _ _ h trivial) (e.xdH k) (RVs.ext e r)
theorem RVs.ext {Z : Zt} {ρ ρ' : List Addr} {H H' : Hp} (e : Ext ρ H ρ' H') {x : List MV} {v : List V} : RVs Z ρ H x v → RVs Z ρ' H' x v
  | .nil => .nil
  | .cons h r => .cons (RV.ext e h) (RVs.ext e r)
end
inductive RKs {κ κ' : Type} (f : κ → κ') (Z : Zt) (ρ : List Addr) (H : Hp) : List (κ × MV) → List (κ' × V) → Prop
  | nil : RKs f Z ρ H [] []
  | cons {k : κ} {x : MV} {v : V} {xs : List (κ × MV)} {vs : List (κ' × V)} : RV Z ρ H x v → RKs f Z ρ H xs vs → RKs f Z ρ H ((k, x) :: xs) ((f k, v) :: vs)
theorem RKs.ext {κ κ' : Type} {f : κ → κ'} {Z : Zt} {ρ ρ' : List Addr} {H H' : Hp} (e : Ext ρ H ρ' H') {x : List (κ × MV)} {v : List (κ' × V)} (h : RKs f Z ρ H x v) : RKs f Z ρ' H' x v := by
  induction h with
  | nil => exact .nil
  | cons a _ ih => exact .cons (a.ext e) ih
def OR (Z : Zt) (ρ : List Addr) (H : Hp) (a : Addr) : MO → Prop
  | .lst xs => ∃ vs, H a = some (.lst vs) ∧ RVs Z ρ H xs vs
  | .dic xs => ∃ vs, H a = some (.dK vs) ∧ RKs kOf Z ρ H xs vs
  | .dit xs => ∃ vs, H a = some (.dT vs) ∧ RKs (List.map kOf) Z ρ H xs vs
  | .ins C fs => ∃ dx vs, H a = some (.ins (Z.adr C) dx vs) ∧ RKs nm Z ρ H fs vs
  | .fdi xs => ∃ o vs, H a = some (.frz o (.dK vs)) ∧ RKs kOf Z ρ H xs vs
structure HR (Z : Zt) (ρ : List Addr) (h : MH) (H : Hp) : Prop where
  nodup : ρ.Nodup
  len : ρ.length = h.n
  all : ∀ i o, h.get i = some o → ∃ a, ρ[i]? = some a ∧ OR Z ρ H a o
  has : ∀ i, i < h.n → (h.get i).isSome = true
theorem OR.ext {Z : Zt} {ρ ρ' : List Addr} {H H' : Hp} (e : Ext ρ H ρ' H') {a : Addr} {o : MO} (h : OR Z ρ H a o) (k : H' a = H a) : OR Z ρ' H' a o := by
  cases o with
  | lst xs => obtain ⟨vs, h1, h2⟩ := h; exact ⟨vs, k.trans h1, h2.ext e⟩
  | dic xs => obtain ⟨vs, h1, h2⟩ := h; exact ⟨vs, k.trans h1, h2.ext e⟩
  | dit xs => obtain ⟨vs, h1, h2⟩ := h; exact ⟨vs, k.trans h1, h2.ext e⟩
  | ins C fs => obtain ⟨dx, vs, h1, h2⟩ := h; exact ⟨dx, vs, k.trans h1, h2.ext e⟩
  | fdi xs => obtain ⟨dx, vs, h1, h2⟩ := h; exact ⟨dx, vs, k.trans h1, h2.ext e⟩
theorem OR.notStill {Z : Zt} {ρ : List Addr} {H : Hp} {a : Addr} {o : MO} (h : OR Z ρ H a o) {u : HO} (e : H a = some u) (hop : o.opn = true) : ¬ Still u := by
  cases o with
  | lst xs => obtain ⟨vs, h1, _⟩ := h; rw [h1] at e; cases e; exact fun z => z
  | dic xs => obtain ⟨vs, h1, _⟩ := h; rw [h1] at e; cases e; exact fun z => z
  | dit xs => obtain ⟨vs, h1, _⟩ := h; rw [h1] at e; cases e; exact fun z => z
  | ins C fs => obtain ⟨dx, vs, h1, _⟩ := h; rw [h1] at e; cases e; exact fun z => z
  | fdi xs => cases hop
theorem OR.some {Z : Zt} {ρ : List Addr} {H : Hp} {a : Addr} {o : MO} (h : OR Z ρ H a o) : ∃ u, H a = some u := by
  cases o with
  | lst xs => obtain ⟨vs, h1, _⟩ := h; exact ⟨_, h1⟩
  | dic xs => obtain ⟨vs, h1, _⟩ := h; exact ⟨_, h1⟩
  | dit xs => obtain ⟨vs, h1, _⟩ := h; exact ⟨_, h1⟩
  | ins C fs => obtain ⟨dx, vs, h1, _⟩ := h; exact ⟨_, h1⟩
  | fdi xs => obtain ⟨dx, vs, h1, _⟩ := h; exact ⟨_, h1⟩
section
variable {Z : Zt} {ρ : List Addr} {h : MH} {H : Hp}
theorem upd_none {p a : Addr} {u : HO} (e : upd H p u a = none) : H a = none := by
  by_cases q : a = p
  · subst q; rw [upd_same] at e; cases e
  · rw [upd_ne q] at e; exact e
theorem Ext.still1 {p : Addr} {u : HO} (hp : H p = none) : Ext ρ H ρ (upd H p u) :=
  ⟨⟨[], by simp⟩, fun a o e _ => by rw [upd_ne (ne_of_none e hp)]; exact e, fun a e => upd_none e⟩
theorem HR.still1 (R : HR Z ρ h H) {p : Addr} {u : HO} (hp : H p = none) : HR Z ρ h (upd H p u) := by
  refine ⟨R.nodup, R.len, fun i o e => ?_, R.has⟩
  obtain ⟨a, h1, h2⟩ := R.all i o e
  obtain ⟨u', h3⟩ := h2.some
  exact ⟨a, h1, h2.ext (Ext.still1 hp) (upd_ne (ne_of_none h3 hp))⟩
theorem Ext.push {p : Addr} {u : HO} (hp : H p = none) : Ext ρ H (ρ ++ [p]) (upd H p u) :=
  ⟨⟨[p], rfl, fun a ha => by rw [List.mem_singleton.mp ha]; exact hp⟩, fun a o e _ => by rw [upd_ne (ne_of_none e hp)]; exact e, fun a e => upd_none e⟩
theorem HR.push (R : HR Z ρ h H) {p : Addr} {u : HO} {o : MO} (hp : H p = none) (ho : OR Z (ρ ++ [p]) (upd H p u) p o) : HR Z (ρ ++ [p]) (h.push o) (upd H p u) := by
  refine ⟨?_, ?_, fun i o' e => ?_, fun i hi => ?_⟩
  · refine List.nodup_append.mpr ⟨R.nodup, by simp, fun a ha b hb => ?_⟩
    obtain ⟨i, hi, rfl⟩ := List.getElem_of_mem ha
    obtain rfl : b = p := by simpa using hb
    obtain ⟨o', e⟩ := Option.isSome_iff_exists.mp (R.has i (by rw [← R.len]; exact hi))
    obtain ⟨a', h1, h2⟩ := R.all i o' e
    obtain ⟨u', h3⟩ := h2.some
    rw [List.getElem?_eq_getElem hi] at h1
    cases h1
    exact ne_of_none h3 hp
  · show (ρ ++ [p]).length = h.n + 1
    rw [List.length_append, R.len]; rfl
  · rw [MH.get_push] at e
    by_cases hi : i = h.n
    · rw [if_pos hi] at e
      cases e
      subst hi
      exact ⟨p, by rw [← R.len]; simp, ho⟩
    · rw [if_neg hi] at e
      obtain ⟨a, h1, h2⟩ := R.all i o' e
      obtain ⟨u', h3⟩ := h2.some
      exact ⟨a, (Ext.push (u := u) hp).at h1, h2.ext (Ext.push hp) (upd_ne (ne_of_none h3 hp))⟩
  · rw [MH.get_push]
    by_cases e : i = h.n
    · rw [if_pos e]; rfl
    · rw [if_neg e]; exact R.has i (by have : i < h.n + 1 := hi; omega)
theorem Ext.set {a : Addr} {u : HO} (ha : a ∈ ρ) (hn : ∀ o, H a = some o → ¬ Still o) : Ext ρ H ρ (upd H a u) :=
  ⟨⟨[], by simp⟩, fun b o e s => by
    by_cases hb : b = a
    · subst hb
      rcases s with s | s
      · exact absurd s (hn o e)
      · exact absurd ha s
    · rw [upd_ne hb]; exact e, fun a e => upd_none e⟩
theorem HR.set (R : HR Z ρ h H) {i : Nat} {a : Addr} {u : HO} {o o' : MO} (ho : h.get i = some o) (ha : ρ[i]? = some a) (hu : OR Z ρ (upd H a u) a o') (hop : o.opn = true := by rfl) : HR Z ρ (h.set i o') (upd H a u) := by
  have hi := MH.get_lt ho
  have hn : ∀ o, H a = some o → ¬ Still o := fun u' e => by
    obtain ⟨a', h1, h2⟩ := R.all i o ho
    rw [ha] at h1; cases h1
    exact h2.notStill e hop
  refine ⟨R.nodup, R.len, fun j q e => ?_, fun j hj => ?_⟩
  · rw [MH.get_set hi] at e
    by_cases hj : j = i
    · rw [if_pos hj] at e
      cases e
      subst hj
      exact ⟨a, ha, hu⟩
    · rw [if_neg hj] at e
      obtain ⟨b, h1, h2⟩ := R.all j q e
      refine ⟨b, h1, h2.ext (Ext.set (List.mem_of_getElem? ha) hn) (upd_ne fun z => hj ?_)⟩
      subst z
      have l1 := (List.getElem?_eq_some_iff.mp h1)
      have l2 := (List.getElem?_eq_some_iff.mp ha)
      obtain ⟨q1, q2⟩ := l1
      obtain ⟨q3, q4⟩ := l2
      exact (List.getElem?_inj q1 R.nodup).mp (h1.trans ha.symm)
  · rw [MH.get_set hi]
    by_cases e : j = i
    · rw [if_pos e]; rfl
    · rw [if_neg e]; exact R.has j hj
end
end MI
set_option Elab.async false
set_option linter.all false
set_option maxRecDepth 100000
set_option maxHeartbeats 4000000
namespace MI
open PySem PySem.Spec PyProof.Rows L2 JB
inductive MX where
  | own (C : Nat) (ks : List Nat) (xs : List MV) | typ (s : String)
inductive Out (α : Type) where
  | bad | ok (a : α) (h : MH) | er (x : MX) (h : MH)
namespace Out
def bind {α β : Type} (o : Out α) (k : α → MH → Out β) : Out β := match o with
  | bad => bad
  | ok a h => k a h
  | er x h => er x h
end Out
abbrev ML := List (Option MV)
abbrev ME := ML → MH → Out MV
abbrev MA := ML → MH → Out (List MV)
abbrev MT := ML → MH → Out Bool
def XR (Z : Zt) (ρ : List Addr) (H : Hp) (E : XK) : MX → Prop
  | .own C ks xs => ∀ d vs, XdH H d ks vs → RVs Z ρ H xs vs → E (.ref (Z.adr C)) d H
  | .typ s => E (.type s) none H
abbrev Rl (α β : Type) := List Addr → Hp → α → β → Prop
def Post {α β : Type} (Z : Zt) (R : Rl α β) (ρ : List Addr) (H : Hp) (Q : β → Hp → Prop) (E : XK) : Out α → Prop
  | .bad => False
  | .ok a h' => ∀ ρ' H' b, Ext ρ H ρ' H' → HR Z ρ' h' H' → R ρ' H' a b → Q b H'
  | .er x h' => ∀ ρ' H', Ext ρ H ρ' H' → HR Z ρ' h' H' → XR Z ρ' H' E x
abbrev rV (Z : Zt) : Rl MV V := fun ρ H x v => RV Z ρ H x v
abbrev rVs (Z : Zt) : Rl (List MV) (List V) := fun ρ H x v => RVs Z ρ H x v
abbrev rB : Rl Bool Bool := fun _ _ x v => x = v
section
variable {α β γ δ : Type} {Z : Zt} {ρ : List Addr} {h : MH} {H : Hp} {E : XK}
theorem Post.mono {R : Rl α β} {Q Q' : β → Hp → Prop} {o : Out α} (p : Post Z R ρ H Q E o) (k : ∀ b H', Q b H' → Q' b H') : Post Z R ρ H Q' E o := by
  cases o with
  | bad => exact p
  | ok a h' => exact fun ρ' H' b e r q => k _ _ (p ρ' H' b e r q)
  | er x h' => exact p
theorem Post.ext {R : Rl α β} {Q : β → Hp → Prop} {ρ1 : List Addr} {H1 : Hp} {o : Out α} (p : Post Z R ρ H Q E o) (e1 : Ext ρ H ρ1 H1) : Post Z R ρ1 H1 Q E o := by
  cases o with
  | bad => exact p
  | ok a h' => exact fun ρ' H' b e r q => p ρ' H' b (e1.trans e) r q
  | er x h' => exact fun ρ' H' e r => p ρ' H' (e1.trans e) r
theorem Post.bind {R : Rl α β} {R' : Rl γ δ} {Q : δ → Hp → Prop} {o : Out α} {k : α → MH → Out γ} (p : Post Z R' ρ H Q E (o.bind k)) :
    Post Z R ρ H (fun b H1 => ∃ ρ1 h1 a, Ext ρ H ρ1 H1 ∧ HR Z ρ1 h1 H1 ∧ R ρ1 H1 a b ∧ Post Z R' ρ1 H1 Q E (k a h1)) E o := by
  cases o with
  | bad => exact p
  | ok a h' => exact fun ρ1 H1 b e r q => ⟨ρ1, h', a, e, r, q, Post.ext (o := k a h') p e⟩
  | er x h' => exact p
theorem Post.ok {R : Rl α β} {Q : β → Hp → Prop} {a : α} {b : β} (p : Post Z R ρ H Q E (.ok a h)) (r : HR Z ρ h H) (q : R ρ H a b) : Q b H := p ρ H b .refl r q
end
structure SR (Z : Zt) (ρ : List Addr) (m : ML) (h : MH) (σ : L2.St) (H : Hp) : Prop where
  hr : HR Z ρ h H
  len : m.length = σ.length
  slot : ∀ (i : Nat) (x : MV), m[i]? = some (some x) → ∃ v, σ[i]? = some (some v) ∧ RV Z ρ H x v
theorem SR.to {Z : Zt} {ρ ρ' : List Addr} {m : ML} {h h' : MH} {σ : L2.St} {H H' : Hp} (s : SR Z ρ m h σ H) (e : Ext ρ H ρ' H') (r : HR Z ρ' h' H') : SR Z ρ' m h' σ H' :=
  ⟨r, s.len, fun i x k => by obtain ⟨v, h1, h2⟩ := s.slot i x k; exact ⟨v, h1, h2.ext e⟩⟩
theorem SR.set {Z : Zt} {ρ : List Addr} {m : ML} {h : MH} {σ : L2.St} {H : Hp} {x : MV} {v : V} (s : SR Z ρ m h σ H) (i : Nat) (r : RV Z ρ H x v) : SR Z ρ (m.set i (some x)) h (σ.set i (some v)) H := by
  refine ⟨s.hr, by simp [s.len], fun j y k => ?_⟩
  by_cases e : j = i
  · subst e
    rw [List.getElem?_set] at k
    rw [if_pos rfl] at k
    split at k
    · rename_i hl
      cases k
      exact ⟨v, by rw [List.getElem?_set, if_pos rfl, if_pos (by rw [← s.len]; exact hl)], r⟩
    · cases k
  · rw [List.getElem?_set_ne (Ne.symm e)] at k ⊢
    exact s.slot j y k
def tE (Z : Zt) (E : XK) (g : ME) : TE := fun σ H Q => ∃ ρ m h, SR Z ρ m h σ H ∧ Post Z (rV Z) ρ H Q E (g m h)
def tA (Z : Zt) (E : XK) (g : MA) : TA := fun σ H Q => ∃ ρ m h, SR Z ρ m h σ H ∧ Post Z (rVs Z) ρ H Q E (g m h)
def tT (Z : Zt) (E : XK) (g : MT) : TT := fun σ H Q => ∃ ρ m h, SR Z ρ m h σ H ∧ Post Z rB ρ H Q E (g m h)
abbrev JE (X : Cx) (T : Nat → Addr) (E : XK) (e : Expr) (g : ME) : Prop := PE X e (tE ⟨X.K, T⟩ E g)
abbrev JA (X : Cx) (T : Nat → Addr) (E : XK) (e : List Expr) (g : MA) : Prop := PA X e (tA ⟨X.K, T⟩ E g)
abbrev JT (X : Cx) (T : Nat → Addr) (E : XK) (e : Expr) (g : MT) : Prop := PT X e (tT ⟨X.K, T⟩ E g)
abbrev JW (X : Cx) (T : Nat → Addr) (E : XK) (e : Expr) (g : MT) : Prop := PW X e (tT ⟨X.K, T⟩ E g)
section
variable {X : Cx} {E : XK} {e a b c : Expr} {es : List Expr} {pos : Pos}
theorem PE.le {t t' : TE} (p : PE X e t) (k : ∀ σ H Q, t' σ H Q → t σ H Q) : PE X e t' := ⟨fun pins s σ H Q I h => p.run pins s σ H Q I (k σ H Q h)⟩
theorem PA.le {t t' : TA} (p : PA X es t) (k : ∀ σ H Q, t' σ H Q → t σ H Q) : PA X es t' := ⟨fun po pins s σ H Q I h => p.run po pins s σ H Q I (k σ H Q h)⟩
theorem PT.le {t t' : TT} (p : PT X e t) (k : ∀ σ H Q, t' σ H Q → t σ H Q) : PT X e t' := ⟨fun pins s σ H Q I h => p.run pins s σ H Q I (k σ H Q h)⟩
theorem PW.le {t t' : TT} (p : PW X e t) (k : ∀ σ H Q, t' σ H Q → t σ H Q) : PW X e t' := ⟨fun w pins s σ H Q I h => p.run w pins s σ H Q I (k σ H Q h)⟩
end
section
variable {γ δ : Type} {Z : Zt} {E : XK} {ρ : List Addr} {m : ML} {h : MH} {σ : L2.St} {H : Hp}
theorem stepE {R' : Rl γ δ} {Q : δ → Hp → Prop} {Q' : V → Hp → Prop} {g : ME} {k : MV → MH → Out γ} (s : SR Z ρ m h σ H) (p : Post Z R' ρ H Q E ((g m h).bind k))
    (n : ∀ ρ1 h1 H1 a v, SR Z ρ1 m h1 σ H1 → Ext ρ H ρ1 H1 → RV Z ρ1 H1 a v → Post Z R' ρ1 H1 Q E (k a h1) → Q' v H1) : tE Z E g σ H Q' :=
  ⟨ρ, m, h, s, p.bind.mono fun b H' ⟨ρ1, h1, a, e, r, q, z⟩ => n ρ1 h1 H' a b (s.to e r) e q z⟩
theorem stepA {R' : Rl γ δ} {Q : δ → Hp → Prop} {Q' : List V → Hp → Prop} {g : MA} {k : List MV → MH → Out γ} (s : SR Z ρ m h σ H) (p : Post Z R' ρ H Q E ((g m h).bind k))
    (n : ∀ ρ1 h1 H1 a v, SR Z ρ1 m h1 σ H1 → Ext ρ H ρ1 H1 → RVs Z ρ1 H1 a v → Post Z R' ρ1 H1 Q E (k a h1) → Q' v H1) : tA Z E g σ H Q' :=
  ⟨ρ, m, h, s, p.bind.mono fun b H' ⟨ρ1, h1, a, e, r, q, z⟩ => n ρ1 h1 H' a b (s.to e r) e q z⟩
theorem stepT {R' : Rl γ δ} {Q : δ → Hp → Prop} {Q' : Bool → Hp → Prop} {g : MT} {k : Bool → MH → Out γ} (s : SR Z ρ m h σ H) (p : Post Z R' ρ H Q E ((g m h).bind k))
    (n : ∀ ρ1 h1 H1 a, SR Z ρ1 m h1 σ H1 → Ext ρ H ρ1 H1 → Post Z R' ρ1 H1 Q E (k a h1) → Q' a H1) : tT Z E g σ H Q' :=
  ⟨ρ, m, h, s, p.bind.mono fun b H' ⟨ρ1, h1, a, e, r, q, z⟩ => by have q' : a = b := q; rw [← q']; exact n ρ1 h1 H' a (s.to e r) e z⟩
theorem endE {Q : VK} {g : ME} (s : SR Z ρ m h σ H) (p : Post Z (rV Z) ρ H Q E (g m h)) : tE Z E g σ H Q := ⟨ρ, m, h, s, p⟩
end
def gVar (i : Nat) : ME := fun m h => match m[i]? with
  | some (some v) => .ok v h
  | _ => .bad
def gC (v : MV) : ME := fun _ h => .ok v h
def gBin (f : MV → MV → MH → Out MV) (a b : ME) : ME := fun m h => (a m h).bind fun x h1 => (b m h1).bind fun y h2 => f x y h2
def gUn (f : MV → MH → Out MV) (a : ME) : ME := fun m h => (a m h).bind fun x h1 => f x h1
def gNil : MA := fun _ h => .ok [] h
def gCons (a : ME) (r : MA) : MA := fun m h => (a m h).bind fun x h1 => (r m h1).bind fun xs h2 => .ok (x :: xs) h2
def gTup (r : MA) : ME := fun m h => (r m h).bind fun xs h1 => if xs.length ≤ 1000000 then .ok (.tup xs) h1 else .bad
def gLst (r : MA) : ME := fun m h => (r m h).bind fun xs h1 => if xs.length ≤ 1000000 then .ok (.ref h1.n) (h1.push (.lst xs)) else .bad
def gIf (c : MT) (a b : ME) : ME := fun m h => (c m h).bind fun d h1 => if d = true then a m h1 else b m h1
def gB (a : ME) : MT := fun m h => (a m h).bind fun x h1 => match x with
  | .bl b => .ok b h1
  | _ => .bad
def gAnd (a b : MT) : MT := fun m h => (a m h).bind fun c h1 => if c = true then b m h1 else .ok false h1
def gOr (a b : MT) : MT := fun m h => (a m h).bind fun c h1 => if c = true then .ok true h1 else b m h1
def gNot (a : MT) : MT := fun m h => (a m h).bind fun c h1 => .ok (!c) h1
section
variable {X : Cx} {T : Nat → Addr} {E : XK} {e a b c : Expr} {es rest : List Expr} {pos : Pos} {ga gb : ME} {gr : MA} {gt gu : MT}
theorem je_var {i : Nat} {x : Str} (p : PE X (.Name x pos) (tVar i)) : JE X T E (.Name x pos) (gVar i) := by
  refine PE.le p fun σ H Q ⟨ρ, m, h, s, q⟩ => ?_
  unfold gVar at q
  cases k : m[i]? with
  | none => rw [k] at q; exact q.elim
  | some o =>
    cases o with
    | none => rw [k] at q; exact q.elim
    | some v =>
      rw [k] at q
      obtain ⟨w, h1, h2⟩ := s.slot i v k
      exact ⟨w, h1, q.ok s.hr h2⟩
theorem je_c {v : MV} {w : V} (p : PE X e (tC w)) (r : ∀ ρ H, RV ⟨X.K, T⟩ ρ H v w) : JE X T E e (gC v) :=
  PE.le p fun σ H Q ⟨ρ, m, h, s, q⟩ => q.ok s.hr (r ρ H)
theorem je_int {i j} : JE X T E (.Constant (.int i) j pos) (gC (.int i)) := je_c pe_int fun _ _ => .int _
theorem je_bl {i j} : JE X T E (.Constant (.bool i) j pos) (gC (.bl i)) := je_c pe_bl fun _ _ => .bl _
theorem je_str {i j} {l : List Nat} (h : i = ⟨l.toArray⟩ := by rfl) : JE X T E (.Constant (.str i) j pos) (gC (.str l)) := je_c pe_str fun _ _ => by rw [h]; exact .str _
theorem je_non {j} : JE X T E (.Constant .none j pos) (gC .non) := je_c pe_non fun _ _ => .non
theorem ja_nil : JA X T E [] gNil := PA.le pa_nil fun σ H Q ⟨ρ, m, h, s, q⟩ => q.ok s.hr .nil
theorem ja_cons (ha : JE X T E e ga) (hr : JA X T E es gr) (hs : starEach (e :: es) X.env = (false, eval e X.env) :: starEach es X.env := by rfl) : JA X T E (e :: es) (gCons ga gr) :=
  PA.le (pa_cons ha hr hs) fun σ H Q ⟨ρ, m, h, s, q⟩ => stepE s q fun ρ1 h1 H1 x v s1 e1 r1 q1 => stepA s1 q1 fun ρ2 h2 H2 xs vs s2 e2 r2 q2 => q2.ok s2.hr (.cons (r1.ext e2) r2)
def OpM (Z : Zt) (E : XK) (f : MV → MV → MH → Out MV) (r : R2) : Prop :=
  ∀ ρ h H x y v w Q, HR Z ρ h H → RV Z ρ H x v → RV Z ρ H y w → Post Z (rV Z) ρ H Q E (f x y h) → r v w H Q
theorem le_op {f : MV → MV → MH → Out MV} {r : R2} (o : OpM ⟨X.K, T⟩ E f r) : ∀ σ H Q, tE ⟨X.K, T⟩ E (gBin f ga gb) σ H Q → tOp r (tE ⟨X.K, T⟩ E ga) (tE ⟨X.K, T⟩ E gb) σ H Q :=
  fun σ H Q ⟨ρ, m, h, s, q⟩ => stepE s q fun ρ1 h1 H1 x v s1 e1 r1 q1 => stepE s1 q1 fun ρ2 h2 H2 y w s2 e2 r2 q2 => o ρ2 h2 H2 x y v w Q s2.hr (r1.ext e2) r2 q2
theorem je_op {op : Operator} {f : MV → MV → MH → Out MV} {r : R2} (ho : OpR X (binaryOp op) r) (o : OpM ⟨X.K, T⟩ E f r) (ha : JE X T E a ga) (hb : JE X T E b gb) : JE X T E (.BinOp a op b pos) (gBin f ga gb) :=
  PE.le (pe_op ho ha hb) (le_op o)
theorem je_cmp {op : CmpOp} {f : MV → MV → MH → Out MV} {r : R2} (ho : OpR X (compareOp op) r) (o : OpM ⟨X.K, T⟩ E f r) (ha : JE X T E a ga) (hb : JE X T E b gb) (hm : behindInMarks op b = false) : JE X T E (.Compare a [op] [b] pos) (gBin f ga gb) :=
  PE.le (pe_cmpR ho ha hb hm) (le_op o)
theorem jt_cmp {op : CmpOp} {f : MV → MV → MH → Out MV} {r : R2} (ho : OpR X (compareOp op) r) (o : OpM ⟨X.K, T⟩ E f r) (ha : JE X T E a ga) (hb : JE X T E b gb) (hm : behindInMarks op b = false) : JT X T E (.Compare a [op] [b] pos) (gB (gBin f ga gb)) := by
  refine PT.le (pt_cmpR ho ha hb hm) fun σ H Q ⟨ρ, m, h, s, q⟩ => ?_
  have : tE ⟨X.K, T⟩ E (gBin f ga gb) σ H fun x H1 => ∃ c, x = .bl c ∧ Q c H1 := stepE s q fun ρ1 h1 H1 x v s1 e1 r1 q1 => by
    cases r1 with
    | bl b => exact ⟨b, rfl, q1.ok s1.hr rfl⟩
    | _ => exact q1.elim
  exact le_op o σ H _ this
theorem RVs.length {Z : Zt} {ρ : List Addr} {H : Hp} {xs : List MV} {vs : List V} : RVs Z ρ H xs vs → xs.length = vs.length
  | .nil => rfl
  | .cons _ r => by simp [RVs.length r]
theorem je_tup {x1} (h : JA X T E es gr) : JE X T E (.Tuple es x1 pos) (gTup gr) :=
  PE.le (pe_tup h) fun σ H Q ⟨ρ, m, h, s, q⟩ => stepA s q fun ρ1 h1 H1 xs vs s1 e1 r1 q1 => by
    by_cases z : xs.length ≤ 1000000
    · rw [if_pos z] at q1
      refine ⟨by rw [← r1.length, sizeLine_eq]; omega, fun p hp => ?_⟩
      exact q1 ρ1 _ _ (Ext.still1 hp) (s1.hr.still1 hp) (.tup upd_same (r1.ext (Ext.still1 hp)))
    · rw [if_neg z] at q1
      exact q1.elim
theorem je_lst (h : JA X T E es gr) : JE X T E (.List es pos) (gLst gr) :=
  PE.le (pe_lst h) fun σ H Q ⟨ρ, m, h, s, q⟩ => stepA s q fun ρ1 h1 H1 xs vs s1 e1 r1 q1 => by
    by_cases z : xs.length ≤ 1000000
    · rw [if_pos z] at q1
      refine ⟨by rw [← r1.length, sizeLine_eq]; omega, fun p hp => ?_⟩
      refine q1 (ρ1 ++ [p]) _ _ (Ext.push hp) (s1.hr.push hp ⟨vs, upd_same, r1.ext (Ext.push hp)⟩) (.ref ?_)
      rw [← s1.hr.len]; simp
    · rw [if_neg z] at q1
      exact q1.elim
theorem je_if {c : Expr} (hc : JT X T E c gt) (ha : JE X T E a ga) (hb : JE X T E b gb) : JE X T E (.IfExp c a b pos) (gIf gt ga gb) :=
  PE.le (pe_ifExp hc ha hb) fun σ H Q ⟨ρ, m, h, s, q⟩ => stepT s q fun ρ1 h1 H1 d s1 e1 q1 => by
    cases d with
    | true => exact endE s1 q1
    | false => exact endE s1 q1
theorem jw_and1 (ha : JT X T E a gt) : JW X T E (.BoolOp .And [a] pos) gt := pw_and1 ha
theorem jw_or1 (ha : JT X T E a gt) : JW X T E (.BoolOp .Or [a] pos) gt := pw_or1 ha
theorem endT {Z : Zt} {ρ : List Addr} {m : ML} {h : MH} {σ : L2.St} {H : Hp} {Q : Bool → Hp → Prop} {g : MT} (s : SR Z ρ m h σ H) (p : Post Z rB ρ H Q E (g m h)) : tT Z E g σ H Q := ⟨ρ, m, h, s, p⟩
theorem jw_and (ha : JT X T E a gt) (hb : JW X T E (.BoolOp .And (b :: rest) pos) gu) : JW X T E (.BoolOp .And (a :: b :: rest) pos) (gAnd gt gu) :=
  PW.le (pw_and ha hb) fun σ H Q ⟨ρ, m, h, s, q⟩ => stepT s q fun ρ1 h1 H1 d s1 e1 q1 => by
    cases d with
    | true => exact endT s1 q1
    | false => exact q1.ok s1.hr rfl
theorem jw_or (ha : JT X T E a gt) (hb : JW X T E (.BoolOp .Or (b :: rest) pos) gu) : JW X T E (.BoolOp .Or (a :: b :: rest) pos) (gOr gt gu) :=
  PW.le (pw_or ha hb) fun σ H Q ⟨ρ, m, h, s, q⟩ => stepT s q fun ρ1 h1 H1 d s1 e1 q1 => by
    cases d with
    | true => exact q1.ok s1.hr rfl
    | false => exact endT s1 q1
theorem jt_not (ha : JT X T E a gt) : JT X T E (.UnaryOp .Not a pos) (gNot gt) :=
  PT.le (pt_not ha) fun σ H Q ⟨ρ, m, h, s, q⟩ => stepT s q fun ρ1 h1 H1 d s1 e1 q1 => q1.ok s1.hr rfl
theorem je_one {op} (ha : JE X T E a ga) : JE X T E (.BoolOp op [a] pos) ga := pe_one ha
end
end MI
set_option Elab.async false
set_option linter.all false
set_option maxRecDepth 100000
set_option maxHeartbeats 4000000
namespace MI
open PySem PySem.Spec PyProof.Rows L2 JB
inductive SO where
  | bad | nx (m : ML) (h : MH) | rt (v : MV) (h : MH) | bk (m : ML) (h : MH) | ct (m : ML) (h : MH) | er (x : MX) (h : MH)
def Out.bindS {α : Type} (o : Out α) (k : α → MH → SO) : SO := match o with
  | .bad => .bad
  | .ok a h => k a h
  | .er x h => .er x h
def SO.next (o : SO) (k : ML → MH → SO) : SO := match o with
  | .nx m h => k m h
  | o => o
abbrev MS := ML → MH → SO
def SO.only : SO → SO
  | .nx m h => .nx m h
  | .er x h => .er x h
  | _ => .bad
abbrev MG := MV → ML → MH → SO
def PostS (Z : Zt) (ρ : List Addr) (H : Hp) (D : Ends) (E : XK) : SO → Prop
  | .bad => False
  | .nx m' h' => ∀ ρ' H' σ', Ext ρ H ρ' H' → SR Z ρ' m' h' σ' H' → D.nx σ' H'
  | .rt x h' => ∀ ρ' H' v, Ext ρ H ρ' H' → HR Z ρ' h' H' → RV Z ρ' H' x v → D.rt v H'
  | .bk m' h' => ∀ ρ' H' σ', Ext ρ H ρ' H' → SR Z ρ' m' h' σ' H' → D.bk σ' H'
  | .ct m' h' => ∀ ρ' H' σ', Ext ρ H ρ' H' → SR Z ρ' m' h' σ' H' → D.ct σ' H'
  | .er x h' => ∀ ρ' H', Ext ρ H ρ' H' → HR Z ρ' h' H' → XR Z ρ' H' E x
def tS (Z : Zt) (E : XK) (g : MS) : TS := fun D σ H => ∃ ρ m h, SR Z ρ m h σ H ∧ PostS Z ρ H D E (g m h)
def tG (Z : Zt) (E : XK) (g : MG) : TG := fun v σ H Q => ∃ ρ m h x, SR Z ρ m h σ H ∧ RV Z ρ H x v ∧ PostS Z ρ H { nx := Q, rt := fun _ _ => False } E (g x m h)
abbrev JS (X : Cx) (T : Nat → Addr) (E : XK) (st : Stmt) (g : MS) : Prop := PS X st (tS ⟨X.K, T⟩ E g)
abbrev JSs (X : Cx) (T : Nat → Addr) (E : XK) (st : List Stmt) (g : MS) : Prop := PSs X st (tS ⟨X.K, T⟩ E g)
abbrev JG (X : Cx) (T : Nat → Addr) (E : XK) (e : Expr) (g : MG) : Prop := PG X e (tG ⟨X.K, T⟩ E g)
section
variable {Z : Zt} {E : XK} {ρ : List Addr} {m : ML} {h : MH} {σ : L2.St} {H : Hp} {D : Ends}
theorem PostS.ext {ρ1 : List Addr} {H1 : Hp} {o : SO} (p : PostS Z ρ H D E o) (e1 : Ext ρ H ρ1 H1) : PostS Z ρ1 H1 D E o := by
  cases o with
  | bad => exact p
  | nx m' h' => exact fun ρ' H' b e r => p ρ' H' b (e1.trans e) r
  | bk m' h' => exact fun ρ' H' b e r => p ρ' H' b (e1.trans e) r
  | ct m' h' => exact fun ρ' H' b e r => p ρ' H' b (e1.trans e) r
  | rt v h' => exact fun ρ' H' b e r q => p ρ' H' b (e1.trans e) r q
  | er x h' => exact fun ρ' H' e r => p ρ' H' (e1.trans e) r
theorem PostS.bind {α β : Type} {R : Rl α β} {o : Out α} {k : α → MH → SO} (p : PostS Z ρ H D E (o.bindS k)) :
    Post Z R ρ H (fun b H1 => ∃ ρ1 h1 a, Ext ρ H ρ1 H1 ∧ HR Z ρ1 h1 H1 ∧ R ρ1 H1 a b ∧ PostS Z ρ1 H1 D E (k a h1)) E o := by
  cases o with
  | bad => exact p
  | ok a h' => exact fun ρ1 H1 b e r q => ⟨ρ1, h', a, e, r, q, PostS.ext (o := k a h') p e⟩
  | er x h' => exact p
theorem sE {Q' : V → Hp → Prop} {g : ME} {k : MV → MH → SO} (s : SR Z ρ m h σ H) (p : PostS Z ρ H D E ((g m h).bindS k))
    (n : ∀ ρ1 h1 H1 a v, SR Z ρ1 m h1 σ H1 → Ext ρ H ρ1 H1 → RV Z ρ1 H1 a v → PostS Z ρ1 H1 D E (k a h1) → Q' v H1) : tE Z E g σ H Q' :=
  ⟨ρ, m, h, s, p.bind.mono fun b H' ⟨ρ1, h1, a, e, r, q, z⟩ => n ρ1 h1 H' a b (s.to e r) e q z⟩
theorem sT {Q' : Bool → Hp → Prop} {g : MT} {k : Bool → MH → SO} (s : SR Z ρ m h σ H) (p : PostS Z ρ H D E ((g m h).bindS k))
    (n : ∀ ρ1 h1 H1 a, SR Z ρ1 m h1 σ H1 → Ext ρ H ρ1 H1 → PostS Z ρ1 H1 D E (k a h1) → Q' a H1) : tT Z E g σ H Q' :=
  ⟨ρ, m, h, s, (PostS.bind (R := rB) p).mono fun b H' ⟨ρ1, h1, a, e, r, q, z⟩ => by have q' : a = b := q; rw [← q']; exact n ρ1 h1 H' a (s.to e r) e z⟩
theorem PostS.only {o : SO} (p : PostS Z ρ H D E o.only) : PostS Z ρ H { nx := D.nx, rt := fun _ _ => False } E o := by
  cases o with
  | nx m' h' => exact p
  | er x h' => exact p
  | bad => exact p.elim
  | rt v h' => exact p.elim
  | bk m' h' => exact p.elim
  | ct m' h' => exact p.elim
theorem PostS.next {o : SO} {k : ML → MH → SO} (p : PostS Z ρ H D E (o.next k)) : PostS Z ρ H { D with nx := fun σ1 H1 => ∃ ρ1 m1 h1, SR Z ρ1 m1 h1 σ1 H1 ∧ PostS Z ρ1 H1 D E (k m1 h1) } E o := by
  cases o with
  | nx m' h' => exact fun ρ' H' σ' e s => ⟨ρ', m', h', s, PostS.ext (o := k m' h') p e⟩
  | bad => exact p
  | rt v h' => exact p
  | bk m' h' => exact p
  | ct m' h' => exact p
  | er x h' => exact p
end
def gNext : MS := fun m h => .nx m h
def gSeq (a b : MS) : MS := fun m h => (a m h).next b
def gExpr (a : ME) : MS := fun m h => (a m h).bindS fun _ h1 => .nx m h1
def gRet (a : ME) : MS := fun m h => (a m h).bindS fun x h1 => .rt x h1
def gRetN : MS := fun _ h => .rt .non h
def gIfS (c : MT) (a b : MS) : MS := fun m h => (c m h).bindS fun d h1 => if d = true then a m h1 else b m h1
def gAsg (a : ME) (t : MG) : MS := fun m h => (a m h).bindS fun x h1 => (t x m h1).only
def tgName (i : Nat) : MG := fun x m h => .nx (m.set i (some x)) h
def gWhile (c : MT) (b : MS) : Nat → MS
  | 0, _, _ => .bad
  | n + 1, m, h => (c m h).bindS fun d h1 => if d = true then match b m h1 with
      | .nx m2 h2 => gWhile c b n m2 h2
      | .ct m2 h2 => gWhile c b n m2 h2
      | .bk m2 h2 => .nx m2 h2
      | o => o
    else .nx m h1
structure It1 where
  size : MH → Nat
  at_ : Nat → MH → Option (Option MV)
abbrev MI1 := ML → MH → Out It1
def gForN (it : It1) (t : MG) (b : MS) : Nat → Nat → MS
  | 0, _, _, _ => .bad
  | n + 1, i, m, h => match it.at_ i h with
    | none => .bad
    | some none => .nx m h
    | some (some x) => match t x m h with
      | .nx m1 h1 => match b m1 h1 with
        | .nx m2 h2 => gForN it t b n (i + 1) m2 h2
        | .ct m2 h2 => gForN it t b n (i + 1) m2 h2
        | .bk m2 h2 => .nx m2 h2
        | o => o
      | .er x h => .er x h
      | _ => .bad
def gFor (i : MI1) (t : MG) (b : MS) : MS := fun m h => (i m h).bindS fun it h1 => gForN it t b (it.size h1 + 1) 0 m h1
def rI (Z : Zt) : Rl It1 It := fun ρ H it J => ∀ i ρ' h' H', Ext ρ H ρ' H' → HR Z ρ' h' H' → match it.at_ i h' with
  | none => True
  | some none => J.stop i H'
  | some (some x) => J.go i H' ∧ ∀ v H'', J.yld i H' v H'' → ∃ ρ'', Ext ρ' H' ρ'' H'' ∧ HR Z ρ'' h' H'' ∧ RV Z ρ'' H'' x v
def tI (Z : Zt) (E : XK) (g : MI1) : TI := fun σ H R => ∃ ρ m h, SR Z ρ m h σ H ∧ Post Z (rI Z) ρ H R E (g m h)
abbrev JI (X : Cx) (T : Nat → Addr) (E : XK) (tg iter : Expr) (g : MI1) : Prop := PI X tg iter (tI ⟨X.K, T⟩ E g)
section
variable {X : Cx} {T : Nat → Addr} {E : XK} {e a b c : Expr} {st : Stmt} {rest body : List Stmt} {pos : Pos} {ga gb : ME} {gt : MT} {gs gu : MS} {gg : MG}
theorem PS.le {t t' : TS} (p : PS X st t) (k : ∀ D σ H, t' D σ H → t D σ H) : PS X st t' := ⟨fun pins s σ H D I h => p.run pins s σ H D I (k D σ H h)⟩
theorem PSs.le {t t' : TS} (p : PSs X rest t) (k : ∀ D σ H, t' D σ H → t D σ H) : PSs X rest t' := ⟨fun pins s σ H D I h => p.run pins s σ H D I (k D σ H h)⟩
theorem PG.le {t t' : TG} (p : PG X e t) (k : ∀ v σ H Q, t' v σ H Q → t v σ H Q) : PG X e t' := ⟨fun pins s σ H v u Q I r h => p.run pins s σ H v u Q I r (k v σ H Q h)⟩
theorem PI.le {t t' : TI} {tg : Expr} (p : PI X tg e t) (k : ∀ σ H Q, t' σ H Q → t σ H Q) : PI X tg e t' := ⟨fun pins s σ H R I h => p.run pins s σ H R I (k σ H R h)⟩
theorem js_nil : JSs X T E [] gNext := PSs.le pss_nil fun D σ H ⟨ρ, m, h, s, q⟩ => q ρ H σ .refl s
theorem js_cons (h1 : JS X T E st gs) (h2 : JSs X T E rest gu) : JSs X T E (st :: rest) (gSeq gs gu) :=
  PSs.le (pss_cons h1 h2) fun D σ H ⟨ρ, m, h, s, q⟩ => ⟨ρ, m, h, s, q.next⟩
theorem js_one (h1 : JS X T E st gs) : JSs X T E [st] gs := pss_one h1
theorem js_expr (he : JE X T E e ga) (hs : swapsWith e none pos.line X.env = pure false := by rfl) : JS X T E (.Expr e pos) (gExpr ga) :=
  PS.le (ps_expr he hs) fun D σ H ⟨ρ, m, h, s, q⟩ => sE s q fun ρ1 h1 H1 x v s1 e1 r1 q1 => q1 ρ1 H1 σ .refl s1
theorem js_ret (he : JE X T E e ga) : JS X T E (.Return (some e) pos) (gRet ga) :=
  PS.le (ps_ret he) fun D σ H ⟨ρ, m, h, s, q⟩ => sE s q fun ρ1 h1 H1 x v s1 e1 r1 q1 => q1 ρ1 H1 v .refl s1.hr r1
theorem js_retN : JS X T E (.Return none pos) gRetN := PS.le ps_retN fun D σ H ⟨ρ, m, h, s, q⟩ => q ρ H .non .refl s.hr .non
theorem js_if {p q : List Stmt} (hc : JT X T E c gt) (ha : JSs X T E p gs) (hb : JSs X T E q gu) : JS X T E (.If c p q pos) (gIfS gt gs gu) :=
  PS.le (ps_if hc ha hb) fun D σ H ⟨ρ, m, h, s, q⟩ => sT s q fun ρ1 h1 H1 d s1 e1 q1 => by
    cases d with
    | true => exact ⟨ρ1, m, h1, s1, q1⟩
    | false => exact ⟨ρ1, m, h1, s1, q1⟩
theorem jg_name {i : Nat} {x : Str} (p : PG X (.Name x pos) (gName i)) : JG X T E (.Name x pos) (tgName i) :=
  PG.le p fun v σ H Q ⟨ρ, m, h, x, s, r, q⟩ => q ρ H _ .refl (s.set i r)
theorem js_asg {tg : Expr} (he : JE X T E e ga) (hg : JG X T E tg gg) (hs : swapsWithSole [tg] e pos.line X.env = pure false := by rfl) (hw : swappedStores [tg] e X.env = pure none := by rfl)
    (h1 : (assignEach [tg] X.env).map (·.2) = [assign tg X.env] := by rfl) : JS X T E (.Assign [tg] e pos) (gAsg ga gg) :=
  PS.le (ps_asg he hg hs hw h1) fun D σ H ⟨ρ, m, h, s, q⟩ => sE s q fun ρ1 h1 H1 x v s1 e1 r1 q1 => ⟨ρ1, m, h1, x, s1, r1, q1.only⟩
theorem js_set {i : Nat} {x : Str} {pos' : Pos} (hN : X.N.Nodup) (hi : X.N[i]? = some x) (hx : Loc X.env.scope x) (he : JE X T E e ga) (hs : swapsWith e (some (.Name x pos')) pos.line X.env = pure false := by rfl) (hf : X.fn x = true ∨ X.env.scope.names.lookup x = some .local := by first | exact .inl rfl | exact .inr rfl | assumption) :
    JS X T E (.Assign [.Name x pos'] e pos) (gAsg ga (tgName i)) :=
  PS.le (ps_set (i := i) hN hi hx he hs hf) fun D σ H ⟨ρ, m, h, s, q⟩ => sE s q fun ρ1 h1 H1 x v s1 e1 r1 q1 => q1 ρ1 H1 _ .refl (s1.set i r1)
theorem js_while {p : List Stmt} (N : Nat) (hp : PassesOwn (model X.prog X.w) X.A X.env X.xe) (hc : JT X T E c gt) (hb : JSs X T E p gs) : JS X T E (.While c p [] pos) (gWhile gt gs N) := by
  refine PS.le (ps_while hp hc hb) fun D σ H ⟨ρ, m, h, s, q⟩ => ?_
  refine ⟨fun n σ1 H1 => ∃ ρ1 m1 h1, SR ⟨X.K, T⟩ ρ1 m1 h1 σ1 H1 ∧ PostS ⟨X.K, T⟩ ρ1 H1 D E (gWhile gt gs n m1 h1), ⟨N, ρ, m, h, s, q⟩, fun n σ1 H1 ⟨ρ1, m1, h1, s1, q1⟩ => ?_⟩
  cases n with
  | zero => exact q1.elim
  | succ n =>
    refine sT (k := fun d h1 => if d = true then match gs m1 h1 with
      | .nx m2 h2 => gWhile gt gs n m2 h2
      | .ct m2 h2 => gWhile gt gs n m2 h2
      | .bk m2 h2 => .nx m2 h2
      | o => o
      else .nx m1 h1) s1 q1 fun ρ2 h2 H2 d s2 e2 q2 => ?_
    cases d with
    | false => exact q2 ρ2 H2 σ1 .refl s2
    | true =>
      refine ⟨fun σ3 H3 => ∃ ρ3 m3 h3, SR ⟨X.K, T⟩ ρ3 m3 h3 σ3 H3 ∧ PostS ⟨X.K, T⟩ ρ3 H3 D E (gWhile gt gs n m3 h3), fun σ3 H3 z => ⟨n, Nat.lt_succ_self _, z⟩, ρ2, m1, h2, s2, ?_⟩
      have q3 : PostS ⟨X.K, T⟩ ρ2 H2 D E (match gs m1 h2 with
        | .nx m2 h2 => gWhile gt gs n m2 h2
        | .ct m2 h2 => gWhile gt gs n m2 h2
        | .bk m2 h2 => .nx m2 h2
        | o => o) := q2
      generalize gs m1 h2 = o at q3 ⊢
      cases o with
      | bad => exact q3
      | nx m3 h3 => exact fun ρ' H' σ' e s => ⟨ρ', m3, h3, s, PostS.ext (o := gWhile gt gs n m3 h3) q3 e⟩
      | ct m3 h3 => exact fun ρ' H' σ' e s => ⟨ρ', m3, h3, s, PostS.ext (o := gWhile gt gs n m3 h3) q3 e⟩
      | bk m3 h3 => exact q3
      | rt v h3 => exact q3
      | er x h3 => exact q3
theorem js_for {tg iter : Expr} {p : List Stmt} {gi : MI1} (hp : PassesOwn (model X.prog X.w) X.A X.env X.xe) (hc : X.calm = true) (hi : JI X T E tg iter gi) (hg : JG X T E tg gg) (hb : JSs X T E p gs)
    (hs : ∀ x, foldedSetIterable iter X.env x = pure x := by intro _; rfl) : JS X T E (.For tg iter p [] pos) (gFor gi gg gs) := by
  refine PS.le (ps_for hp hc hi hg hb hs) fun D σ H ⟨ρ, m, h, s, q⟩ => ⟨ρ, m, h, s, ?_⟩
  refine (PostS.bind (R := rI ⟨X.K, T⟩) q).mono fun J H1 ⟨ρ1, h1, it, e1, r1, w1, q1⟩ => ?_
  have s1 := s.to e1 r1
  refine ⟨fun i n σ2 H2 => ∃ ρ2 m2 h2, Ext ρ1 H1 ρ2 H2 ∧ SR ⟨X.K, T⟩ ρ2 m2 h2 σ2 H2 ∧ PostS ⟨X.K, T⟩ ρ2 H2 D E (gForN it gg gs n i m2 h2), ⟨_, ρ1, m, h1, .refl, s1, q1⟩, fun i n σ2 H2 ⟨ρ2, m2, h2, e2, s2, q2⟩ => ?_⟩
  cases n with
  | zero => exact q2.elim
  | succ n =>
    have w2 := w1 i ρ2 h2 H2 e2 s2.hr
    unfold gForN at q2
    cases k : it.at_ i h2 with
    | none => rw [k] at q2; exact q2.elim
    | some o =>
      rw [k] at q2 w2
      cases o with
      | none => exact .inl ⟨w2, q2 ρ2 H2 σ2 .refl s2⟩
      | some x =>
        refine .inr ⟨w2.1, fun σ3 H3 => ∃ ρ3 m3 h3, Ext ρ1 H1 ρ3 H3 ∧ SR ⟨X.K, T⟩ ρ3 m3 h3 σ3 H3 ∧ PostS ⟨X.K, T⟩ ρ3 H3 D E (gForN it gg gs n (i + 1) m3 h3), fun σ3 H3 z => ⟨n, Nat.lt_succ_self _, z⟩, fun v H3 y => ?_⟩
        obtain ⟨ρ3, e3, r3, rv3⟩ := w2.2 v H3 y
        have q3 : PostS ⟨X.K, T⟩ ρ2 H2 D E (match gg x m2 h2 with
          | .nx m1 h1 => match gs m1 h1 with
            | .nx m2 h2 => gForN it gg gs n (i + 1) m2 h2
            | .ct m2 h2 => gForN it gg gs n (i + 1) m2 h2
            | .bk m2 h2 => .nx m2 h2
            | o => o
          | .er x h => .er x h
          | _ => .bad) := q2
        refine ⟨ρ3, m2, h2, x, s2.to e3 r3, rv3, ?_⟩
        generalize gg x m2 h2 = o at q3 ⊢
        cases o with
        | bad => exact q3
        | rt _ _ => exact q3.elim
        | bk _ _ => exact q3.elim
        | ct _ _ => exact q3.elim
        | er y h4 => exact q3.ext (o := SO.er y h4) e3
        | nx m4 h4 =>
          intro ρ5 H5 σ5 e5 s5
          refine ⟨ρ5, m4, h4, s5, ?_⟩
          have q4 : PostS ⟨X.K, T⟩ ρ2 H2 D E (match gs m4 h4 with
            | .nx m2 h2 => gForN it gg gs n (i + 1) m2 h2
            | .ct m2 h2 => gForN it gg gs n (i + 1) m2 h2
            | .bk m2 h2 => .nx m2 h2
            | o => o) := q3
          have e35 := e3.trans e5
          have q5 := PostS.ext q4 e35
          have e15 := (e2.trans e3).trans e5
          clear q4 q3
          generalize gs m4 h4 = o at q5 ⊢
          cases o with
          | bad => exact q5
          | nx m3 h3 => exact fun ρ' H' σ' e s => ⟨ρ', m3, h3, e15.trans e, s, PostS.ext (o := gForN it gg gs n (i + 1) m3 h3) q5 e⟩
          | ct m3 h3 => exact fun ρ' H' σ' e s => ⟨ρ', m3, h3, e15.trans e, s, PostS.ext (o := gForN it gg gs n (i + 1) m3 h3) q5 e⟩
          | bk m3 h3 => exact q5
          | rt v h3 => exact q5
          | er x h3 => exact q5
end
end MI
set_option Elab.async false
set_option linter.all false
set_option maxRecDepth 100000
set_option maxHeartbeats 4000000
namespace MI
open PySem PySem.Spec PyProof.Rows L2 JB
abbrev MF := List MV → MH → Out MV
def spM (Z : Zt) (n : Nat) (g : MF) : Sp := fun vs H Q E => ∃ ρ h as, HR Z ρ h H ∧ RVs Z ρ H as vs ∧ vs.length = n ∧ Post Z (rV Z) ρ H Q E (g as h)
def gBody (N : Nat) (b : MS) : MF := fun as h => match b (as.map some ++ List.replicate (N - as.length) none) h with
  | .nx _ h' => .ok .non h'
  | .rt v h' => .ok v h'
  | .er x h' => .er x h'
  | _ => .bad
section
variable {P : Program} {w : World} {K : PySem.W.Frag} {mg : Str → Option Value} {base : Heap} {T : Nat → Addr} {k : Nat} {f : Addr}
theorem RVs.get {Z : Zt} {ρ : List Addr} {H : Hp} : ∀ {xs : List MV} {vs : List V}, RVs Z ρ H xs vs → ∀ {i : Nat} {x : MV}, xs[i]? = some x → ∃ v, vs[i]? = some v ∧ RV Z ρ H x v
  | _, _, .nil, i, x, h => by simp at h
  | _, _, .cons (v := v) a r, 0, x, h => by
    simp at h; subst h
    exact ⟨v, rfl, a⟩
  | _, _, .cons a r, i + 1, x, h => by
    simp at h
    obtain ⟨v, h1, h2⟩ := RVs.get r h
    exact ⟨v, by simpa using h1, h2⟩
theorem start_M {Z : Zt} {ρ : List Addr} {h : MH} {H : Hp} {N : List Str} {as : List MV} {vs : List V} (r : HR Z ρ h H) (a : RVs Z ρ H as vs) :
    SR Z ρ (as.map some ++ List.replicate (N.length - as.length) none) h (L2.start N vs) H := by
  have hl := RVs.length a
  refine ⟨r, by unfold L2.start; simp [hl], fun i x e => ?_⟩
  unfold L2.start
  by_cases hi : i < as.length
  · rw [List.getElem?_append_left (by simpa using hi), List.getElem?_map] at e
    rw [List.getElem?_append_left (by simpa [← hl] using hi), List.getElem?_map]
    cases k : as[i]? with
    | none => rw [k] at e; cases e
    | some y =>
      rw [k] at e
      cases e
      obtain ⟨v, h1, h2⟩ := RVs.get a k
      exact ⟨v, by rw [h1]; rfl, h2⟩
  · rw [List.getElem?_append_right (by simpa using hi), List.getElem?_replicate] at e
    split at e <;> cases e
theorem body_M {Z : Zt} {ρ : List Addr} {H : Hp} {N : Nat} {Q : VK} {E : XK} {as : List MV} {h : MH} {gs : MS} (p : Post Z (rV Z) ρ H Q E (gBody N gs as h)) :
    PostS Z ρ H { nx := fun _ H' => Q .non H', rt := Q } E (gs (as.map some ++ List.replicate (N - as.length) none) h) := by
  unfold gBody at p
  generalize gs (as.map some ++ List.replicate (N - as.length) none) h = o at p ⊢
  cases o with
  | bad => exact p
  | nx m' h' => exact fun ρ' H' σ' e s => p ρ' H' .non e s.hr .non
  | rt v h' => exact p
  | bk _ _ => exact p.elim
  | ct _ _ => exact p.elim
  | er x h' => exact p
theorem pass_M {N : List Str} {qual : Str} {scope : Scope} {cdv : Value} {A : Around} {outer : List Env} {s : Shared} {H : Hp} {E : XK} :
    Passes (L2.CX P w) (cxOf (L2.CX P w) P w K mg base N qual scope f cdv A outer s H E) E :=
  passes_call (X := cxOf (L2.CX P w) P w K mg base N qual scope f cdv A outer s H E) (W := fun c d _ H' => E c d H') (takes_of rfl rfl rfl rfl) (fun _ _ _ _ z => z)
theorem own_M {N : List Str} {qual : Str} {scope : Scope} {cdv : Value} {A : Around} {outer : List Env} {s : Shared} {H : Hp} {E : XK} :
    PassesOwn (model (cxOf (L2.CX P w) P w K mg base N qual scope f cdv A outer s H E).prog (cxOf (L2.CX P w) P w K mg base N qual scope f cdv A outer s H E).w) (cxOf (L2.CX P w) P w K mg base N qual scope f cdv A outer s H E).A
      (cxOf (L2.CX P w) P w K mg base N qual scope f cdv A outer s H E).env (cxOf (L2.CX P w) P w K mg base N qual scope f cdv A outer s H E).xe :=
  passes_of rfl
structure FM (P : Program) (w : World) (K : PySem.W.Frag) (mg : Str → Option Value) (base : Heap) (T : Nat → Addr) (k : Nat) (f : Addr) (n : Nat) (dm : List MV) (g : MF) : Prop where
  ex : ∃ fd ps ds dvs, ps.length = n ∧ FnG P w K mg base (L2.CX P w) k f fd ps (spM ⟨K, T⟩ ps.length g) ∧ PySem.W.keepIn K (.ref f) = true ∧ Binds K fd ps ds ∧ Vals dvs ds ∧ (∀ ρ H, RVs ⟨K, T⟩ ρ H dm dvs)
end
def gCall (g : MF) (dm : List MV) (n : Nat) (a : MA) : ME := fun m h => (a m h).bind fun as h1 => if as.length + dm.length = n then g (as ++ dm) h1 else .bad
def gMeth (c : Nat) (f : Nat) (g : MF) (dm : List MV) (n : Nat) (o : ME) (a : MA) : ME := fun m h => (o m h).bind fun x h1 => match x with
  | .ref i => match h1.get i with
    | some (.ins c' fs) => if c' = c ∧ (fs.lookup f).isNone = true then (a m h1).bind fun as h2 => if as.length + dm.length + 1 = n then g (x :: (as ++ dm)) h2 else .bad else .bad
    | _ => .bad
  | _ => .bad
def gMake (c : Nat) (g : MF) (dm : List MV) (n : Nat) (a : MA) : ME := fun m h => (a m h).bind fun as h1 => if as.length + dm.length + 1 = n then
  (g (.ref h1.n :: (as ++ dm)) (h1.push (.ins c []))).bind fun r h2 => match r with
    | .non => .ok (.ref h1.n) h2
    | _ => .bad
  else .bad
theorem RVs.app {Z : Zt} {ρ : List Addr} {H : Hp} {ys : List MV} {ws : List V} (b : RVs Z ρ H ys ws) : ∀ {xs : List MV} {vs : List V}, RVs Z ρ H xs vs → RVs Z ρ H (xs ++ ys) (vs ++ ws)
  | _, _, .nil => b
  | _, _, .cons a r => .cons a (RVs.app b r)
theorem RKs.lookup {Z : Zt} {ρ : List Addr} {H : Hp} {xs : List (Nat × MV)} {vs : List (Str × V)} (r : RKs nm Z ρ H xs vs) (f : Nat) :
    (xs.lookup f = none ∧ vs.lookup (nm f) = none) ∨ ∃ x v, xs.lookup f = some x ∧ vs.lookup (nm f) = some v ∧ RV Z ρ H x v := by
  induction r with
  | nil => exact .inl ⟨rfl, rfl⟩
  | @cons k x v xs vs a r ih =>
    rw [List.lookup_cons, List.lookup_cons]
    by_cases e : f = k
    · subst e
      simp only [beq_self_eq_true]
      exact .inr ⟨x, v, rfl, rfl, a⟩
    · rw [beq_false_of_ne e, beq_false_of_ne (fun z => e (nm_inj z))]
      exact ih
section
variable {X : Cx} {T : Nat → Addr} {E : XK} {k : Nat} {f : Addr} {dm : List MV} {g : MF} {n : Nat} {x me : Str} {mi : Nat} {p pos apos : Pos} {e o : Expr} {es : List Expr} {ga : MA} {go : ME}
theorem pe_methG {CX : CXT} {fd : FuncData} {ps : List Str} {sp : Sp} {dvs : List V} {ds : List Value} {C : Addr} {te : TE} {t : TA} {pl : Sem Bool} (hs : JB.Still X.A)
    (he : PE X o te) (c : Cls X.K C) (hm : Meth X.K C me f) (F : FnG X.prog X.w X.K X.mg X.base CX k f fd ps sp) (hr : Room k X.A)
    (hb : Binds X.K fd ps ds) (hd : Vals dvs ds) (hx : Passes CX X E) (ha : PA X (e :: es) t)
    (hst : starEach (e :: es) X.env = (false, eval e X.env) :: starEach es X.env := by rfl)
    (hpl : (backTo pos (starEach es X.env)).any (·.1) = false := by rfl)
    (ht : eval (.Call (.Attribute o me apos) (e :: es) [] pos) X.env = (do
      let ov ← eval o X.env
      standAt apos.atName
      let (f, first) ← holding [ov] (getMethod ov me pl)
      callWith pos f first (backTo pos (starEach (e :: es) X.env)) (backToKw pos (keywordEach [] X.env))) := by rfl) :
    PE X (.Call (.Attribute o me apos) (e :: es) [] pos) (tMeth C me sp dvs E te t) :=
  ⟨fun pins s σ H Q I h => PySem.W.methodCall_KW (pl := pl)
    (thn (he.run pins s σ H _ I h) fun u s1 ⟨y, H1, I1, ry, a, dx, fs, ey, ea, l, q⟩ => by
      subst ey
      obtain rfl : u = Value.ref a := ry
      exact getmeth_ok I1 ea c hm l (PySem.W.callWith_K (first := [.ref a]) (h₀ := X.base) I.ok.mod.kin hm.kp
        (thn (ha.run pos pins s1 σ H1 _ I1 q) fun us s2 ⟨vs, H2, I2, r, q2⟩ =>
          ⟨I2.kIn, run_g (us := .ref a :: us) (vs := .ref a :: vs) hs F hr hb hd hx I2 (.cons rfl r) q2⟩) hst hpl)) ht⟩
theorem pe_meth0G {CX : CXT} {fd : FuncData} {ps : List Str} {sp : Sp} {dvs : List V} {ds : List Value} {C : Addr} {te : TE} {pl : Sem Bool} (hs : JB.Still X.A)
    (he : PE X o te) (c : Cls X.K C) (hm : Meth X.K C me f) (F : FnG X.prog X.w X.K X.mg X.base CX k f fd ps sp) (hr : Room k X.A)
    (hb : Binds X.K fd ps ds) (hd : Vals dvs ds) (hx : Passes CX X E)
    (ht : eval (.Call (.Attribute o me apos) [] [] pos) X.env = (do
      let ov ← eval o X.env
      standAt apos.atName
      let (f, first) ← holding [ov] (getMethod ov me pl)
      callWith pos f first (backTo pos (starEach [] X.env)) (backToKw pos (keywordEach [] X.env))) := by rfl) :
    PE X (.Call (.Attribute o me apos) [] [] pos) (tMeth C me sp dvs E te tNil) :=
  ⟨fun pins s σ H Q I h => PySem.W.methodCall_KW (pl := pl)
    (thn (he.run pins s σ H _ I h) fun u s1 ⟨y, H1, I1, ry, a, dx, fs, ey, ea, l, q⟩ => by
      subst ey
      obtain rfl : u = Value.ref a := ry
      exact getmeth_ok I1 ea c hm l (PySem.W.callWith_K0 (first := [.ref a]) I1.kIn hm.kp
        (run_g (us := [.ref a]) (vs := [.ref a]) hs F hr hb hd hx I1 (.cons rfl .nil) q))) ht⟩
theorem run_makeG {CX : CXT} {fd : FuncData} {ps : List Str} {sp : Sp} {dvs : List V} {ds : List Value} {C : Addr} {pins : List (Addr × Obj)} {σ : L2.St} {H : Hp} {s : Shared} {Q : VK} {us : List Value} {vs : List V}
    (hs : JB.Still X.A) (M : Mk X.K C f) (F : FnG X.prog X.w X.K X.mg X.base CX k f fd ps sp) (hr : Room (k + 1) X.A) (hb : Binds X.K fd ps ds) (hd : Vals dvs ds)
    (hx : Passes CX X E) (I : Inv X pins σ H s) (r : Vals vs us)
    (h : ∀ y dx, H y = none → H dx = none → dx ≠ y → sp (.ref y :: (vs ++ dvs)) (upd (upd H dx (.own y)) y (.ins C dx [])) (fun v H2 => v = .non ∧ Q (.ref y) H2) E) :
    wpAny (model X.prog X.w) X.A (call (.ref C) us) (EP X pins σ Q) X.xe s := by
  have hq := h (s.heap.objs.size + 1) s.heap.objs.size (I.hok.fresh (Nat.le_succ _))
    (I.hok.fresh (Nat.le_refl _)) (Nat.ne_of_lt (Nat.lt_succ_self _))
  have I2 := Inv.made (C := C) I
  have rr : Vals (V.ref (s.heap.objs.size + 1) :: (vs ++ dvs)) (Value.ref (s.heap.objs.size + 1) :: (us ++ ds)) := .cons rfl (r.append hd)
  have hl : (Value.ref (s.heap.objs.size + 1) :: us ++ ds).length = ps.length := (rr.length).symm.trans (F.many _ _ _ _ hq)
  refine wpAny_call (make_map (f := f) I.kIn M.makes M.init (beq_iff_eq.mp M.fn)
    (codeAny_mono (F.goes _ X.stack _ _ ⟨Value.ref (s.heap.objs.size + 1) :: us, []⟩ (Value.ref (s.heap.objs.size + 1) :: (us ++ ds)) _ _ E
      (still_make hs) (hr.make C us []) (I2.env0.make C us []) (hb _ (Value.ref (s.heap.objs.size + 1) :: us) I2.kIn hl) rr hq) fun z s' hq' => ?_))
  cases z with
  | error er => exact hx pins σ _ _ er s' I2 hq'
  | ok fl =>
    cases fl with
    | ret u =>
      obtain ⟨v, H', I3, rv, ev, q3⟩ := I2.after hq'
      subst ev
      exact ⟨rv, ⟨V.ref (s.heap.objs.size + 1), H', I3, rfl, q3⟩⟩
    | _ => exact False.elim hq'
theorem pe_makeG {CX : CXT} {fd : FuncData} {ps : List Str} {sp : Sp} {dvs : List V} {ds : List Value} {C : Addr} {t : TA} (hs : JB.Still X.A)
    (M : Mk X.K C f) (F : FnG X.prog X.w X.K X.mg X.base CX k f fd ps sp) (hr : Room (k + 1) X.A) (hg : Gl X x) (hm : X.mg x = some (.ref C))
    (hb : Binds X.K fd ps ds) (hd : Vals dvs ds) (hx : Passes CX X E) (ha : PA X (e :: es) t) (hdb : (x == ("__debug__" : Str)) = false := by decide)
    (he : starEach (e :: es) X.env = (false, eval e X.env) :: starEach es X.env := by rfl) (hpl : (backTo pos (starEach es X.env)).any (·.1) = false := by rfl) :
    PE X (.Call (.Name x p) (e :: es) [] pos) (tMake C sp dvs E t) :=
  ⟨fun pins s σ H Q I h => wpAny_Call_Name_kw (ld_glob I hg hm (PySem.W.callWith_K (h₀ := X.base) I.ok.mod.kin M.kp
    (thn (ha.run pos pins s σ H _ I h) fun us s1 ⟨vs, H1, I1, r, q⟩ => ⟨I1.kIn, run_makeG hs M F hr hb hd hx I1 r q⟩) he hpl) hdb)⟩
theorem pe_make0G {CX : CXT} {fd : FuncData} {ps : List Str} {sp : Sp} {dvs : List V} {ds : List Value} {C : Addr} (hs : JB.Still X.A)
    (M : Mk X.K C f) (F : FnG X.prog X.w X.K X.mg X.base CX k f fd ps sp) (hr : Room (k + 1) X.A) (hg : Gl X x) (hm : X.mg x = some (.ref C))
    (hb : Binds X.K fd ps ds) (hd : Vals dvs ds) (hx : Passes CX X E) (hdb : (x == ("__debug__" : Str)) = false := by decide) :
    PE X (.Call (.Name x p) [] [] pos) (tMake C sp dvs E tNil) :=
  ⟨fun pins s σ H Q I h => wpAny_Call_Name_kw (ld_glob I hg hm (PySem.W.callWith_K0 I.kIn M.kp (run_makeG (us := []) hs M F hr hb hd hx I .nil h)) hdb)⟩
theorem go_sp {ρ : List Addr} {h : MH} {H : Hp} {Q : VK} {as : List MV} {vs dvs : List V} {ps : List Str} (r : HR ⟨X.K, T⟩ ρ h H) (a : RVs ⟨X.K, T⟩ ρ H as vs) (d : RVs ⟨X.K, T⟩ ρ H dm dvs)
    (hn : as.length + dm.length = ps.length) (q : Post ⟨X.K, T⟩ (rV ⟨X.K, T⟩) ρ H Q E (g (as ++ dm) h)) : spM ⟨X.K, T⟩ ps.length g (vs ++ dvs) H Q E :=
  ⟨ρ, h, as ++ dm, r, RVs.app d a, by rw [List.length_append, ← RVs.length a, ← RVs.length d]; exact hn, q⟩
theorem je_call (F : FM X.prog X.w X.K X.mg X.base T k f n dm g) (hs : JB.Still X.A) (hr : Room k X.A) (hx : Passes (L2.CX X.prog X.w) X E) (hg : Gl X x) (hm : X.mg x = some (.ref f)) (ha : JA X T E (e :: es) ga)
    (hdb : (x == ("__debug__" : Str)) = false := by decide) (he : starEach (e :: es) X.env = (false, eval e X.env) :: starEach es X.env := by rfl) (hpl : (backTo pos (starEach es X.env)).any (·.1) = false := by rfl) :
    JE X T E (.Call (.Name x p) (e :: es) [] pos) (gCall g dm n ga) := by
  obtain ⟨fd, ps, ds, dvs, rfl, F, hk, hb, hd, hdm⟩ := F.ex
  refine PE.le (pe_callG hs F hr hg hm hk hb hd hx ha hdb he hpl) fun σ H Q ⟨ρ, m, h, s, q⟩ => stepA s q fun ρ1 h1 H1 xs vs s1 e1 r1 q1 => ?_
  by_cases hn : xs.length + dm.length = ps.length
  · rw [if_pos hn] at q1
    exact go_sp s1.hr r1 (hdm _ _) hn q1
  · rw [if_neg hn] at q1
    exact q1.elim
theorem meth_M {ρ : List Addr} {m : ML} {h : MH} {H : Hp} {σ : L2.St} {Q : VK} {dvs : List V} {ps : List Str} {c : Nat} {t : TA} (hmi : me = nm mi) (hd : ∀ ρ H, RVs ⟨X.K, T⟩ ρ H dm dvs) (ht : ∀ σ H Q, tA ⟨X.K, T⟩ E ga σ H Q → t σ H Q)
    (s : SR ⟨X.K, T⟩ ρ m h σ H) (q : Post ⟨X.K, T⟩ (rV ⟨X.K, T⟩) ρ H Q E (gMeth c mi g dm ps.length go ga m h)) : tMeth (T c) me (spM ⟨X.K, T⟩ ps.length g) dvs E (tE ⟨X.K, T⟩ E go) t σ H Q := by
  refine stepE s q fun ρ1 h1 H1 y v s1 e1 r1 q1 => ?_
  cases r1 with
  | @ref i a hi =>
    have q2 : Post _ (rV ⟨X.K, T⟩) ρ1 H1 Q E (match h1.get i with
      | some (.ins c' fs) => if c' = c ∧ (fs.lookup mi).isNone = true then (ga m h1).bind fun as h2 => if as.length + dm.length + 1 = ps.length then g (.ref i :: (as ++ dm)) h2 else .bad else .bad
      | _ => .bad) := q1
    cases k : h1.get i with
    | none => rw [k] at q2; exact q2.elim
    | some ob =>
      rw [k] at q2
      obtain ⟨a', ha', ho⟩ := s1.hr.all i ob k
      rw [hi] at ha'
      cases ha'
      cases ob with
      | ins c' fs =>
        obtain ⟨dx, vs, h3, h4⟩ := ho
        dsimp only at q2
        by_cases z : c' = c ∧ (fs.lookup mi).isNone = true
        · obtain ⟨rfl, z⟩ := z
          rw [if_pos ⟨rfl, z⟩] at q2
          refine ⟨a, dx, vs, rfl, h3, ?_, ht _ _ _ (stepA s1 q2 fun ρ2 h2 H2 xs ws s2 e2 r2 q3 => ?_)⟩
          · rw [hmi]; rcases h4.lookup mi with ⟨_, w⟩ | ⟨_, _, w, _⟩
            · exact w
            · rw [w] at z; cases z
          · by_cases hn : xs.length + dm.length + 1 = ps.length
            · rw [if_pos hn] at q3
              exact go_sp (as := .ref i :: xs) (vs := .ref a :: ws) s2.hr (.cons (.ref (e2.at hi)) r2) (hd _ _) (by simp; omega) q3
            · rw [if_neg hn] at q3
              exact q3.elim
        · rw [if_neg z] at q2
          exact q2.elim
      | _ => exact q2.elim
  | _ => exact q1.elim
theorem je_meth {c : Nat} {pl : Sem Bool} (F : FM X.prog X.w X.K X.mg X.base T k f n dm g) (cl : Cls X.K (T c)) (mt : Meth X.K (T c) me f) (hmi : me = nm mi) (hs : JB.Still X.A) (hr : Room k X.A) (hx : Passes (L2.CX X.prog X.w) X E)
    (ho : JE X T E o go) (ha : JA X T E (e :: es) ga)
    (hst : starEach (e :: es) X.env = (false, eval e X.env) :: starEach es X.env := by rfl)
    (hpl : (backTo pos (starEach es X.env)).any (·.1) = false := by rfl)
    (ht : eval (.Call (.Attribute o me apos) (e :: es) [] pos) X.env = (do
      let ov ← eval o X.env
      standAt apos.atName
      let (f, first) ← holding [ov] (getMethod ov me pl)
      callWith pos f first (backTo pos (starEach (e :: es) X.env)) (backToKw pos (keywordEach [] X.env))) := by rfl) :
    JE X T E (.Call (.Attribute o me apos) (e :: es) [] pos) (gMeth c mi g dm n go ga) := by
  obtain ⟨fd, ps, ds, dvs, rfl, F, hk, hb, hd, hdm⟩ := F.ex
  exact PE.le (pe_methG hs ho cl mt F hr hb hd hx ha hst hpl ht) fun σ H Q ⟨ρ, m, h, s, q⟩ => meth_M hmi hdm (fun _ _ _ z => z) s q
theorem je_meth0 {c : Nat} {pl : Sem Bool} (F : FM X.prog X.w X.K X.mg X.base T k f n dm g) (cl : Cls X.K (T c)) (mt : Meth X.K (T c) me f) (hmi : me = nm mi) (hs : JB.Still X.A) (hr : Room k X.A) (hx : Passes (L2.CX X.prog X.w) X E)
    (ho : JE X T E o go)
    (ht : eval (.Call (.Attribute o me apos) [] [] pos) X.env = (do
      let ov ← eval o X.env
      standAt apos.atName
      let (f, first) ← holding [ov] (getMethod ov me pl)
      callWith pos f first (backTo pos (starEach [] X.env)) (backToKw pos (keywordEach [] X.env))) := by rfl) :
    JE X T E (.Call (.Attribute o me apos) [] [] pos) (gMeth c mi g dm n go gNil) := by
  obtain ⟨fd, ps, ds, dvs, rfl, F, hk, hb, hd, hdm⟩ := F.ex
  exact PE.le (pe_meth0G hs ho cl mt F hr hb hd hx ht) fun σ H Q ⟨ρ, m, h, s, q⟩ => meth_M hmi hdm (fun σ H Q ⟨ρ, m, h, s, q⟩ => q.ok s.hr .nil) s q
theorem make_M {ρ : List Addr} {h : MH} {H : Hp} {Q : VK} {dvs : List V} {ps : List Str} {c : Nat} {as : List MV} {vs : List V} (hd : ∀ ρ H, RVs ⟨X.K, T⟩ ρ H dm dvs)
    (s : HR ⟨X.K, T⟩ ρ h H) (r : RVs ⟨X.K, T⟩ ρ H as vs) (hn : as.length + dm.length + 1 = ps.length)
    (q : Post ⟨X.K, T⟩ (rV ⟨X.K, T⟩) ρ H Q E ((g (.ref h.n :: (as ++ dm)) (h.push (.ins c []))).bind fun r h2 => match r with
      | .non => .ok (.ref h.n) h2
      | _ => .bad)) :
    ∀ y dx, H y = none → H dx = none → dx ≠ y → spM ⟨X.K, T⟩ ps.length g (.ref y :: (vs ++ dvs)) (upd (upd H dx (.own y)) y (.ins (T c) dx [])) (fun v H2 => v = .non ∧ Q (.ref y) H2) E := by
  intro y dx hy hdx hne
  have hy' : upd H dx (.own y) y = none := by rw [upd_ne (Ne.symm hne)]; exact hy
  have e1 : Ext ρ H ρ (upd H dx (.own y)) := Ext.still1 hdx
  have e2 : Ext ρ (upd H dx (.own y)) (ρ ++ [y]) (upd (upd H dx (.own y)) y (.ins (T c) dx [])) := Ext.push hy'
  have s2 : HR ⟨X.K, T⟩ (ρ ++ [y]) (h.push (.ins c [])) (upd (upd H dx (.own y)) y (.ins (T c) dx [])) := (s.still1 hdx).push hy' ⟨dx, [], upd_same, .nil⟩
  have at_ : (ρ ++ [y])[h.n]? = some y := by rw [← s.len]; simp
  refine go_sp (as := .ref h.n :: as) (vs := .ref y :: vs) s2 (.cons (.ref at_) (r.ext (e1.trans e2))) (hd _ _) (by simp; omega) ?_
  refine (Post.bind (R := rV ⟨X.K, T⟩) (q.ext (e1.trans e2))).mono fun v H3 ⟨ρ3, h3, a, e3, r3, ra, q3⟩ => ?_
  cases ra with
  | non => exact ⟨rfl, q3.ok r3 (.ref (e3.at at_))⟩
  | _ => exact q3.elim
theorem je_make {c : Nat} (F : FM X.prog X.w X.K X.mg X.base T k f n dm g) (M : Mk X.K (T c) f) (hs : JB.Still X.A) (hr : Room (k + 1) X.A) (hx : Passes (L2.CX X.prog X.w) X E) (hg : Gl X x) (hm : X.mg x = some (.ref (T c))) (ha : JA X T E (e :: es) ga)
    (hdb : (x == ("__debug__" : Str)) = false := by decide) (he : starEach (e :: es) X.env = (false, eval e X.env) :: starEach es X.env := by rfl) (hpl : (backTo pos (starEach es X.env)).any (·.1) = false := by rfl) :
    JE X T E (.Call (.Name x p) (e :: es) [] pos) (gMake c g dm n ga) := by
  obtain ⟨fd, ps, ds, dvs, rfl, F, hk, hb, hd, hdm⟩ := F.ex
  refine PE.le (pe_makeG hs M F hr hg hm hb hd hx ha hdb he hpl) fun σ H Q ⟨ρ, m, h, s, q⟩ => stepA s q fun ρ1 h1 H1 xs vs s1 e1 r1 q1 => ?_
  by_cases hn : xs.length + dm.length + 1 = ps.length
  · rw [if_pos hn] at q1
    exact make_M hdm s1.hr r1 hn q1
  · rw [if_neg hn] at q1
    exact q1.elim
theorem je_make0 {c : Nat} (F : FM X.prog X.w X.K X.mg X.base T k f n dm g) (M : Mk X.K (T c) f) (hs : JB.Still X.A) (hr : Room (k + 1) X.A) (hx : Passes (L2.CX X.prog X.w) X E) (hg : Gl X x) (hm : X.mg x = some (.ref (T c)))
    (hdb : (x == ("__debug__" : Str)) = false := by decide) :
    JE X T E (.Call (.Name x p) [] [] pos) (gMake c g dm n gNil) := by
  obtain ⟨fd, ps, ds, dvs, rfl, F, hk, hb, hd, hdm⟩ := F.ex
  refine PE.le (pe_make0G hs M F hr hg hm hb hd hx hdb) fun σ H Q ⟨ρ, m, h, s, q⟩ => ?_
  have q1 : Post ⟨X.K, T⟩ (rV ⟨X.K, T⟩) ρ H Q E (if ([] : List MV).length + dm.length + 1 = ps.length then
    (g (.ref h.n :: ([] ++ dm)) (h.push (.ins c []))).bind fun r h2 => match r with
      | .non => .ok (.ref h.n) h2
      | _ => .bad
    else .bad) := q
  by_cases hn : ([] : List MV).length + dm.length + 1 = ps.length
  · rw [if_pos hn] at q1
    exact make_M (vs := []) hdm s.hr .nil hn q1
  · rw [if_neg hn] at q1
    exact q1.elim
end
end MI
set_option Elab.async false
set_option linter.all false
set_option maxRecDepth 100000
set_option maxHeartbeats 4000000
namespace MI
open PySem PySem.Spec PyProof.Rows L2 JB
section
variable {Z : Zt} {ρ : List Addr} {h : MH} {H : Hp} {i : Nat} {a : Addr}
theorem HR.obj (R : HR Z ρ h H) {o : MO} (hi : h.get i = some o) (ha : ρ[i]? = some a) : OR Z ρ H a o := by
  obtain ⟨b, h1, h2⟩ := R.all i o hi
  rw [ha] at h1
  cases h1
  exact h2
theorem HR.grow (R : HR Z ρ h H) {o : MO} (hi : h.get i = some o) (ha : ρ[i]? = some a) (u : HO) (hop : o.opn = true := by rfl) : Ext ρ H ρ (upd H a u) :=
  Ext.set (List.mem_of_getElem? ha) fun v e => (R.obj hi ha).notStill e hop
end
def leq : List Nat → List Nat → Bool
  | [], [] => true
  | a :: l, b :: r => if a = b then leq l r else false
  | _, _ => false
theorem leq_iff : ∀ {l r : List Nat}, leq l r = true ↔ l = r
  | [], [] => by simp [leq]
  | a :: l, b :: r => by
    unfold leq
    by_cases e : a = b
    · subst e; simp [leq_iff (l := l) (r := r)]
    · simp [e]
  | [], _ :: _ => by simp [leq]
  | _ :: _, [] => by simp [leq]
def mEq : MV → MV → Option Bool
  | .non, .non => some true
  | .int i, .int j => some (decide (i = j))
  | .bl i, .bl j => some (decide (i = j))
  | .str s, .str t => some (leq s t)
  | .non, .int _ => some false
  | .int _, .non => some false
  | .non, .bl _ => some false
  | .bl _, .non => some false
  | .non, .str _ => some false
  | .str _, .non => some false
  | .int _, .str _ => some false
  | .str _, .int _ => some false
  | .bl _, .str _ => some false
  | .str _, .bl _ => some false
  | _, _ => none
theorem str_eq {s t : List Nat} : decide (V.str ⟨s.toArray⟩ = V.str ⟨t.toArray⟩) = leq s t := by
  rw [Bool.eq_iff_iff, leq_iff]
  simp
theorem mEq_ok {Z : Zt} {ρ : List Addr} {H : Hp} {x y : MV} {v w : V} {b : Bool} (r : RV Z ρ H x v) (q : RV Z ρ H y w) (e : mEq x y = some b) : scal v w = true ∧ decide (v = w) = b := by
  cases r <;> cases q <;> first
    | (cases e; done)
    | (cases e; exact ⟨rfl, str_eq⟩)
    | (cases e; exact ⟨rfl, by simp⟩)
    | (cases e; exact ⟨rfl, rfl⟩)
def oB (o : Option Bool) (h : MH) : Out MV := match o with
  | some b => .ok (.bl b) h
  | none => .bad
def mEqV (x y : MV) (h : MH) : Out MV := oB (mEq x y) h
def mNeV (x y : MV) (h : MH) : Out MV := oB ((mEq x y).map (!·)) h
section
variable {Z : Zt} {E : XK}
theorem om_eq : OpM Z E mEqV rEq := fun ρ h H x y v w Q R r q p => by
  unfold mEqV oB at p
  cases e : mEq x y with
  | none => rw [e] at p; exact p.elim
  | some b =>
    rw [e] at p
    obtain ⟨h1, h2⟩ := mEq_ok r q e
    exact ⟨h1, by rw [h2]; exact p.ok R (.bl b)⟩
theorem om_ne : OpM Z E mNeV rNe := fun ρ h H x y v w Q R r q p => by
  unfold mNeV oB at p
  cases e : mEq x y with
  | none => rw [e] at p; exact p.elim
  | some b =>
    rw [e] at p
    obtain ⟨h1, h2⟩ := mEq_ok r q e
    exact ⟨h1, by rw [h2]; exact p.ok R (.bl _)⟩
def mI (g : Int → Int → MV) (x y : MV) (h : MH) : Out MV := match x, y with
  | .int i, .int j => .ok (g i j) h
  | _, _ => .bad
def mIc (c : Int → Int → Bool) (g : Int → Int → MV) (x y : MV) (h : MH) : Out MV := match x, y with
  | .int i, .int j => if c i j = true then .ok (g i j) h else .bad
  | _, _ => .bad
theorem om_I {g : Int → Int → MV} {g' : Int → Int → V} (k : ∀ i j ρ H, RV Z ρ H (g i j) (g' i j)) : OpM Z E (mI g) (rI0 g') := fun ρ h H x y v w Q R r q p => by
  cases r with
  | int i =>
    cases q with
    | int j => exact ⟨i, j, rfl, rfl, p.ok R (k i j ρ H)⟩
    | _ => exact p.elim
  | _ => exact p.elim
theorem om_Ic {c : Int → Int → Bool} {C : Int → Int → Prop} {g : Int → Int → MV} {g' : Int → Int → V} (hc : ∀ i j, c i j = true → C i j) (k : ∀ i j ρ H, RV Z ρ H (g i j) (g' i j)) : OpM Z E (mIc c g) (L2.rI C g') := fun ρ h H x y v w Q R r q p => by
  cases r with
  | int i =>
    cases q with
    | int j =>
      have p' : Post Z (rV Z) ρ H Q E (if c i j = true then .ok (g i j) h else .bad) := p
      by_cases e : c i j = true
      · rw [if_pos e] at p'
        exact ⟨i, j, rfl, rfl, hc i j e, p'.ok R (k i j ρ H)⟩
      · rw [if_neg e] at p'
        exact p'.elim
    | _ => exact p.elim
  | _ => exact p.elim
def mSub := mI fun i j => .int (i - j)
def cMul (i j : Int) : Bool := decide (i.natAbs < 18446744073709551616) || decide (j.natAbs < 18446744073709551616)
def mMul := mIc cMul fun i j => .int (i * j)
def mMod := mIc (fun _ j => decide (0 < j)) fun i j => .int (i % j)
def mDiv := mIc (fun _ j => decide (0 < j) && decide (j < 1073741824)) fun i j => .int (i / j)
def mPow := mIc (fun i j => decide (0 ≤ j) && decide (j ≤ 1000000) && decide (i.natAbs < 18446744073709551616)) fun i j => .int (i ^ j.toNat)
def mLtI := mI fun i j => .bl (decide (i < j))
def mLeI := mI fun i j => .bl (decide (i ≤ j))
def mGtI := mI fun i j => .bl (decide (j < i))
def mGeI := mI fun i j => .bl (decide (j ≤ i))
theorem om_sub : OpM Z E mSub (rI0 fun i j => .int (i - j)) := om_I fun _ _ _ _ => .int _
theorem om_mul : OpM Z E mMul (L2.rI CMul fun i j => .int (i * j)) := om_Ic (fun i j e => by
  unfold cMul at e
  simp at e
  unfold CMul
  omega) fun _ _ _ _ => .int _
theorem om_mod : OpM Z E mMod (L2.rI (fun _ j => 0 < j) fun i j => .int (i % j)) := om_Ic (fun i j e => by simpa using e) fun _ _ _ _ => .int _
theorem om_div : OpM Z E mDiv (L2.rI CDiv fun i j => .int (i / j)) := om_Ic (fun i j e => by simpa [CDiv] using e) fun _ _ _ _ => .int _
theorem om_pow : OpM Z E mPow (L2.rI CPow fun i j => .int (i ^ j.toNat)) := om_Ic (fun i j e => by
  simp at e
  exact ⟨e.1.1, e.1.2, by have : (2 : Nat) ^ 64 = 18446744073709551616 := by decide
                          omega⟩) fun _ _ _ _ => .int _
theorem om_lt : OpM Z E mLtI (rI0 fun i j => .bl (decide (i < j))) := om_I fun _ _ _ _ => .bl _
theorem om_le : OpM Z E mLeI (rI0 fun i j => .bl (decide (i ≤ j))) := om_I fun _ _ _ _ => .bl _
theorem om_gt : OpM Z E mGtI (rI0 fun i j => .bl (decide (j < i))) := om_I fun _ _ _ _ => .bl _
theorem om_ge : OpM Z E mGeI (rI0 fun i j => .bl (decide (j ≤ i))) := om_I fun _ _ _ _ => .bl _
def mAdd (x y : MV) (h : MH) : Out MV := match x, y with
  | .int i, .int j => .ok (.int (i + j)) h
  | .str s, .str t => if s.length + t.length ≤ 1000000 then .ok (.str (s ++ t)) h else .bad
  | .tup xs, .tup ys => if xs.length + ys.length ≤ 1000000 ∧ xs.isEmpty = false then .ok (.tup (xs ++ ys)) h else .bad
  | .ref i, .ref j => match h.get i, h.get j with
    | some (.lst xs), some (.lst ys) => if xs.length + ys.length ≤ 1000000 then .ok (.ref h.n) (h.push (.lst (xs ++ ys))) else .bad
    | _, _ => .bad
  | _, _ => .bad
abbrev rAddS : R2 := fun x y H Q => ∃ i j, x = .str i ∧ y = .str j ∧ i.length + j.length ≤ sizeLine ∧ Q (.str (i ++ j)) H
abbrev rAddM (K : PySem.W.Frag) : R2 := fun x y H Q => (rI0 (fun i j => .int (i + j)) x y H Q ∨ rAddS x y H Q) ∨ (rCatT K x y H Q ∨ rCat x y H Q)
theorem str_app {s t : List Nat} : (⟨s.toArray⟩ : Str) ++ ⟨t.toArray⟩ = ⟨(s ++ t).toArray⟩ := by
  show Str.mk _ = Str.mk _
  simp
theorem RVs.nil_iff {ρ : List Addr} {H : Hp} {xs : List MV} {vs : List V} (r : RVs Z ρ H xs vs) : vs = [] ↔ xs = [] := by
  cases r <;> simp
theorem om_add : OpM Z E mAdd (rAddM Z.K) := fun ρ h H x y v w Q R r q p => by
  cases r with
  | int i =>
    cases q with
    | int j => exact .inl (.inl ⟨i, j, rfl, rfl, p.ok R (.int _)⟩)
    | _ => exact p.elim
  | str s =>
    cases q with
    | str t =>
      have p' : Post Z (rV Z) ρ H Q E (if s.length + t.length ≤ 1000000 then .ok (.str (s ++ t)) h else .bad) := p
      by_cases e : s.length + t.length ≤ 1000000
      · rw [if_pos e] at p'
        refine .inl (.inr ⟨_, _, rfl, rfl, ?_, ?_⟩)
        · show s.toArray.size + t.toArray.size ≤ sizeLine
          rw [sizeLine_eq]; simp; omega
        · rw [str_app]
          exact p'.ok R (.str _)
      · rw [if_neg e] at p'
        exact p'.elim
    | _ => exact p.elim
  | tup h1 r1 =>
    cases q with
    | tup h2 r2 =>
      rename_i a xs vs b ys ws
      have p' : Post Z (rV Z) ρ H Q E (if xs.length + ys.length ≤ 1000000 ∧ xs.isEmpty = false then .ok (.tup (xs ++ ys)) h else .bad) := p
      by_cases e : xs.length + ys.length ≤ 1000000 ∧ xs.isEmpty = false
      · rw [if_pos e] at p'
        have ne : xs ≠ [] := by intro z; rw [z] at e; exact absurd e.2 (by decide)
        refine .inr (.inl ⟨a, b, vs, ws, rfl, rfl, .inl (.inl h1), .inl (.inl h2), fun z => ne (r1.nil_iff.mp z), by rw [← r1.length, ← r2.length, sizeLine_eq]; omega, fun z => ?_, fun z pp hp => ?_⟩)
        · rw [r2.nil_iff.mp z, List.append_nil] at p'
          exact p'.ok R (.tup h1 r1)
        · exact p' ρ _ _ (Ext.still1 hp) (R.still1 hp) (.tup upd_same (RVs.app (r2.ext (Ext.still1 hp)) (r1.ext (Ext.still1 hp))))
      · rw [if_neg e] at p'
        exact p'.elim
    | _ => exact p.elim
  | @ref i a hi =>
    cases q with
    | @ref j b hj =>
      have p' : Post Z (rV Z) ρ H Q E (match h.get i, h.get j with
        | some (.lst xs), some (.lst ys) => if xs.length + ys.length ≤ 1000000 then .ok (.ref h.n) (h.push (.lst (xs ++ ys))) else .bad
        | _, _ => .bad) := p
      cases k1 : h.get i with
      | none => rw [k1] at p'; exact p'.elim
      | some o1 =>
        cases k2 : h.get j with
        | none => rw [k1, k2] at p'; cases o1 <;> exact p'.elim
        | some o2 =>
          rw [k1, k2] at p'
          cases o1 with
          | lst xs =>
            cases o2 with
            | lst ys =>
              dsimp only at p'
              obtain ⟨vs, v1, v2⟩ := R.obj k1 hi
              obtain ⟨ws, w1, w2⟩ := R.obj k2 hj
              by_cases e : xs.length + ys.length ≤ 1000000
              · rw [if_pos e] at p'
                refine .inr (.inr ⟨a, b, vs, ws, rfl, rfl, v1, w1, by rw [← v2.length, ← w2.length, sizeLine_eq]; omega, fun pp hp => ?_⟩)
                refine p' (ρ ++ [pp]) _ _ (Ext.push hp) (R.push hp ⟨_, upd_same, RVs.app (w2.ext (Ext.push hp)) (v2.ext (Ext.push hp))⟩) (.ref ?_)
                rw [← R.len]; simp
              · rw [if_neg e] at p'
                exact p'.elim
            | _ => exact p'.elim
          | _ => exact p'.elim
    | _ => exact p.elim
  | _ => exact p.elim
end
section
variable {X : Cx} {T : Nat → Addr} {E : XK} {a b : Expr} {ga gb : ME} {pos : Pos}
theorem op_addM : OpR X (binaryOp .Add) (rAddM X.K) := (OpR.or (OpR.or op_add op_add_str) (OpR.or op_catT op_cat))
theorem je_add (ha : JE X T E a ga) (hb : JE X T E b gb) : JE X T E (.BinOp a .Add b pos) (gBin mAdd ga gb) := je_op op_addM om_add ha hb
theorem je_sub (ha : JE X T E a ga) (hb : JE X T E b gb) : JE X T E (.BinOp a .Sub b pos) (gBin mSub ga gb) := je_op op_sub om_sub ha hb
theorem je_mul (ha : JE X T E a ga) (hb : JE X T E b gb) : JE X T E (.BinOp a .Mult b pos) (gBin mMul ga gb) := je_op op_mul om_mul ha hb
theorem je_mod (ha : JE X T E a ga) (hb : JE X T E b gb) : JE X T E (.BinOp a .Mod b pos) (gBin mMod ga gb) := je_op op_mod om_mod ha hb
theorem je_div (ha : JE X T E a ga) (hb : JE X T E b gb) : JE X T E (.BinOp a .FloorDiv b pos) (gBin mDiv ga gb) := je_op op_fdiv om_div ha hb
theorem je_pow (ha : JE X T E a ga) (hb : JE X T E b gb) : JE X T E (.BinOp a .Pow b pos) (gBin mPow ga gb) := je_op op_pow om_pow ha hb
theorem jt_eq (ha : JE X T E a ga) (hb : JE X T E b gb) : JT X T E (.Compare a [.Eq] [b] pos) (gB (gBin mEqV ga gb)) := jt_cmp op_eq om_eq ha hb (nobehind _ (by decide) (by decide))
theorem jt_ne (ha : JE X T E a ga) (hb : JE X T E b gb) : JT X T E (.Compare a [.NotEq] [b] pos) (gB (gBin mNeV ga gb)) := jt_cmp op_ne om_ne ha hb (nobehind _ (by decide) (by decide))
theorem jt_lt (ha : JE X T E a ga) (hb : JE X T E b gb) : JT X T E (.Compare a [.Lt] [b] pos) (gB (gBin mLtI ga gb)) := jt_cmp op_lt om_lt ha hb (nobehind _ (by decide) (by decide))
theorem jt_le (ha : JE X T E a ga) (hb : JE X T E b gb) : JT X T E (.Compare a [.LtE] [b] pos) (gB (gBin mLeI ga gb)) := jt_cmp op_le om_le ha hb (nobehind _ (by decide) (by decide))
theorem jt_gt (ha : JE X T E a ga) (hb : JE X T E b gb) : JT X T E (.Compare a [.Gt] [b] pos) (gB (gBin mGtI ga gb)) := jt_cmp op_gt om_gt ha hb (nobehind _ (by decide) (by decide))
theorem jt_ge (ha : JE X T E a ga) (hb : JE X T E b gb) : JT X T E (.Compare a [.GtE] [b] pos) (gB (gBin mGeI ga gb)) := jt_cmp op_ge om_ge ha hb (nobehind _ (by decide) (by decide))
theorem je_ge (ha : JE X T E a ga) (hb : JE X T E b gb) : JE X T E (.Compare a [.GtE] [b] pos) (gBin mGeI ga gb) := je_cmp op_ge om_ge ha hb (nobehind _ (by decide) (by decide))
def mNeg (x : MV) (h : MH) : Out MV := match x with
  | .int i => .ok (.int (-i)) h
  | _ => .bad
theorem je_neg (ha : JE X T E a ga) : JE X T E (.UnaryOp .USub a pos) (gUn mNeg ga) :=
  PE.le (pe_un un_neg ha) fun σ H Q ⟨ρ, m, h, s, q⟩ => stepE s q fun ρ1 h1 H1 x v s1 e1 r1 q1 => by
    cases r1 with
    | int i => exact ⟨i, rfl, q1.ok s1.hr (.int _)⟩
    | _ => exact q1.elim
def mIsN (x : MV) : Bool := match x with
  | .non => true
  | _ => false
theorem isN_ok {Z : Zt} {ρ : List Addr} {H : Hp} {x : MV} {v : V} (r : RV Z ρ H x v) : decide (v = .non) = mIsN x := by cases r <;> rfl
def gIsN (a : ME) : ME := gUn (fun x h => .ok (.bl (mIsN x)) h) a
def gNotN (a : ME) : ME := gUn (fun x h => .ok (.bl (!mIsN x)) h) a
theorem le_isN : ∀ σ H Q, tE ⟨X.K, T⟩ E (gIsN ga) σ H Q → tIsN (tE ⟨X.K, T⟩ E ga) σ H Q := fun σ H Q ⟨ρ, m, h, s, q⟩ => stepE s q fun ρ1 h1 H1 x v s1 e1 r1 q1 => by
  rw [isN_ok r1]; exact q1.ok s1.hr (.bl _)
theorem le_notN : ∀ σ H Q, tE ⟨X.K, T⟩ E (gNotN ga) σ H Q → tNotN (tE ⟨X.K, T⟩ E ga) σ H Q := fun σ H Q ⟨ρ, m, h, s, q⟩ => stepE s q fun ρ1 h1 H1 x v s1 e1 r1 q1 => by
  rw [isN_ok r1]; exact q1.ok s1.hr (.bl _)
theorem le_B {t : TE} {g : ME} (k : ∀ σ H Q, tE ⟨X.K, T⟩ E g σ H Q → t σ H Q) : ∀ σ H Q, tT ⟨X.K, T⟩ E (gB g) σ H Q → tB t σ H Q := fun σ H Q ⟨ρ, m, h, s, q⟩ =>
  k _ _ _ (stepE s q fun ρ1 h1 H1 x v s1 e1 r1 q1 => by
    cases r1 with
    | bl b => exact ⟨b, rfl, q1.ok s1.hr rfl⟩
    | _ => exact q1.elim)
theorem jt_isN {j pos'} (ha : JE X T E a ga) : JT X T E (.Compare a [.Is] [.Constant .none j pos'] pos) (gB (gIsN ga)) := PT.le (pt_cmp (pc_isN ha)) (le_B le_isN)
theorem jt_notN {j pos'} (ha : JE X T E a ga) : JT X T E (.Compare a [.IsNot] [.Constant .none j pos'] pos) (gB (gNotN ga)) := PT.le (pt_cmp (pc_notN ha)) (le_B le_notN)
end
end MI
set_option Elab.async false
set_option linter.all false
set_option maxRecDepth 100000
set_option maxHeartbeats 4000000
namespace MI
open PySem PySem.Spec PyProof.Rows L2 JB
def mput (f : Nat) (v : MV) : List (Nat × MV) → List (Nat × MV)
  | [] => [(f, v)]
  | (g, x) :: r => if g = f then (g, v) :: r else (g, x) :: mput f v r
theorem RKs.put {Z : Zt} {ρ : List Addr} {H : Hp} {xs : List (Nat × MV)} {vs : List (Str × V)} (r : RKs nm Z ρ H xs vs) {f : Nat} {x : MV} {v : V} (q : RV Z ρ H x v) : RKs nm Z ρ H (mput f x xs) (putF (nm f) v vs) := by
  induction r with
  | nil => exact .cons q .nil
  | @cons k y w xs vs a r ih =>
    show RKs nm Z ρ H (if k = f then (k, x) :: xs else (k, y) :: mput f x xs) (if nm k = nm f then (nm k, v) :: vs else (nm k, w) :: putF (nm f) v vs)
    by_cases e : k = f
    · subst e; rw [if_pos rfl, if_pos rfl]; exact .cons q r
    · rw [if_neg e, if_neg (fun z => e (nm_inj z))]; exact .cons a ih
theorem RKs.length {κ κ' : Type} {f : κ → κ'} {Z : Zt} {ρ : List Addr} {H : Hp} {xs : List (κ × MV)} {vs : List (κ' × V)} (r : RKs f Z ρ H xs vs) : xs.length = vs.length := by
  induction r with
  | nil => rfl
  | cons _ _ ih => simp [ih]
def mFld (cs : List Nat) (f : Nat) (x : MV) (h : MH) : Out MV := match x with
  | .ref i => match h.get i with
    | some (.ins c fs) => if cs.contains c = true then match fs.lookup f with
        | some v => .ok v h
        | none => .bad
      else .bad
    | _ => .bad
  | _ => .bad
def gFld (cs : List Nat) (f : Nat) (a : ME) : ME := gUn (mFld cs f) a
def FldOk (K : PySem.W.Frag) (T : Nat → Addr) (cs : List Nat) (f : Nat) : Prop := ∀ c ∈ cs, Cls K (T c) ∧ NoAttr K (T c) (nm f)
def gFldS (cs : List Nat) (f : Nat) (v o : ME) : MS := fun m h => (v m h).bindS fun y h1 => (o m h1).bindS fun x h2 => match x with
  | .ref i => match h2.get i with
    | some (.ins c fs) => if cs.contains c = true ∧ fs.length < 900 then .nx m (h2.set i (.ins c (mput f y fs))) else .bad
    | _ => .bad
  | _ => .bad
def gFldAug (cs : List Nat) (f : Nat) (g : Int → Int → Int) (o v : ME) : MS := fun m h => (o m h).bindS fun x h1 => (mFld cs f x h1).bindS fun w h1 => (v m h1).bindS fun y h2 => match x, w, y with
  | .ref i, .int p, .int q => match h1.get i, h2.get i with
    | some (.ins c0 _), some (.ins c fs) => if c = c0 ∧ fs.length < 900 then .nx m (h2.set i (.ins c (mput f (.int (g p q)) fs))) else .bad
    | _, _ => .bad
  | _, _, _ => .bad
section
variable {X : Cx} {T : Nat → Addr} {E : XK} {o e value : Expr} {f : Str} {fi : Nat} {cs : List Nat} {pos pos' tpos : Pos} {go ge : ME}
theorem fld_ok {Z : Zt} {α : Type} {R : α → Prop} {ρ : List Addr} {h : MH} {H : Hp} {x : MV} {v : V} {k : MV → MH → SO} (R1 : HR Z ρ h H) (rv : RV Z ρ H x v) (D : Ends) (q : PostS Z ρ H D E ((mFld cs fi x h).bindS k)) :
    ∃ i a c fs dx vs y w, x = .ref i ∧ v = .ref a ∧ ρ[i]? = some a ∧ h.get i = some (.ins c fs) ∧ c ∈ cs ∧ H a = some (.ins (Z.adr c) dx vs) ∧ RKs nm Z ρ H fs vs ∧ vs.lookup (nm fi) = some w ∧ RV Z ρ H y w ∧ PostS Z ρ H D E (k y h) := by
  cases rv with
  | @ref i a hi =>
    have q' : PostS Z ρ H D E (Out.bindS (match h.get i with
      | some (.ins c fs) => if cs.contains c = true then match fs.lookup fi with
          | some v => .ok v h
          | none => .bad
        else .bad
      | _ => .bad) k) := q
    cases g : h.get i with
    | none => rw [g] at q'; exact q'.elim
    | some ob =>
      rw [g] at q'
      cases ob with
      | ins c fs =>
        dsimp only at q'
        by_cases z : cs.contains c = true
        · rw [if_pos z] at q'
          obtain ⟨dx, vs, h3, h4⟩ := R1.obj g hi
          rcases h4.lookup fi with ⟨l, _⟩ | ⟨y, w, l1, l2, l3⟩
          · rw [l] at q'; exact q'.elim
          · rw [l1] at q'
            exact ⟨i, a, c, fs, dx, vs, y, w, rfl, rfl, hi, g, by simpa using z, h3, h4, l2, l3, q'⟩
        · rw [if_neg z] at q'; exact q'.elim
      | _ => exact q'.elim
  | _ => exact q.elim
theorem je_fld (ho : JE X T E o go) (k : FldOk X.K T cs fi) (hf : f = nm fi := by rfl) (hb : attributeBase o f X.env (eval o X.env) = eval o X.env := by rfl) : JE X T E (.Attribute o f pos) (gFld cs fi go) := by
  refine PE.le (pe_fld ho hb) fun σ H Q ⟨ρ, m, h, s, q⟩ => stepE s q fun ρ1 h1 H1 x v s1 e1 r1 q1 => ?_
  cases r1 with
  | @ref i a hi =>
    have q' : Post ⟨X.K, T⟩ (rV ⟨X.K, T⟩) ρ1 H1 Q E (match h1.get i with
      | some (.ins c fs) => if cs.contains c = true then match fs.lookup fi with
          | some v => .ok v h1
          | none => .bad
        else .bad
      | _ => .bad) := q1
    cases g : h1.get i with
    | none => rw [g] at q'; exact q'.elim
    | some ob =>
      rw [g] at q'
      cases ob with
      | ins c fs =>
        dsimp only at q'
        by_cases z : cs.contains c = true
        · rw [if_pos z] at q'
          obtain ⟨dx, vs, h3, h4⟩ := s1.hr.obj g hi
          obtain ⟨k1, k2⟩ := k c (by simpa using z)
          rcases h4.lookup fi with ⟨l, _⟩ | ⟨y, w, l1, l2, l3⟩
          · rw [l] at q'; exact q'.elim
          · rw [l1] at q'
            subst hf
            exact ⟨a, T c, dx, vs, w, rfl, h3, k1, k2, l2, q'.ok s1.hr l3⟩
        · rw [if_neg z] at q'; exact q'.elim
      | _ => exact q'.elim
  | _ => exact q1.elim
theorem js_fld (ho : JE X T E o go) (hv : JE X T E value ge) (k : FldOk X.K T cs fi) (hf : f = nm fi := by rfl) (hs : swapsWith value (some (.Attribute o f pos')) pos.line X.env = pure false := by rfl) :
    JS X T E (.Assign [.Attribute o f pos'] value pos) (gFldS cs fi ge go) := by
  refine PS.le (ps_fld ho hv hs) fun D σ H ⟨ρ, m, h, s, q⟩ => sE s q fun ρ1 h1 H1 y w s1 e1 r1 q1 => sE s1 q1 fun ρ2 h2 H2 x v s2 e2 r2 q2 => ?_
  cases r2 with
  | @ref i a hi =>
    have q' : PostS ⟨X.K, T⟩ ρ2 H2 D E (match h2.get i with
      | some (.ins c fs) => if cs.contains c = true ∧ fs.length < 900 then .nx m (h2.set i (.ins c (mput fi y fs))) else .bad
      | _ => .bad) := q2
    cases g : h2.get i with
    | none => rw [g] at q'; exact q'.elim
    | some ob =>
      rw [g] at q'
      cases ob with
      | ins c fs =>
        dsimp only at q'
        by_cases z : cs.contains c = true ∧ fs.length < 900
        · rw [if_pos z] at q'
          obtain ⟨dx, vs, h3, h4⟩ := s2.hr.obj g hi
          obtain ⟨k1, k2⟩ := k c (by simpa using z.1)
          subst hf
          refine ⟨a, T c, dx, vs, rfl, h3, k1, k2, by rw [← h4.length]; omega, ?_⟩
          have x1 := s2.hr.grow g hi (.ins (T c) dx (putF (nm fi) w vs))
          exact q' ρ2 _ _ x1 (s2.to x1 (s2.hr.set g hi ⟨dx, _, upd_same, (h4.ext x1).put ((r1.ext e2).ext x1)⟩))
        · rw [if_neg z] at q'; exact q'.elim
      | _ => exact q'.elim
  | _ => exact q2.elim
theorem js_fldaug {op : Operator} {g : Int → Int → Int} (ho : JE X T E o go) (hv : JE X T E value ge) (k : FldOk X.K T cs fi) (hf : f = nm fi)
    (hop : InOp X op (fun x y H Q => ∃ i j, x = .int i ∧ y = .int j ∧ Q (.int (g i j)) H)) :
    JS X T E (.AugAssign (.Attribute o f tpos) op value pos) (gFldAug cs fi g go ge) := by
  refine PS.le (ps_fldaug ho hv hop) fun D σ H ⟨ρ, m, h, s, q⟩ => sE s q fun ρ1 h1 H1 x v s1 e1 r1 q1 => ?_
  obtain ⟨i, a, c, fs, dx, vs, y, w, rfl, rfl, hi, g1, hc, h3, _, l2, l3, q2⟩ := fld_ok (α := Unit) (R := fun _ => True) s1.hr r1 D q1
  obtain ⟨k1, k2⟩ := k c hc
  subst hf
  refine ⟨a, T c, dx, vs, w, rfl, h3, k1, k2, l2, sE s1 q2 fun ρ2 h2 H2 y2 w2 s2 e2 r2 q3 => ?_⟩
  have l4 := l3.ext e2
  clear l3
  cases l4 with
  | int p =>
    cases r2 with
    | int q0 =>
      refine ⟨p, q0, rfl, rfl, ?_⟩
      have q' : PostS ⟨X.K, T⟩ ρ2 H2 D E (match h1.get i, h2.get i with
        | some (.ins c0 _), some (.ins c fs) => if c = c0 ∧ fs.length < 900 then .nx m (h2.set i (.ins c (mput fi (.int (g p q0)) fs))) else .bad
        | _, _ => .bad) := q3
      rw [g1] at q'
      have hi2 := e2.at hi
      cases gg : h2.get i with
      | none => rw [gg] at q'; exact q'.elim
      | some ob =>
        rw [gg] at q'
        cases ob with
        | ins c' fs' =>
          dsimp only at q'
          by_cases z : c' = c ∧ fs'.length < 900
          · rw [if_pos z] at q'
            obtain ⟨rfl, z⟩ := z
            obtain ⟨dx', vs', h5, h6⟩ := s2.hr.obj gg hi2
            refine ⟨dx', vs', h5, by rw [← h6.length]; omega, ?_⟩
            have x1 := s2.hr.grow gg hi2 (.ins (T c') dx' (putF (nm fi) (.int (g p q0)) vs'))
            exact q' ρ2 _ _ x1 (s2.to x1 (s2.hr.set gg hi2 ⟨dx', _, upd_same, (h6.ext x1).put (.int _)⟩))
          · rw [if_neg z] at q'; exact q'.elim
        | _ => exact q'.elim
    | _ => exact q3.elim
  | _ => exact q3.elim
theorem aug_add : InOp X .Add (fun x y H Q => ∃ i j, x = .int i ∧ y = .int j ∧ Q (.int (i + j)) H) := in_add
theorem aug_sub : InOp X .Sub (fun x y H Q => ∃ i j, x = .int i ∧ y = .int j ∧ Q (.int (i - j)) H) := in_sub
end
def seqOf (h : MH) : MV → Option (List MV)
  | .tup xs => some xs
  | .ktp xs => some xs
  | .fls xs => some xs
  | .ref i => match h.get i with
    | some (.lst xs) => some xs
    | _ => none
  | _ => none
def isL : MV → Bool
  | .tup _ => false
  | .ktp _ => false
  | _ => true
theorem seqOf_ok {Z : Zt} {ρ : List Addr} {h : MH} {H : Hp} {x : MV} {v : V} {xs : List MV} (R : HR Z ρ h H) (r : RV Z ρ H x v) (e : seqOf h x = some xs) :
    ∃ a vs, v = .ref a ∧ RVs Z ρ H xs vs ∧ if isL x = true then SqL Z.K H a vs else SqT Z.K H a vs := by
  cases r with
  | tup h1 r1 => cases e; exact ⟨_, _, rfl, r1, .inl (.inl h1)⟩
  | ktp h1 r1 => cases e; exact ⟨_, _, rfl, r1, ktp_sq h1⟩
  | fls h1 r1 => cases e; exact ⟨_, _, rfl, r1, h1.sq⟩
  | @ref i a hi =>
    dsimp only [seqOf] at e
    cases g : h.get i with
    | none => rw [g] at e; cases e
    | some o =>
      rw [g] at e
      cases o with
      | lst ys =>
        cases e
        obtain ⟨vs, h1, h2⟩ := R.obj g hi
        exact ⟨a, vs, rfl, h2, .inl (.inl h1)⟩
      | _ => cases e
  | _ => cases e
theorem seqOf_or {Z : Zt} {ρ : List Addr} {h : MH} {H : Hp} {x : MV} {v : V} {xs : List MV} (R : HR Z ρ h H) (r : RV Z ρ H x v) (e : seqOf h x = some xs) :
    ∃ a vs, v = .ref a ∧ RVs Z ρ H xs vs ∧ (SqL Z.K H a vs ∨ SqT Z.K H a vs) := by
  obtain ⟨a, vs, h1, h2, h3⟩ := seqOf_ok R r e
  refine ⟨a, vs, h1, h2, ?_⟩
  split at h3
  · exact .inl h3
  · exact .inr h3
def mTru (h : MH) : MV → Option Bool
  | .non => some false
  | .bl b => some b
  | .int i => some (i != 0)
  | .str s => if s.length ≤ 1000000 then some (!s.isEmpty) else none
  | .ref i => match h.get i with
    | some (.lst xs) => some (!xs.isEmpty)
    | some (.dic kvs) => some (!kvs.isEmpty)
    | _ => none
  | x => (seqOf h x).map fun xs => !xs.isEmpty
def gTru (a : ME) : MT := fun m h => (a m h).bind fun x h1 => match mTru h1 x with
  | some b => .ok b h1
  | none => .bad
theorem RVs.emp {Z : Zt} {ρ : List Addr} {H : Hp} {xs : List MV} {vs : List V} (r : RVs Z ρ H xs vs) : (!xs.isEmpty) = !vs.isEmpty := by cases r <;> rfl
theorem RKs.emp {κ κ' : Type} {f : κ → κ'} {Z : Zt} {ρ : List Addr} {H : Hp} {xs : List (κ × MV)} {vs : List (κ' × V)} (r : RKs f Z ρ H xs vs) : (!xs.isEmpty) = !vs.isEmpty := by cases r <;> rfl
theorem mTru_ok {Z : Zt} {ρ : List Addr} {h : MH} {H : Hp} {x : MV} {v : V} {b : Bool} (R : HR Z ρ h H) (r : RV Z ρ H x v) (e : mTru h x = some b) : TruV Z.K v H b := by
  cases r with
  | non => cases e; exact rfl
  | bl c => cases e; exact rfl
  | int i => cases e; exact rfl
  | str s =>
    dsimp only [mTru] at e
    split at e
    · cases e
      refine ⟨?_, ?_⟩
      · show s.toArray.size ≤ sizeLine
        rw [sizeLine_eq]; simp; omega
      · show (!s.isEmpty) = ((s.toArray.size : Int) != 0)
        cases s with
        | nil => rfl
        | cons c l => simp; omega
    · cases e
  | tup h1 r1 => cases e; exact .inr (.inl ⟨_, .inl (.inl h1), r1.emp⟩)
  | ktp h1 r1 => cases e; exact .inr (.inl ⟨_, ktp_sq h1, r1.emp⟩)
  | fls h1 r1 => cases e; exact .inl ⟨_, h1.sq, r1.emp⟩
  | @ref i a hi =>
    dsimp only [mTru] at e
    cases g : h.get i with
    | none => rw [g] at e; cases e
    | some o =>
      rw [g] at e
      cases o with
      | lst ys =>
        cases e
        obtain ⟨vs, h1, h2⟩ := R.obj g hi
        exact .inl ⟨vs, .inl (.inl h1), h2.emp⟩
      | dic ys =>
        cases e
        obtain ⟨vs, h1, h2⟩ := R.obj g hi
        exact .inr (.inr ⟨vs, h1, h2.emp⟩)
      | _ => cases e
  | _ => cases e
section
variable {X : Cx} {T : Nat → Addr} {E : XK} {o e a : Expr} {pos : Pos} {go ge ga : ME}
theorem jt_tru (ha : JE X T E a ga) (he : ∀ whole, isTrue a X.env whole = (do let v ← whole; standAt a.pos; holding [v] (truthy v)) := by intro _; rfl) : JT X T E a (gTru ga) :=
  PT.le (pt_truth ha he) fun σ H Q ⟨ρ, m, h, s, q⟩ => stepE s q fun ρ1 h1 H1 x v s1 e1 r1 q1 => by
    cases k : mTru h1 x with
    | none => rw [k] at q1; exact q1.elim
    | some b => rw [k] at q1; exact ⟨b, mTru_ok s1.hr r1 k, q1.ok s1.hr rfl⟩
end
def mLen (h : MH) : MV → Option Nat
  | .str s => if s.length ≤ 1000000 then some s.length else none
  | .ref i => match h.get i with
    | some (.lst xs) => some xs.length
    | some (.dic kvs) => some kvs.length
    | _ => none
  | x => (seqOf h x).map List.length
end MI
set_option Elab.async false
set_option linter.all false
set_option maxRecDepth 100000
set_option maxHeartbeats 4000000
namespace MI
open PySem PySem.Spec PyProof.Rows L2 JB
def mkey : MV → Option MK
  | .int i => some (.inl i)
  | .str s => some (.inr s)
  | _ => none
def keq : MK → MK → Bool
  | .inl i, .inl j => decide (i = j)
  | .inr s, .inr t => leq s t
  | _, _ => false
theorem keq_iff : ∀ {a b : MK}, keq a b = true ↔ kOf a = kOf b
  | .inl i, .inl j => by simp [keq, kOf]
  | .inr s, .inr t => by
    show leq s t = true ↔ _
    rw [leq_iff]
    simp [kOf]
  | .inl _, .inr _ => by simp [keq, kOf]
  | .inr _, .inl _ => by simp [keq, kOf]
def keqs : List MK → List MK → Bool
  | [], [] => true
  | a :: l, b :: r => keq a b && keqs l r
  | _, _ => false
theorem keqs_iff : ∀ {a b : List MK}, keqs a b = true ↔ a.map kOf = b.map kOf
  | [], [] => by simp [keqs]
  | a :: l, b :: r => by simp [keqs, keq_iff, keqs_iff (a := l) (b := r)]
  | [], _ :: _ => by simp [keqs]
  | _ :: _, [] => by simp [keqs]
theorem mkey_ok {Z : Zt} {ρ : List Addr} {H : Hp} {x : MV} {v : V} {k : MK} (r : RV Z ρ H x v) (e : mkey x = some k) : v = kV (kOf k) := by
  cases r <;> cases e <;> rfl
def mkeys : List MV → Option (List MK)
  | [] => some []
  | x :: xs => match mkey x, mkeys xs with
    | some k, some ks => some (k :: ks)
    | _, _ => none
theorem mkeys_ok {Z : Zt} {ρ : List Addr} {H : Hp} : ∀ {xs : List MV} {vs : List V} {ks : List MK}, RVs Z ρ H xs vs → mkeys xs = some ks → vs = (ks.map kOf).map kV
  | _, _, ks, .nil, e => by cases e; rfl
  | _, _, ks, .cons (x := x) (xs := xs) a r, e => by
    dsimp only [mkeys] at e
    cases k1 : mkey x with
    | none => rw [k1] at e; cases e
    | some k =>
      cases k2 : mkeys xs with
      | none => rw [k1, k2] at e; cases e
      | some ks' =>
        rw [k1, k2] at e
        cases e
        rw [mkey_ok a k1, mkeys_ok r k2]; rfl
section
variable {κ κ' : Type} [DecidableEq κ'] (e : κ → κ → Bool)
def dval : List (κ × MV) → κ → Option MV
  | [], _ => none
  | (g, x) :: r, k => if e g k = true then some x else dval r k
def dhas : List (κ × MV) → κ → Bool
  | [], _ => false
  | (g, _) :: r, k => if e g k = true then true else dhas r k
def dset (k : κ) (v : MV) : List (κ × MV) → List (κ × MV)
  | [] => []
  | (g, x) :: r => if e g k = true then (g, v) :: dset k v r else (g, x) :: dset k v r
def dput (kvs : List (κ × MV)) (k : κ) (v : MV) : List (κ × MV) := if dhas e kvs k = true then dset e k v kvs else kvs ++ [(k, v)]
variable {e} {f : κ → κ'} {Z : Zt} {ρ : List Addr} {H : Hp}
theorem dval_ok (he : ∀ a b, e a b = true ↔ f a = f b) {xs : List (κ × MV)} {vs : List (κ' × V)} (r : RKs f Z ρ H xs vs) (k : κ) :
    (dval e xs k = none ∧ valV vs (f k) = none) ∨ ∃ x v, dval e xs k = some x ∧ valV vs (f k) = some v ∧ RV Z ρ H x v := by
  induction r with
  | nil => exact .inl ⟨rfl, rfl⟩
  | @cons g x v xs vs a r ih =>
    by_cases z : e g k = true
    · exact .inr ⟨x, v, if_pos z, valV_pos ((he _ _).mp z), a⟩
    · have z' : ¬ f g = f k := fun q => z ((he _ _).mpr q)
      rw [valV_neg z']
      show (((if e g k = true then some x else dval e xs k) = none) ∧ _) ∨ ∃ y v, ((if e g k = true then some x else dval e xs k) = some y) ∧ _
      rw [if_neg z]
      exact ih
theorem dhas_ok (he : ∀ a b, e a b = true ↔ f a = f b) {xs : List (κ × MV)} {vs : List (κ' × V)} (r : RKs f Z ρ H xs vs) (k : κ) : dhas e xs k = vs.any fun kv => decide (kv.1 = f k) := by
  induction r with
  | nil => rfl
  | @cons g x v xs vs a r ih =>
    rw [List.any_cons]
    show (if e g k = true then true else dhas e xs k) = _
    by_cases z : e g k = true
    · rw [if_pos z, decide_eq_true ((he _ _).mp z), Bool.true_or]
    · rw [if_neg z, decide_eq_false (fun q => z ((he _ _).mpr q)), Bool.false_or]; exact ih
theorem dset_ok (he : ∀ a b, e a b = true ↔ f a = f b) {xs : List (κ × MV)} {vs : List (κ' × V)} (r : RKs f Z ρ H xs vs) {k : κ} {y : MV} {w : V} (q : RV Z ρ H y w) :
    RKs f Z ρ H (dset e k y xs) (vs.map fun kv => if kv.1 = f k then (kv.1, w) else kv) := by
  induction r with
  | nil => exact .nil
  | @cons g x v xs vs a r ih =>
    rw [List.map_cons]
    show RKs f Z ρ H (if e g k = true then (g, y) :: dset e k y xs else (g, x) :: dset e k y xs) ((if f g = f k then (f g, w) else (f g, v)) :: _)
    by_cases z : e g k = true
    · rw [if_pos z, if_pos ((he _ _).mp z)]; exact .cons q ih
    · rw [if_neg z, if_neg (fun q => z ((he _ _).mpr q))]; exact .cons a ih
theorem RKs.snoc {xs : List (κ × MV)} {vs : List (κ' × V)} (r : RKs f Z ρ H xs vs) {k : κ} {y : MV} {w : V} (q : RV Z ρ H y w) : RKs f Z ρ H (xs ++ [(k, y)]) (vs ++ [(f k, w)]) := by
  induction r with
  | nil => exact .cons q .nil
  | cons a _ ih => exact .cons a ih
theorem dput_ok (he : ∀ a b, e a b = true ↔ f a = f b) {xs : List (κ × MV)} {vs : List (κ' × V)} (r : RKs f Z ρ H xs vs) {k : κ} {y : MV} {w : V} (q : RV Z ρ H y w) : RKs f Z ρ H (dput e xs k y) (putK vs (f k) w) := by
  unfold dput putK
  rw [dhas_ok he r k]
  split
  · exact dset_ok he r q
  · exact r.snoc q
end
theorem gBin_or {f f1 f2 : MV → MV → MH → Out MV} (k : ∀ x y h, f x y h = f1 x y h ∨ f x y h = f2 x y h) (a b : ME) (m : ML) (h : MH) : gBin f a b m h = gBin f1 a b m h ∨ gBin f a b m h = gBin f2 a b m h := by
  unfold gBin
  cases a m h with
  | bad => exact .inl rfl
  | er _ _ => exact .inl rfl
  | ok x h1 =>
    show (Out.bind (b m h1) _ = Out.bind (b m h1) _) ∨ _
    show ((b m h1).bind (fun y h2 => f x y h2) = (b m h1).bind fun y h2 => f1 x y h2) ∨ ((b m h1).bind (fun y h2 => f x y h2) = (b m h1).bind fun y h2 => f2 x y h2)
    cases b m h1 with
    | bad => exact .inl rfl
    | er _ _ => exact .inl rfl
    | ok y h2 => exact k x y h2
section
variable {X : Cx} {T : Nat → Addr} {E : XK} {e a b : Expr} {ga gb : ME} {f f1 f2 : MV → MV → MH → Out MV}
theorem PE.or {t t' : TE} (p : PE X e t) (q : PE X e t') : PE X e (fun σ H Q => t σ H Q ∨ t' σ H Q) := ⟨fun pins s σ H Q I h => h.elim (p.run pins s σ H Q I) (q.run pins s σ H Q I)⟩
theorem PT.or {t t' : TT} (p : PT X e t) (q : PT X e t') : PT X e (fun σ H Q => t σ H Q ∨ t' σ H Q) := ⟨fun pins s σ H Q I h => h.elim (p.run pins s σ H Q I) (q.run pins s σ H Q I)⟩
theorem je_bin_or (p : JE X T E e (gBin f1 ga gb)) (q : JE X T E e (gBin f2 ga gb)) (k : ∀ x y h, f x y h = f1 x y h ∨ f x y h = f2 x y h) : JE X T E e (gBin f ga gb) :=
  PE.le (PE.or p q) fun σ H Q ⟨ρ, m, h, s, z⟩ => by
    rcases gBin_or k ga gb m h with w | w
    · rw [w] at z; exact .inl ⟨ρ, m, h, s, z⟩
    · rw [w] at z; exact .inr ⟨ρ, m, h, s, z⟩
theorem jt_bin_or (p : JT X T E e (gB (gBin f1 ga gb))) (q : JT X T E e (gB (gBin f2 ga gb))) (k : ∀ x y h, f x y h = f1 x y h ∨ f x y h = f2 x y h) : JT X T E e (gB (gBin f ga gb)) :=
  PT.le (PT.or p q) fun σ H Q ⟨ρ, m, h, s, z⟩ => by
    unfold gB at z
    rcases gBin_or k ga gb m h with w | w
    · rw [w] at z; exact .inl ⟨ρ, m, h, s, z⟩
    · rw [w] at z; exact .inr ⟨ρ, m, h, s, z⟩
end
def isD (h : MH) : MV → Bool
  | .ref i => match h.get i with
    | some (.dic _) => true
    | some (.dit _) => true
    | some (.fdi _) => true
    | _ => false
  | _ => false
def oV (o : Option MV) (h : MH) : Out MV := match o with
  | some v => .ok v h
  | none => .bad
def mIxS (x y : MV) (h : MH) : Out MV := match y with
  | .int i => match x with
    | .str s => if s.length ≤ 1000000 then oV ((atI s i).map fun c => .str [c]) h else .bad
    | x => match seqOf h x with
      | some xs => oV (atI xs i) h
      | none => .bad
  | _ => .bad
def dGet (h : MH) (x y : MV) : Option (Option MV) := match x with
  | .ref i => match h.get i with
    | some (.dic kvs) => (mkey y).map fun k => dval keq kvs k
    | some (.fdi kvs) => (mkey y).map fun k => dval keq kvs k
    | some (.dit kvs) => match y with
      | .tup ys => (mkeys ys).map fun k => dval keqs kvs k
      | _ => none
    | _ => none
  | _ => none
def mIxD (x y : MV) (h : MH) : Out MV := match dGet h x y with
  | some o => oV o h
  | none => .bad
def mIx (x y : MV) (h : MH) : Out MV := if isD h x = true then mIxD x y h else mIxS x y h
theorem dGet_ok {Z : Zt} {ρ : List Addr} {h : MH} {H : Hp} {x y : MV} {v w : V} {o : Option MV} (R : HR Z ρ h H) (r : RV Z ρ H x v) (q : RV Z ρ H y w) (e : dGet h x y = some o) :
    ∃ a o', v = .ref a ∧ DGet H a w o' ∧ ((o = none ∧ o' = none) ∨ ∃ z u, o = some z ∧ o' = some u ∧ RV Z ρ H z u) := by
  cases r with
  | @ref i a hi =>
    dsimp only [dGet] at e
    cases g : h.get i with
    | none => rw [g] at e; cases e
    | some ob =>
      rw [g] at e
      cases ob with
      | dic kvs =>
        dsimp only at e
        obtain ⟨vs, h1, h2⟩ := R.obj g hi
        cases k : mkey y with
        | none => rw [k] at e; cases e
        | some k' =>
          rw [k] at e
          cases e
          rw [mkey_ok q k]
          exact ⟨a, _, rfl, DGet.k h1, dval_ok (e := keq) (f := kOf) (fun a b => keq_iff) h2 k'⟩
      | fdi kvs =>
        dsimp only at e
        obtain ⟨od, vs, h1, h2⟩ := R.obj g hi
        cases k : mkey y with
        | none => rw [k] at e; cases e
        | some k' =>
          rw [k] at e
          cases e
          rw [mkey_ok q k]
          exact ⟨a, _, rfl, .inl ⟨vs, kOf k', .inr ⟨od, h1⟩, rfl, rfl⟩, dval_ok (e := keq) (f := kOf) (fun a b => keq_iff) h2 k'⟩
      | dit kvs =>
        dsimp only at e
        obtain ⟨vs, h1, h2⟩ := R.obj g hi
        cases q with
        | tup h3 r3 =>
          dsimp only at e
          rename_i b ys ws
          cases k : mkeys ys with
          | none => rw [k] at e; cases e
          | some k' =>
            rw [k] at e
            cases e
            have hw := mkeys_ok r3 k
            subst hw
            exact ⟨a, _, rfl, DGet.t (k := k'.map kOf) h1 h3, dval_ok (e := keqs) (f := List.map kOf) (fun a b => keqs_iff) h2 k'⟩
        | _ => cases e
      | _ => cases e
  | _ => cases e
theorem RVs.len_get {Z : Zt} {ρ : List Addr} {H : Hp} {xs : List MV} {vs : List V} (r : RVs Z ρ H xs vs) {i : Int} {x : MV} (e : atI xs i = some x) : ∃ v, atI vs i = some v ∧ RV Z ρ H x v := by
  unfold atI at e ⊢
  rw [← r.length]
  cases k : ixN xs.length i with
  | none => rw [k] at e; cases e
  | some j =>
    rw [k] at e
    exact r.get e
theorem om_ixS {Z : Zt} {E : XK} : OpM Z E mIxS (rIx Z.K) := fun ρ h H x y v w Q R r q p => by
  cases q with
  | int i =>
    by_cases hs : ∃ s, x = .str s
    · obtain ⟨s, rfl⟩ := hs
      cases r
      have p' : Post Z (rV Z) ρ H Q E (if s.length ≤ 1000000 then oV ((atI s i).map fun c => .str [c]) h else .bad) := p
      by_cases z : s.length ≤ 1000000
      · rw [if_pos z] at p'
        cases k : atI s i with
        | none => rw [k] at p'; exact p'.elim
        | some c =>
          rw [k] at p'
          exact .inr (.inr ⟨_, i, c, rfl, rfl, by show s.toArray.size ≤ sizeLine; rw [sizeLine_eq]; simp; omega, k, Post.ok (R := rV Z) (a := .str [c]) p' R (.str [c])⟩)
      · rw [if_neg z] at p'; exact p'.elim
    · have p' : Post Z (rV Z) ρ H Q E (match seqOf h x with
        | some xs => oV (atI xs i) h
        | none => .bad) := by
        cases x <;> first
          | exact absurd ⟨_, rfl⟩ hs
          | exact p
      cases k : seqOf h x with
      | none => rw [k] at p'; exact p'.elim
      | some xs =>
        rw [k] at p'
        dsimp only at p'
        obtain ⟨a, vs, rfl, r2, hq⟩ := seqOf_or R r k
        cases k2 : atI xs i with
        | none => rw [k2] at p'; exact p'.elim
        | some z =>
          rw [k2] at p'
          obtain ⟨u, h1, h2⟩ := r2.len_get k2
          have fin := Post.ok (R := rV Z) (a := z) p' R h2
          rcases hq with hq | hq
          · exact .inl ⟨a, vs, i, u, rfl, rfl, hq, h1, fin⟩
          · exact .inr (.inl ⟨a, vs, i, u, rfl, rfl, hq, h1, fin⟩)
  | _ => exact p.elim
section
variable {X : Cx} {T : Nat → Addr} {E : XK} {e a b o i value : Expr} {ga gb gv go gi : ME} {pos pos' : Pos}
theorem je_ixS (ha : JE X T E a ga) (hb : JE X T E b gb) (hs : PlainIx b := by intro _ _; rfl) : JE X T E (.Subscript a b pos) (gBin mIxS ga gb) := PE.le (pe_ix ix_seq ha hb hs) (le_op om_ixS)
theorem je_ixD (hu : X.A.units + 1 < cLine) (ha : JE X T E a ga) (hb : JE X T E b gb) (hs : NoSl b := by intro _ _; rfl) : JE X T E (.Subscript a b pos) (gBin mIxD ga gb) :=
  PE.le (pe_dget hu ha hb hs) fun σ H Q ⟨ρ, m, h, s, q⟩ => stepE s q fun ρ1 h1 H1 x v s1 e1 r1 q1 => stepE s1 q1 fun ρ2 h2 H2 y w s2 e2 r2 q2 => by
    unfold mIxD at q2
    cases k : dGet h2 x y with
    | none => rw [k] at q2; exact q2.elim
    | some oo =>
      rw [k] at q2
      obtain ⟨aa, o', rfl, h3, h4⟩ := dGet_ok s2.hr (r1.ext e2) r2 k
      rcases h4 with ⟨rfl, rfl⟩ | ⟨z, u, rfl, rfl, h5⟩
      · exact q2.elim
      · exact ⟨aa, u, rfl, h3, Post.ok (R := rV ⟨X.K, T⟩) (a := z) q2 s2.hr h5⟩
theorem je_ix (hu : X.A.units + 1 < cLine) (ha : JE X T E a ga) (hb : JE X T E b gb) (hs : PlainIx b := by intro _ _; rfl) (hs2 : NoSl b := by intro _ _; rfl) : JE X T E (.Subscript a b pos) (gBin mIx ga gb) :=
  je_bin_or (je_ixD hu ha hb hs2) (je_ixS ha hb hs) fun x y h => by
    unfold mIx
    split
    · exact .inl rfl
    · exact .inr rfl
def mflat : MV → Bool
  | .non => true
  | .int _ => true
  | .str _ => true
  | _ => false
def mEqF : MV → MV → Bool
  | .non, .non => true
  | .int i, .int j => decide (i = j)
  | .str s, .str t => leq s t
  | _, _ => false
def mhas (x : MV) : List MV → Option Bool
  | [] => some false
  | y :: ys => if mflat y = true then (mhas x ys).map fun b => mEqF y x || b else none
def mInS (x y : MV) (h : MH) : Out MV := match y with
  | .str t => match x with
    | .str [c] => .ok (.bl (t.contains c)) h
    | _ => .bad
  | y => match seqOf h y with
    | some ys => if mflat x = true then oB (mhas x ys) h else .bad
    | none => .bad
def mInK (k : Bool → Bool) (x y : MV) (h : MH) : Out MV := (mInS x y h).bind fun b h => match b with
  | .bl b => .ok (.bl (k b)) h
  | _ => .bad
def mInD (k : Bool → Bool) (x y : MV) (h : MH) : Out MV := match dGet h y x with
  | some o => .ok (.bl (k o.isSome)) h
  | none => .bad
def mIn (k : Bool → Bool) (x y : MV) (h : MH) : Out MV := if isD h y = true then mInD k x y h else mInK k x y h
theorem mhas_ok {Z : Zt} {ρ : List Addr} {H : Hp} {x : MV} {v : V} (r : RV Z ρ H x v) (fx : mflat x = true) : ∀ {ys : List MV} {ws : List V} {b : Bool}, RVs Z ρ H ys ws → mhas x ys = some b → flatV v = true ∧ ws.all flatV = true ∧ inV v ws = b
  | _, _, b, .nil, e => by
    cases e
    exact ⟨(by cases r <;> first | rfl | cases fx), rfl, rfl⟩
  | _, _, b, .cons (x := y) (v := w) a r2, e => by
    dsimp only [mhas] at e
    by_cases fy : mflat y = true
    · rw [if_pos fy] at e
      obtain ⟨b', e1, rfl⟩ := Option.map_eq_some_iff.mp e
      obtain ⟨h1, h2, h3⟩ := mhas_ok r fx r2 e1
      refine ⟨h1, ?_, ?_⟩
      · rw [List.all_cons, h2, Bool.and_true]
        cases a <;> first | rfl | cases fy
      · show (eqV w v || inV v _) = _
        rw [h3]
        have : eqV w v = mEqF y x := by
          cases a <;> first
            | (cases fy; done)
            | (cases r <;> first
                | (cases fx; done)
                | rfl
                | (show (_ == _) = leq _ _
                   rw [Bool.eq_iff_iff, leq_iff]; simp)
                | (show (_ == _) = decide _
                   rw [Bool.eq_iff_iff]; simp))
        rw [this]
    · rw [if_neg fy] at e; cases e
abbrev rInM (K : PySem.W.Frag) : R2 := fun x y H Q => rIn K false x y H Q ∨ ∃ (c : Nat) (z : Str), x = .str ⟨#[c]⟩ ∧ y = .str z ∧ Q (.bl (decide (c ∈ z.cps.toList))) H
abbrev rNinM (K : PySem.W.Frag) : R2 := fun x y H Q => rIn K true x y H Q ∨ ∃ (c : Nat) (z : Str), x = .str ⟨#[c]⟩ ∧ y = .str z ∧ Q (.bl (!decide (c ∈ z.cps.toList))) H
theorem mInS_ok {Z : Zt} {ρ : List Addr} {h : MH} {H : Hp} {x y : MV} {v w : V} {E : XK} {Q : VK} {k : Bool → Bool} (R : HR Z ρ h H) (r : RV Z ρ H x v) (q : RV Z ρ H y w)
    (p : Post Z (rV Z) ρ H Q E ((mInS x y h).bind fun b h => match b with
      | .bl b => .ok (.bl (k b)) h
      | _ => .bad)) :
    (∃ p xs, w = .ref p ∧ (SqL Z.K H p xs ∨ SqT Z.K H p xs) ∧ flatV v = true ∧ xs.all flatV = true ∧ Q (.bl (k (inV v xs))) H) ∨ ∃ (c : Nat) (z : Str), v = .str ⟨#[c]⟩ ∧ w = .str z ∧ Q (.bl (k (decide (c ∈ z.cps.toList)))) H := by
  by_cases hs : ∃ s, y = .str s
  · obtain ⟨s, rfl⟩ := hs
    cases q
    by_cases hx : ∃ c, x = .str [c]
    · obtain ⟨c, rfl⟩ := hx
      cases r
      refine .inr ⟨c, _, rfl, rfl, ?_⟩
      have p' : Post Z (rV Z) ρ H Q E (.ok (.bl (k (s.contains c))) h) := p
      have e : decide (c ∈ (⟨s.toArray⟩ : Str).cps.toList) = s.contains c := by
        show decide (c ∈ s) = _
        rw [Bool.eq_iff_iff]; simp
      rw [e]
      exact p'.ok R (.bl _)
    · have : mInS x (.str s) h = .bad := by
        cases x with
        | str t =>
          cases t with
          | nil => rfl
          | cons c l =>
            cases l with
            | nil => exact absurd ⟨c, rfl⟩ hx
            | cons _ _ => rfl
        | _ => rfl
      rw [this] at p
      exact p.elim
  · have e : mInS x y h = (match seqOf h y with
      | some ys => if mflat x = true then oB (mhas x ys) h else .bad
      | none => .bad) := by
      cases y <;> first
        | exact absurd ⟨_, rfl⟩ hs
        | rfl
    rw [e] at p
    cases g : seqOf h y with
    | none => rw [g] at p; exact p.elim
    | some ys =>
      rw [g] at p
      dsimp only at p
      by_cases fx : mflat x = true
      · rw [if_pos fx] at p
        cases g2 : mhas x ys with
        | none => rw [g2] at p; exact p.elim
        | some b =>
          rw [g2] at p
          obtain ⟨a, ws, rfl, r2, hq⟩ := seqOf_or R q g
          obtain ⟨h1, h2, h3⟩ := mhas_ok r fx r2 g2
          have p' : Post Z (rV Z) ρ H Q E (.ok (.bl (k b)) h) := p
          exact .inl ⟨a, ws, rfl, hq, h1, h2, by rw [h3]; exact p'.ok R (.bl _)⟩
      · rw [if_neg fx] at p; exact p.elim
theorem om_in {Z : Zt} {E : XK} : OpM Z E (mInK fun b => b) (rInM Z.K) := fun ρ h H x y v w Q R r q p => by
  rcases mInS_ok (k := fun b => b) R r q p with ⟨a, xs, h1, h2, h3, h4, h5⟩ | z
  · exact .inl ⟨a, xs, h1, h2, h3, h4, h5⟩
  · exact .inr z
theorem om_nin {Z : Zt} {E : XK} : OpM Z E (mInK fun b => !b) (rNinM Z.K) := fun ρ h H x y v w Q R r q p => by
  rcases mInS_ok (k := fun b => !b) R r q p with ⟨a, xs, h1, h2, h3, h4, h5⟩ | z
  · exact .inl ⟨a, xs, h1, h2, h3, h4, h5⟩
  · exact .inr z
theorem le_inD : ∀ σ H Q, tE ⟨X.K, T⟩ E (gBin (mInD fun b => b) ga gb) σ H Q → tDIn (tE ⟨X.K, T⟩ E ga) (tE ⟨X.K, T⟩ E gb) σ H Q := fun σ H Q ⟨ρ, m, h, s, q⟩ =>
  stepE s q fun ρ1 h1 H1 x v s1 e1 r1 q1 => stepE s1 q1 fun ρ2 h2 H2 y w s2 e2 r2 q2 => by
    unfold mInD at q2
    cases k : dGet h2 y x with
    | none => rw [k] at q2; exact q2.elim
    | some oo =>
      rw [k] at q2
      obtain ⟨aa, o', rfl, h3, h4⟩ := dGet_ok s2.hr r2 (r1.ext e2) k
      have e : o'.isSome = oo.isSome := by rcases h4 with ⟨rfl, rfl⟩ | ⟨z, u, rfl, rfl, _⟩ <;> rfl
      exact ⟨aa, o', rfl, h3, by rw [e]; exact Post.ok (R := rV ⟨X.K, T⟩) (a := .bl oo.isSome) q2 s2.hr (.bl _)⟩
theorem le_ninD : ∀ σ H Q, tE ⟨X.K, T⟩ E (gBin (mInD fun b => !b) ga gb) σ H Q → tDNotIn (tE ⟨X.K, T⟩ E ga) (tE ⟨X.K, T⟩ E gb) σ H Q := fun σ H Q ⟨ρ, m, h, s, q⟩ =>
  stepE s q fun ρ1 h1 H1 x v s1 e1 r1 q1 => stepE s1 q1 fun ρ2 h2 H2 y w s2 e2 r2 q2 => by
    unfold mInD at q2
    cases k : dGet h2 y x with
    | none => rw [k] at q2; exact q2.elim
    | some oo =>
      rw [k] at q2
      obtain ⟨aa, o', rfl, h3, h4⟩ := dGet_ok s2.hr r2 (r1.ext e2) k
      have e : o'.isSome = oo.isSome := by rcases h4 with ⟨rfl, rfl⟩ | ⟨z, u, rfl, rfl, _⟩ <;> rfl
      exact ⟨aa, o', rfl, h3, by rw [e]; exact Post.ok (R := rV ⟨X.K, T⟩) (a := .bl (!oo.isSome)) q2 s2.hr (.bl _)⟩
theorem mIn_or (k : Bool → Bool) (x y : MV) (h : MH) : mIn k x y h = mInD k x y h ∨ mIn k x y h = mInK k x y h := by
  unfold mIn
  split
  · exact .inl rfl
  · exact .inr rfl
theorem jt_in (hu : X.A.units + 1 < cLine) (ha : JE X T E a ga) (hb : JE X T E b gb) (hm : behindInMarks .In b = false := by rfl) : JT X T E (.Compare a [.In] [b] pos) (gB (gBin (mIn fun b => b) ga gb)) :=
  jt_bin_or (PT.le (pt_cmp (pc_din hu ha hb) hm) (le_B le_inD)) (jt_cmp (OpR.or op_in_seq op_in_sign) om_in ha hb hm) (mIn_or _)
theorem jt_notIn (hu : X.A.units + 1 < cLine) (ha : JE X T E a ga) (hb : JE X T E b gb) (hm : behindInMarks .NotIn b = false := by rfl) : JT X T E (.Compare a [.NotIn] [b] pos) (gB (gBin (mIn fun b => !b) ga gb)) :=
  jt_bin_or (PT.le (pt_cmp (pc_dnotin hu ha hb) hm) (le_B le_ninD)) (jt_cmp (OpR.or op_notIn_seq op_notIn_sign) om_nin ha hb hm) (mIn_or _)
def gDic : ME := fun _ h => .ok (.ref h.n) (h.push (.dic []))
theorem je_dic : JE X T E (.Dict [] [] pos) gDic := PE.le pe_dnewK fun σ H Q ⟨ρ, m, h, s, q⟩ p hp =>
  q (ρ ++ [p]) _ _ (Ext.push hp) (s.hr.push hp ⟨[], upd_same, .nil⟩) (.ref (by rw [← s.hr.len]; simp))
def dPutM (h : MH) (x y v : MV) : Option MH := match x with
  | .ref i => match h.get i with
    | some (.dic kvs) => match mkey y with
      | some k => if kvs.length < 1000000 then some (h.set i (.dic (dput keq kvs k v))) else none
      | none => none
    | some (.dit kvs) => match y with
      | .tup ys => match mkeys ys with
        | some k => if kvs.length < 1000000 then some (h.set i (.dit (dput keqs kvs k v))) else none
        | none => none
      | _ => none
    | _ => none
  | _ => none
theorem dPut_ok {Z : Zt} {ρ : List Addr} {h h' : MH} {H : Hp} {x y z : MV} {v w u : V} (R : HR Z ρ h H) (r : RV Z ρ H x v) (q : RV Z ρ H y w) (t : RV Z ρ H z u) (e : dPutM h x y z = some h') :
    ∃ a H', v = .ref a ∧ DPut H a w u H' ∧ Ext ρ H ρ H' ∧ HR Z ρ h' H' := by
  cases r with
  | @ref i a hi =>
    dsimp only [dPutM] at e
    cases g : h.get i with
    | none => rw [g] at e; cases e
    | some ob =>
      rw [g] at e
      cases ob with
      | dic kvs =>
        dsimp only at e
        obtain ⟨vs, h1, h2⟩ := R.obj g hi
        cases k : mkey y with
        | none => rw [k] at e; cases e
        | some k' =>
          rw [k] at e
          dsimp only at e
          split at e
          · rename_i hl
            cases e
            rw [mkey_ok q k]
            refine ⟨a, _, rfl, DPut.k h1 (by rw [← h2.length, sizeLine_eq]; omega), R.grow g hi _, R.set g hi ⟨_, upd_same, ?_⟩⟩
            have x1 := R.grow g hi (.dK (putK vs (kOf k') u))
            exact dput_ok (e := keq) (f := kOf) (fun a b => keq_iff) (h2.ext x1) (t.ext x1)
          · cases e
      | dit kvs =>
        dsimp only at e
        obtain ⟨vs, h1, h2⟩ := R.obj g hi
        cases q with
        | tup h3 r3 =>
          dsimp only at e
          rename_i b ys ws
          cases k : mkeys ys with
          | none => rw [k] at e; cases e
          | some k' =>
            rw [k] at e
            dsimp only at e
            split at e
            · rename_i hl
              cases e
              have hw := mkeys_ok r3 k
              subst hw
              refine ⟨a, _, rfl, DPut.t (k := k'.map kOf) h1 h3 (by rw [← h2.length, sizeLine_eq]; omega), R.grow g hi _, R.set g hi ⟨_, upd_same, ?_⟩⟩
              have x1 := R.grow g hi (.dT (putK vs (k'.map kOf) u))
              exact dput_ok (e := keqs) (f := List.map kOf) (fun a b => keqs_iff) (h2.ext x1) (t.ext x1)
            · cases e
        | _ => cases e
      | _ => cases e
  | _ => cases e
end
end MI
set_option Elab.async false
set_option linter.all false
set_option maxRecDepth 100000
set_option maxHeartbeats 4000000
namespace MI
open PySem PySem.Spec PyProof.Rows L2 JB
def it1 (xs : List MV) : It1 := ⟨fun _ => xs.length, fun i _ => some xs[i]?⟩
def it1L (j : Nat) : It1 := ⟨fun h => match h.get j with
  | some (.lst xs) => xs.length
  | _ => 0, fun i h => match h.get j with
  | some (.lst xs) => some xs[i]?
  | _ => none⟩
def it1R (lo : Int) (n : Nat) : It1 := ⟨fun _ => n, fun i _ => some (if i < n then some (.int (lo + i)) else none)⟩
def mIter (h : MH) : MV → Option It1
  | .tup xs => some (it1 xs)
  | .ktp xs => some (it1 xs)
  | .fls xs => some (it1 xs)
  | .str s => some (it1 (s.map fun c => .str [c]))
  | .ref j => match h.get j with
    | some (.lst _) => some (it1L j)
    | _ => none
  | _ => none
def gIter (a : ME) : MI1 := fun m h => (a m h).bind fun x h1 => match mIter h1 x with
  | some it => .ok it h1
  | none => .bad
theorem RVs.none {Z : Zt} {ρ : List Addr} {H : Hp} {xs : List MV} {vs : List V} (r : RVs Z ρ H xs vs) {i : Nat} (e : xs[i]? = none) : vs.length ≤ i := by
  rw [← r.length]; exact List.getElem?_eq_none_iff.mp e
section
variable {Z : Zt} {ρ : List Addr} {h : MH} {H : Hp}
theorem rI_tup {a : Addr} {xs : List MV} {vs : List V} (r : RVs Z ρ H xs vs) (k : ∀ ρ' H', Ext ρ H ρ' H' → SqT Z.K H' a vs) : rI Z ρ H (it1 xs) (Itt Z.K a) := by
  intro i ρ' h' H' e R
  show match some xs[i]? with
    | none => True
    | some none => (Itt Z.K a).stop i H'
    | some (some x) => (Itt Z.K a).go i H' ∧ ∀ v H'', (Itt Z.K a).yld i H' v H'' → ∃ ρ'', Ext ρ' H' ρ'' H'' ∧ HR Z ρ'' h' H'' ∧ RV Z ρ'' H'' x v
  cases g : xs[i]? with
  | none => exact ⟨vs, k _ _ e, r.none g⟩
  | some x =>
    obtain ⟨v, h1, h2⟩ := r.get g
    refine ⟨⟨vs, v, k _ _ e, h1⟩, fun w H'' y => ?_⟩
    obtain ⟨rfl, y⟩ := y
    have := y vs (k _ _ e)
    rw [h1] at this
    cases this
    exact ⟨ρ', .refl, R, h2.ext e⟩
theorem rI_lst {a : Addr} {xs : List MV} {vs : List V} (r : RVs Z ρ H xs vs) (k : ∀ ρ' H', Ext ρ H ρ' H' → SqL Z.K H' a vs) : rI Z ρ H (it1 xs) (Itl Z.K a) := by
  intro i ρ' h' H' e R
  show match some xs[i]? with
    | none => True
    | some none => (Itl Z.K a).stop i H'
    | some (some x) => (Itl Z.K a).go i H' ∧ ∀ v H'', (Itl Z.K a).yld i H' v H'' → ∃ ρ'', Ext ρ' H' ρ'' H'' ∧ HR Z ρ'' h' H'' ∧ RV Z ρ'' H'' x v
  cases g : xs[i]? with
  | none => exact ⟨vs, k _ _ e, r.none g⟩
  | some x =>
    obtain ⟨v, h1, h2⟩ := r.get g
    refine ⟨⟨vs, v, k _ _ e, h1⟩, fun w H'' y => ?_⟩
    obtain ⟨rfl, y⟩ := y
    have := y vs (k _ _ e)
    rw [h1] at this
    cases this
    exact ⟨ρ', .refl, R, h2.ext e⟩
theorem rI_ref {a : Addr} {j : Nat} (hj : ρ[j]? = some a) : rI Z ρ H (it1L j) (Itl Z.K a) := by
  intro i ρ' h' H' e R
  show match (match h'.get j with
      | some (.lst xs) => some xs[i]?
      | _ => none) with
    | none => True
    | some none => (Itl Z.K a).stop i H'
    | some (some x) => (Itl Z.K a).go i H' ∧ ∀ v H'', (Itl Z.K a).yld i H' v H'' → ∃ ρ'', Ext ρ' H' ρ'' H'' ∧ HR Z ρ'' h' H'' ∧ RV Z ρ'' H'' x v
  cases g : h'.get j with
  | none => trivial
  | some o =>
    cases o with
    | lst xs =>
      obtain ⟨vs, h1, h2⟩ := R.obj g (e.at hj)
      have sq : SqL Z.K H' a vs := .inl (.inl h1)
      dsimp only
      cases g2 : xs[i]? with
      | none => exact ⟨vs, sq, h2.none g2⟩
      | some x =>
        obtain ⟨v, h3, h4⟩ := h2.get g2
        refine ⟨⟨vs, v, sq, h3⟩, fun w H'' y => ?_⟩
        obtain ⟨rfl, y⟩ := y
        have := y vs sq
        rw [h3] at this
        cases this
        exact ⟨ρ', .refl, R, h4⟩
    | _ => trivial
theorem rI_str {s : List Nat} : rI Z ρ H (it1 (s.map fun c => .str [c])) (Its ⟨s.toArray⟩) := by
  intro i ρ' h' H' e R
  show match some (s.map fun c => MV.str [c])[i]? with
    | none => True
    | some none => (Its ⟨s.toArray⟩).stop i H'
    | some (some x) => (Its ⟨s.toArray⟩).go i H' ∧ ∀ v H'', (Its ⟨s.toArray⟩).yld i H' v H'' → ∃ ρ'', Ext ρ' H' ρ'' H'' ∧ HR Z ρ'' h' H'' ∧ RV Z ρ'' H'' x v
  rw [List.getElem?_map]
  cases g : s[i]? with
  | none =>
    have := List.getElem?_eq_none_iff.mp g
    show s.toArray.size ≤ i
    simpa using this
  | some c =>
    refine ⟨?_, fun w H'' y => ?_⟩
    · have := (List.getElem?_eq_some_iff.mp g).1
      show i < s.toArray.size
      simpa using this
    · obtain ⟨rfl, c', hc, rfl⟩ := y
      have hc' : s.toArray[i]? = some c' := hc
      rw [List.getElem?_toArray, g] at hc'
      cases hc'
      exact ⟨ρ', .refl, R, .str [c]⟩
theorem rI_rng {lo : Int} {n : Nat} : rI Z ρ H (it1R lo n) (Itr lo n) := by
  intro i ρ' h' H' e R
  show match some (if i < n then some (MV.int (lo + i)) else none) with
    | none => True
    | some none => (Itr lo n).stop i H'
    | some (some x) => (Itr lo n).go i H' ∧ ∀ v H'', (Itr lo n).yld i H' v H'' → ∃ ρ'', Ext ρ' H' ρ'' H'' ∧ HR Z ρ'' h' H'' ∧ RV Z ρ'' H'' x v
  by_cases hi : i < n
  · rw [if_pos hi]
    refine ⟨hi, fun w H'' y => ?_⟩
    obtain ⟨rfl, rfl⟩ := y
    exact ⟨ρ', .refl, R, .int _⟩
  · rw [if_neg hi]
    exact Nat.le_of_not_lt hi
end
section
variable {X : Cx} {T : Nat → Addr} {E : XK} {e a tg : Expr} {es : List Expr} {ga : ME} {gr : MA} {pos p : Pos}
theorem PI.or {t t' : TI} (p : PI X tg e t) (q : PI X tg e t') : PI X tg e (fun σ H R => t σ H R ∨ t' σ H R) := ⟨fun pins s σ H R I h => h.elim (p.run pins s σ H R I) (q.run pins s σ H R I)⟩
theorem stepI {Z : Zt} {ρ : List Addr} {m : ML} {h : MH} {σ : L2.St} {H : Hp} {R : It → Hp → Prop} {Q' : V → Hp → Prop} {g : ME} {k : MV → MH → Out It1} (s : SR Z ρ m h σ H) (q : Post Z (rI Z) ρ H R E ((g m h).bind k))
    (n : ∀ ρ1 h1 H1 a v, SR Z ρ1 m h1 σ H1 → Ext ρ H ρ1 H1 → RV Z ρ1 H1 a v → Post Z (rI Z) ρ1 H1 R E (k a h1) → Q' v H1) : tE Z E g σ H Q' := stepE s q n
theorem ji_seq (ha : JE X T E e ga) : JI X T E tg e (gIter ga) := by
  refine PI.le (PI.or (pi_tup ha) (PI.or (pi_list ha) (pi_str ha))) fun σ H R ⟨ρ, m, h, s, q⟩ => ?_
  have key : ∀ c : MV → Bool, (∀ x h1, ga m h = .ok x h1 → c x = true) → ∀ Q' : V → Hp → Prop,
      (∀ ρ1 h1 H1 x v, c x = true → SR ⟨X.K, T⟩ ρ1 m h1 σ H1 → RV ⟨X.K, T⟩ ρ1 H1 x v → Post ⟨X.K, T⟩ (rI ⟨X.K, T⟩) ρ1 H1 R E (match mIter h1 x with
        | some it => Out.ok it h1
        | none => .bad) → Q' v H1) → tE ⟨X.K, T⟩ E ga σ H Q' := by
    intro c hc Q' n
    refine ⟨ρ, m, h, s, ?_⟩
    have q' : Post ⟨X.K, T⟩ (rI ⟨X.K, T⟩) ρ H R E ((ga m h).bind fun x h1 => match mIter h1 x with
        | some it => Out.ok it h1
        | none => .bad) := q
    generalize ga m h = o at q' hc ⊢
    cases o with
    | bad => exact q'
    | er x h1 => exact q'
    | ok x h1 => exact fun ρ1 H1 v e1 r1 rv => n ρ1 h1 H1 x v (hc x h1 rfl) (s.to e1 r1) rv (Post.ext (o := match mIter h1 x with
        | some it => Out.ok it h1
        | none => .bad) q' e1)
  let cT : MV → Bool := fun x => match x with
    | .tup _ => true
    | .ktp _ => true
    | _ => false
  let cS : MV → Bool := fun x => match x with
    | .str _ => true
    | _ => false
  by_cases z : ∀ x h1, ga m h = .ok x h1 → cT x = true
  · refine .inl (key cT z _ fun ρ1 h1 H1 x v c s1 rv q1 => ?_)
    cases rv with
    | tup h2 r2 => exact ⟨_, rfl, ⟨_, .inl (.inl h2)⟩, q1.ok s1.hr (rI_tup r2 fun ρ' H' e => e.sqT (.inl (.inl h2)))⟩
    | ktp h2 r2 => exact ⟨_, rfl, ⟨_, ktp_sq h2⟩, q1.ok s1.hr (rI_tup r2 fun ρ' H' e => ktp_sq h2)⟩
    | _ => cases c
  · refine .inr ?_
    by_cases z2 : ∀ x h1, ga m h = .ok x h1 → cS x = true
    · refine .inr (key cS z2 _ fun ρ1 h1 H1 x v c s1 rv q1 => ?_)
      cases rv with
      | str t => exact ⟨_, rfl, q1.ok s1.hr rI_str⟩
      | _ => cases c
    · refine .inl (key (fun x => !cT x && !cS x) (fun x h1 e => ?_) _ fun ρ1 h1 H1 x v c s1 rv q1 => ?_)
      · have n1 : cT x = false := by
          cases k : cT x with
          | false => rfl
          | true => exact absurd (fun x' h' e' => by rw [e] at e'; cases e'; exact k) z
        have n2 : cS x = false := by
          cases k : cS x with
          | false => rfl
          | true => exact absurd (fun x' h' e' => by rw [e] at e'; cases e'; exact k) z2
        rw [n1, n2]; rfl
      · cases rv with
        | fls h2 r2 => exact ⟨_, rfl, ⟨_, h2.sq⟩, q1.ok s1.hr (rI_lst r2 fun ρ' H' e => (e.fzL h2).sq)⟩
        | @ref j ad hj =>
          dsimp only [mIter] at q1
          cases g : h1.get j with
          | none => rw [g] at q1; exact q1.elim
          | some o =>
            rw [g] at q1
            cases o with
            | lst xs =>
              obtain ⟨vs, h3, h4⟩ := s1.hr.obj g hj
              exact ⟨ad, rfl, ⟨vs, .inl (.inl h3)⟩, Post.ok (R := rI ⟨X.K, T⟩) (a := it1L j) q1 s1.hr (rI_ref hj)⟩
            | _ => exact q1.elim
        | tup _ _ => cases c
        | ktp _ _ => cases c
        | str _ => cases c
        | _ => exact q1.elim
def gRng1 (a : ME) : MI1 := fun m h => (a m h).bind fun x h1 => match x with
  | .int n => if -1000000000 ≤ n ∧ n ≤ 1000000000 then .ok (it1R 0 n.toNat) h1 else .bad
  | _ => .bad
def gRng2 (a b : ME) : MI1 := fun m h => (a m h).bind fun x h1 => (b m h1).bind fun y h2 => match x, y with
  | .int i, .int n => if (-1000000000 ≤ i ∧ i ≤ 1000000000) ∧ -1000000000 ≤ n ∧ n ≤ 1000000000 then .ok (it1R i (n - i).toNat) h2 else .bad
  | _, _ => .bad
theorem ji_range1 (hg : Gl X "range") (hm : X.mg "range" = none) (ha : JE X T E a ga) (hs : starEach [a] X.env = [(false, eval a X.env)] := by rfl) : JI X T E tg (.Call (.Name "range" p) [a] [] pos) (gRng1 ga) :=
  PI.le (pi_range1 hg hm (pa_cons ha pa_nil hs) hs) fun σ H R ⟨ρ, m, h, s, q⟩ => stepI s q fun ρ1 h1 H1 x v s1 e1 r1 q1 => by
    cases r1 with
    | int n =>
      have q' : Post ⟨X.K, T⟩ (rI ⟨X.K, T⟩) ρ1 H1 R E (if -1000000000 ≤ n ∧ n ≤ 1000000000 then .ok (it1R 0 n.toNat) h1 else .bad) := q1
      by_cases z : -1000000000 ≤ n ∧ n ≤ 1000000000
      · rw [if_pos z] at q'
        exact ⟨n, rfl, by omega, by omega, q'.ok s1.hr rI_rng⟩
      · rw [if_neg z] at q'; exact q'.elim
    | _ => exact q1.elim
theorem ji_range2 {b : Expr} {gb : ME} (hg : Gl X "range") (hm : X.mg "range" = none) (ha : JE X T E a ga) (hb : JE X T E b gb) (hs : starEach [a, b] X.env = [(false, eval a X.env), (false, eval b X.env)] := by rfl) (hs2 : starEach [b] X.env = [(false, eval b X.env)] := by rfl) :
    JI X T E tg (.Call (.Name "range" p) [a, b] [] pos) (gRng2 ga gb) :=
  PI.le (pi_range2 hg hm (pa_cons ha (pa_cons hb pa_nil hs2) (by rw [hs, hs2])) hs hs2) fun σ H R ⟨ρ, m, h, s, q⟩ => stepI s q fun ρ1 h1 H1 x v s1 e1 r1 q1 => stepI s1 q1 fun ρ2 h2 H2 y w s2 e2 r2 q2 => by
    cases r1 with
    | int i =>
      cases r2 with
      | int n =>
        have q' : Post ⟨X.K, T⟩ (rI ⟨X.K, T⟩) ρ2 H2 R E (if (-1000000000 ≤ i ∧ i ≤ 1000000000) ∧ -1000000000 ≤ n ∧ n ≤ 1000000000 then .ok (it1R i (n - i).toNat) h2 else .bad) := q2
        by_cases z : (-1000000000 ≤ i ∧ i ≤ 1000000000) ∧ -1000000000 ≤ n ∧ n ≤ 1000000000
        · rw [if_pos z] at q'
          exact ⟨i, n, rfl, ⟨by omega, by omega, by omega, by omega⟩, q'.ok s2.hr rI_rng⟩
        · rw [if_neg z] at q'; exact q'.elim
      | _ => exact q2.elim
    | _ => exact q2.elim
end
end MI
set_option Elab.async false
set_option linter.all false
set_option maxRecDepth 100000
set_option maxHeartbeats 4000000
namespace MI
open PySem PySem.Spec PyProof.Rows L2 JB
def setMany : ML → List Nat → List MV → ML
  | m, i :: is, x :: xs => setMany (m.set i (some x)) is xs
  | m, _, _ => m
def setManyV : L2.St → List Nat → List V → L2.St
  | σ, i :: is, x :: xs => setManyV (σ.set i (some x)) is xs
  | σ, _, _ => σ
def lNames : List Nat → TGs
  | [] => L2.gNil
  | i :: is => L2.gCons (L2.gName i) (lNames is)
theorem names_run : ∀ (is : List Nat) {vs : List V} {σ : L2.St} {H : Hp} {Q : L2.St → Hp → Prop}, vs.length = is.length → Q (setManyV σ is vs) H → lNames is vs σ H Q
  | [], [], _, _, _, _, q => ⟨rfl, q⟩
  | i :: is, v :: vs, σ, H, Q, hl, q => ⟨v, vs, rfl, names_run is (by simpa using hl) q⟩
  | [], _ :: _, _, _, _, hl, _ => by simp at hl
  | _ :: _, [], _, _, _, hl, _ => by simp at hl
theorem SR.many {Z : Zt} {ρ : List Addr} {h : MH} {H : Hp} : ∀ {is : List Nat} {m : ML} {σ : L2.St} {xs : List MV} {vs : List V}, SR Z ρ m h σ H → RVs Z ρ H xs vs → SR Z ρ (setMany m is xs) h (setManyV σ is vs) H
  | [], _, _, _, _, s, .nil => s
  | [], _, _, _, _, s, .cons _ _ => s
  | _ :: _, _, _, _, _, s, .nil => s
  | i :: is, _, _, _, _, s, .cons a r => SR.many (is := is) (s.set i a) r
def tgTup (is : List Nat) : MG := fun x m h => match seqOf h x with
  | some xs => if xs.length = is.length then .nx (setMany m is xs) h else .bad
  | none => .bad
section
variable {X : Cx} {T : Nat → Addr} {E : XK} {es : List Expr} {pos : Pos}
theorem PG.or {e : Expr} {t t' : TG} (p : PG X e t) (q : PG X e t') : PG X e (fun v σ H Q => t v σ H Q ∨ t' v σ H Q) := ⟨fun pins s σ H v u Q I r h => h.elim (p.run pins s σ H v u Q I r) (q.run pins s σ H v u Q I r)⟩
theorem pgs_names : PGs X [] (lNames []) := pgs_nil
theorem pgs_more {e : Expr} {i : Nat} {is : List Nat} (h1 : PG X e (L2.gName i)) (h2 : PGs X es (lNames is)) (hs : (assignEach (e :: es) X.env).map (·.2) = assign e X.env :: (assignEach es X.env).map (·.2) := by rfl) : PGs X (e :: es) (lNames (i :: is)) := pgs_cons h1 h2 hs
theorem jg_tup {k : Nat} {is : List Nat} (hc : X.calm = true) (h : PGs X es (lNames is)) (hn : (assignEach es X.env).length = is.length := by rfl) (hst : (assignEach es X.env).findIdx? (·.1) = none := by rfl) : JG X T E (.Tuple es k pos) (tgTup is) :=
  PG.le (PG.or (pg_tup hc h hn hst) (pg_unl hc h hn hst)) fun v σ H Q ⟨ρ, m, h, x, s, r, q⟩ => by
    unfold tgTup at q
    cases g : seqOf h x with
    | none => rw [g] at q; exact q.elim
    | some xs =>
      rw [g] at q
      dsimp only at q
      by_cases z : xs.length = is.length
      · rw [if_pos z] at q
        obtain ⟨a, vs, rfl, r2, hq⟩ := seqOf_or s.hr r g
        have hl : vs.length = is.length := by rw [← r2.length]; exact z
        have fin := names_run is hl (q ρ H _ .refl (s.many r2))
        rcases hq with hq | hq
        · exact .inr ⟨a, vs, rfl, hq, hl, fin⟩
        · exact .inl ⟨a, vs, rfl, hq, hl, fin⟩
      · rw [if_neg z] at q; exact q.elim
end
def mwipe (m : ML) : List Nat → ML
  | [] => m
  | v :: vs => (mwipe m vs).set v none
theorem SR.wipe {Z : Zt} {ρ : List Addr} {m : ML} {h : MH} {σ : L2.St} {H : Hp} (s : SR Z ρ m h σ H) : ∀ vs : List Nat, SR Z ρ (mwipe m vs) h (L2.wipe σ vs) H
  | [] => s
  | v :: vs => by
    have t := SR.wipe s vs
    refine ⟨t.hr, by show ((mwipe m vs).set v none).length = ((L2.wipe σ vs).set v none).length; simp [t.len], fun i x e => ?_⟩
    have e' : ((mwipe m vs).set v none)[i]? = some (some x) := e
    show ∃ w, ((L2.wipe σ vs).set v none)[i]? = some (some w) ∧ _
    by_cases k : v = i
    · subst k
      rw [List.getElem?_set] at e'
      rw [if_pos rfl] at e'
      split at e' <;> cases e'
    · rw [List.getElem?_set_ne k] at e' ⊢
      exact t.slot i x e'
theorem wipe_at {σ : L2.St} {j : Nat} : ∀ {vs : List Nat}, (L2.wipe σ vs)[j]? = if j ∈ vs ∧ j < σ.length then some none else σ[j]?
  | [] => by simp [L2.wipe]
  | v :: vs => by
    show ((L2.wipe σ vs).set v none)[j]? = _
    rw [List.getElem?_set, wipe_at (vs := vs), wipe_length]
    by_cases k : v = j
    · subst k
      rw [if_pos rfl]
      by_cases l : v < σ.length
      · simp [l]
      · simp [l]
    · rw [if_neg k]
      have : (j ∈ v :: vs) ↔ j ∈ vs := by simp [Ne.symm k]
      simp [this]
theorem wipe_set {σ : L2.St} {i : Nat} {o : Option V} {vs : List Nat} (hi : i ∈ vs) : L2.wipe (σ.set i o) vs = L2.wipe σ vs := by
  apply List.ext_getElem?
  intro j
  rw [wipe_at, wipe_at, List.length_set]
  by_cases e : j = i
  · subst e
    by_cases l : j < σ.length
    · rw [if_pos ⟨hi, l⟩, if_pos ⟨hi, l⟩]
    · rw [if_neg (fun z => l z.2), if_neg (fun z => l z.2), List.getElem?_eq_none (by simp; omega), List.getElem?_eq_none (by omega)]
  · rw [List.getElem?_set_ne (Ne.symm e)]
theorem wipe_wipe {σ : L2.St} {vs : List Nat} : L2.wipe (L2.wipe σ vs) vs = L2.wipe σ vs := by
  apply List.ext_getElem?
  intro j
  rw [wipe_at, wipe_at, wipe_length]
  split <;> rfl
theorem wipe_many {vs : List Nat} : ∀ {is : List Nat} {σ : L2.St} {xs : List V}, (∀ i ∈ is, i ∈ vs) → L2.wipe (setManyV σ is xs) vs = L2.wipe σ vs
  | [], σ, [], _ => rfl
  | [], σ, _ :: _, _ => rfl
  | _ :: _, σ, [], _ => rfl
  | i :: is, σ, x :: xs, h => by
    show L2.wipe (setManyV (σ.set i (some x)) is xs) vs = _
    rw [wipe_many fun j hj => h j (List.mem_cons_of_mem _ hj), wipe_set (h i List.mem_cons_self)]
inductive CT where
  | one (i : Nat) | row (is : List Nat)
def CT.set : CT → MG
  | .one i => tgName i
  | .row is => tgTup is
def CT.slots : CT → List Nat
  | .one i => [i]
  | .row is => is
def tCT (K : PySem.W.Frag) : CT → TG
  | .one i => L2.gName i
  | .row is => fun v σ H Q => L2.gTup K is.length (lNames is) v σ H Q ∨ gUnl K is.length (lNames is) v σ H Q
theorem ct_ok {Z : Zt} {ρ : List Addr} {m : ML} {h : MH} {σ : L2.St} {H : Hp} {c : CT} {x : MV} {v : V} {m' : ML} {h' : MH} {vs : List Nat} {Q : L2.St → Hp → Prop} (s : SR Z ρ m h σ H) (r : RV Z ρ H x v) (e : c.set x m h = .nx m' h')
    (hv : ∀ i ∈ c.slots, i ∈ vs) (k : ∀ σ', SR Z ρ m' h' σ' H → L2.wipe σ' vs = L2.wipe σ vs → Q σ' H) : tCT Z.K c v σ H Q := by
  cases c with
  | one i =>
    cases e
    exact k _ (s.set i r) (wipe_set (hv i (by simp [CT.slots])))
  | row is =>
    have e' : tgTup is x m h = .nx m' h' := e
    unfold tgTup at e'
    cases g : seqOf h x with
    | none => rw [g] at e'; cases e'
    | some xs =>
      rw [g] at e'
      dsimp only at e'
      by_cases z : xs.length = is.length
      · rw [if_pos z] at e'
        cases e'
        obtain ⟨a, ws, rfl, r2, hq⟩ := seqOf_or s.hr r g
        have hl : ws.length = is.length := by rw [← r2.length]; exact z
        have fin := names_run is hl (k _ (s.many r2) (wipe_many hv))
        rcases hq with hq | hq
        · exact .inr ⟨a, ws, rfl, hq, hl, fin⟩
        · exact .inl ⟨a, ws, rfl, hq, hl, fin⟩
      · rw [if_neg z] at e'; cases e'
def gLcN (it : It1) (c : CT) (t : MT) (e : ME) (D : Nat) (mw : ML) : Nat → Nat → MH → Out MV
  | 0, _, _ => .bad
  | n + 1, i, h => match it.at_ i h with
    | none => .bad
    | some none => .ok (.ref D) h
    | some (some x) => match c.set x mw h with
      | .nx m1 h1 => match t m1 h1 with
        | .ok true h2 => match e m1 h2 with
          | .ok y h3 => match h3.get D with
            | some (.lst acc) => if acc.length < 1000000 then gLcN it c t e D mw n (i + 1) (h3.set D (.lst (acc ++ [y]))) else .bad
            | _ => .bad
          | _ => .bad
        | .ok false h2 => gLcN it c t e D mw n (i + 1) h2
        | _ => .bad
      | _ => .bad
def gLc (i : MI1) (c : CT) (t : MT) (e : ME) (own : List Nat) : ME := fun m h => (i m h).bind fun it h1 => gLcN it c t e h1.n (mwipe m own) (it.size h1 + 1) 0 (h1.push (.lst []))
def gYes : MT := fun _ h => .ok true h
abbrev E00 : XK := fun _ _ _ => False
section
variable {X : Cx} {T : Nat → Addr} {E : XK} {elt tg iter : Expr} {ifs : List Expr} {scope : Scope} {own : List (Str × Nat)} {pos : Pos} {gi : MI1} {c : CT} {gt : MT} {ge : ME}
theorem lc_le {E : XK} {gi : MI1} {c : CT} {gt : MT} {ge : ME} {ow : List Nat} (hv : ∀ i ∈ c.slots, i ∈ ow) : ∀ σ H Q, tE ⟨X.K, T⟩ E (gLc gi c gt ge ow) σ H Q → tLc (tI ⟨X.K, T⟩ E gi) (tCT X.K c) (tT ⟨X.K, T⟩ E00 gt) (tE ⟨X.K, T⟩ E00 ge) ow σ H Q := by
  intro σ H Q ⟨ρ, m, h, s, q⟩
  refine ⟨ρ, m, h, s, ?_⟩
  refine (Post.bind (R := rI ⟨X.K, T⟩) q).mono fun J H1 ⟨ρ1, h1, it, e1, r1, w1, q1⟩ D hD => ?_
  have s1 := s.to e1 r1
  have x0 : Ext ρ1 H1 (ρ1 ++ [D]) (upd H1 D (.lst [])) := Ext.push hD
  have s0 : SR ⟨X.K, T⟩ (ρ1 ++ [D]) m (h1.push (.lst [])) σ (upd H1 D (.lst [])) := s1.to x0 (r1.push hD ⟨[], upd_same, .nil⟩)
  have a0 : (ρ1 ++ [D])[h1.n]? = some D := by rw [← r1.len]; simp
  generalize hD' : h1.n = d at q1 a0
  refine ⟨fun i n H2 => ∃ ρ2 h2, Ext (ρ1 ++ [D]) (upd H1 D (.lst [])) ρ2 H2 ∧ SR ⟨X.K, T⟩ ρ2 m h2 σ H2 ∧ Post ⟨X.K, T⟩ (rV ⟨X.K, T⟩) ρ2 H2 Q E (gLcN it c gt ge d (mwipe m ow) n i h2),
    ⟨_, ρ1 ++ [D], _, .refl, s0, q1.ext x0⟩, fun i n H2 ⟨ρ2, h2, e2, s2, q2⟩ => ?_⟩
  cases n with
  | zero => exact q2.elim
  | succ n =>
    have w2 := w1 i ρ2 h2 H2 (x0.trans e2) s2.hr
    unfold gLcN at q2
    cases k : it.at_ i h2 with
    | none => rw [k] at q2; exact q2.elim
    | some o =>
      rw [k] at q2 w2
      cases o with
      | none => exact .inl ⟨w2, q2.ok s2.hr (.ref (e2.at a0))⟩
      | some x =>
        refine .inr ⟨w2.1, fun H3 => ∃ ρ3 h3, Ext (ρ1 ++ [D]) (upd H1 D (.lst [])) ρ3 H3 ∧ SR ⟨X.K, T⟩ ρ3 m h3 σ H3 ∧ Post ⟨X.K, T⟩ (rV ⟨X.K, T⟩) ρ3 H3 Q E (gLcN it c gt ge d (mwipe m ow) n (i + 1) h3),
          fun H3 z => ⟨n, Nat.lt_succ_self _, z⟩, fun v H3 y => ?_⟩
        obtain ⟨ρ3, e3, r3, rv3⟩ := w2.2 v H3 y
        dsimp only at q2
        have s3 := s2.to e3 r3
        have sw := s3.wipe ow
        cases g : c.set x (mwipe m ow) h2 with
        | nx m4 h4 =>
          rw [g] at q2
          dsimp only at q2
          refine ct_ok sw rv3 g hv fun σ4 s4 hw => ⟨by rw [hw, wipe_wipe], ?_⟩
          refine ⟨ρ3, m4, h4, s4, ?_⟩
          have q3 := q2.ext e3
          generalize gt m4 h4 = ot at q3 ⊢
          cases ot with
          | bad => exact q3.elim
          | er _ _ => exact q3.elim
          | ok b h5 =>
            intro ρ5 H5 b' e5 r5 hb
            have hb' : b = b' := hb
            subst hb'
            have s5 := s4.to e5 r5
            cases b with
            | false =>
              rw [if_neg Bool.false_ne_true]
              exact ⟨ρ5, h5, (e2.trans e3).trans e5, (s3.to e5 r5), q3.ext e5⟩
            | true =>
              rw [if_pos rfl]
              dsimp only at q3
              refine ⟨ρ5, m4, h5, s5, ?_⟩
              have q4 := q3.ext e5
              generalize ge m4 h5 = oe at q4 ⊢
              cases oe with
              | bad => exact q4.elim
              | er _ _ => exact q4.elim
              | ok y6 h6 =>
                intro ρ6 H6 v6 e6 r6 rv6
                dsimp only at q4
                have q5 := q4.ext e6
                have a6 := e6.at (e5.at (e3.at (e2.at a0)))
                cases gd : h6.get d with
                | none => rw [gd] at q5; exact q5.elim
                | some od =>
                  rw [gd] at q5
                  cases od with
                  | lst acc =>
                    dsimp only at q5
                    obtain ⟨ws, h7, h8⟩ := r6.obj gd a6
                    by_cases z : acc.length < 1000000
                    · rw [if_pos z] at q5
                      have r8 : RVs ⟨X.K, T⟩ ρ6 H6 (acc ++ [y6]) (ws ++ [v6]) := RVs.app (.cons rv6 .nil) h8
                      have x7 : Ext ρ6 H6 ρ6 (upd H6 D (.lst (ws ++ [v6]))) := r6.grow gd a6 _
                      have r7 : HR ⟨X.K, T⟩ ρ6 (h6.set d (.lst (acc ++ [y6]))) (upd H6 D (.lst (ws ++ [v6]))) := r6.set gd a6 ⟨_, upd_same, r8.ext x7⟩
                      have s7 := ((s3.to e5 r5).to e6 r6).to x7 r7
                      have e7 := (((e2.trans e3).trans e5).trans e6).trans x7
                      have q7 := q5.ext x7
                      refine ⟨ws, h7, by rw [← h8.length, sizeLine_eq]; omega, ?_⟩
                      exact ⟨ρ6, _, e7, s7, q7⟩
                    · rw [if_neg z] at q5; exact q5.elim
                  | _ => exact q5.elim
        | _ => rw [g] at q2; exact q2.elim
theorem je_lc (hc : X.calm = true) (hN : X.N.Nodup) (hi : JI X T E tg iter gi) (ok : BlkOk X.N X.env.scope scope own)
    (hg : ∀ (s : Shared) (H : Hp) (C : Addr) (cl : List (Str × Addr)) (fp : List Addr), PG (X.blk s H scope (compEnvC scope cl C X.env) fp) tg (tCT X.K c))
    (ht : ∀ (s : Shared) (H : Hp) (C : Addr) (cl : List (Str × Addr)) (fp : List Addr), PTs (X.blk s H scope (compEnvC scope cl C X.env) fp) ifs (tT ⟨X.K, T⟩ E00 gt))
    (he : ∀ (s : Shared) (H : Hp) (C : Addr) (cl : List (Str × Addr)) (fp : List Addr), JE (X.blk s H scope (compEnvC scope cl C X.env) fp) T E00 elt ge)
    (hv : ∀ i ∈ c.slots, i ∈ own.map (·.2)) (hs : ∀ x, foldedSetIterable iter X.env x = pure x := by intro _; rfl) :
    JE X T E (.ListComp elt [⟨tg, iter, ifs, 0⟩] scope pos) (gLc gi c gt ge (own.map (·.2))) := by
  exact PE.le (pe_lc (te := tE ⟨X.K, T⟩ E00 ge) hc hN hi ok hg ht he hs) (lc_le hv)
end
end MI
set_option Elab.async false
set_option linter.all false
set_option maxRecDepth 100000
set_option maxHeartbeats 4000000
namespace MI
open PySem PySem.Spec PyProof.Rows L2 JB
def CallM (Z : Zt) (E : XK) (f : MF) (r : List V → Hp → VK → Prop) : Prop := ∀ ρ h H xs vs Q, HR Z ρ h H → RVs Z ρ H xs vs → Post Z (rV Z) ρ H Q E (f xs h) → r vs H Q
def gCB (f : MF) (a : MA) : ME := fun m h => (a m h).bind fun xs h1 => f xs h1
def f1 (f : MV → MH → Out MV) : MF := fun xs h => match xs with
  | [x] => f x h
  | _ => .bad
theorem CallM.one {Z : Zt} {E : XK} {f : MV → MH → Out MV} {r : List V → Hp → VK → Prop} (k : ∀ ρ h H x v Q, HR Z ρ h H → RV Z ρ H x v → Post Z (rV Z) ρ H Q E (f x h) → r [v] H Q) : CallM Z E (f1 f) r := fun ρ h H xs vs Q R r q => by
  cases r with
  | nil => exact q.elim
  | cons a r =>
    cases r with
    | nil => exact k ρ h H _ _ Q R a q
    | cons _ _ => exact q.elim
section
variable {X : Cx} {T : Nat → Addr} {E : XK} {o e : Expr} {es : List Expr} {go : ME} {ga : MA} {f : MF} {r : List V → Hp → VK → Prop} {x : Str} {id Ty : String} {p pos apos : Pos} {name : Str}
theorem je_callB (hc : CallR X (.builtin id) r) (k : CallM ⟨X.K, T⟩ E f r) (hg : Gl X x) (hm : X.mg x = none) (hv : bootBuiltins x = some (.builtin id)) (ha : JA X T E (e :: es) ga) (hn : x ≠ "__name__" := by decide) (hdb : (x == ("__debug__" : Str)) = false := by decide)
    (he : starEach (e :: es) X.env = (false, eval e X.env) :: starEach es X.env := by rfl) (hpl : (backTo pos (starEach es X.env)).any (·.1) = false := by rfl) : JE X T E (.Call (.Name x p) (e :: es) [] pos) (gCB f ga) :=
  PE.le (pe_callB hc hg hm hv ha hn hdb he hpl) fun σ H Q ⟨ρ, m, h, s, q⟩ => stepA s q fun ρ1 h1 H1 xs vs s1 e1 r1 q1 => k ρ1 h1 H1 xs vs Q s1.hr r1 q1
theorem je_callT (hc : CallR X (.type Ty) r) (k : CallM ⟨X.K, T⟩ E f r) (hg : Gl X x) (hm : X.mg x = none) (hv : bootBuiltins x = some (.type Ty)) (ha : JA X T E (e :: es) ga) (hn : x ≠ "__name__" := by decide) (hdb : (x == ("__debug__" : Str)) = false := by decide)
    (he : starEach (e :: es) X.env = (false, eval e X.env) :: starEach es X.env := by rfl) (hpl : (backTo pos (starEach es X.env)).any (·.1) = false := by rfl) : JE X T E (.Call (.Name x p) (e :: es) [] pos) (gCB f ga) :=
  PE.le (pe_callTy hc hg hm hv ha hn hdb he hpl) fun σ H Q ⟨ρ, m, h, s, q⟩ => stepA s q fun ρ1 h1 H1 xs vs s1 e1 r1 q1 => k ρ1 h1 H1 xs vs Q s1.hr r1 q1
def MethM (Z : Zt) (E : XK) (f : MV → MF) (r : V → List V → Hp → VK → Prop) : Prop := ∀ ρ h H x v xs vs Q, HR Z ρ h H → RV Z ρ H x v → RVs Z ρ H xs vs → Post Z (rV Z) ρ H Q E (f x xs h) → r v vs H Q
def isTy (h : MH) (Ty : String) : MV → Bool
  | .str _ => Ty == "str"
  | .int _ => Ty == "int"
  | .fls _ => Ty == "list"
  | .ref i => match h.get i with
    | some (.lst _) => Ty == "list"
    | some (.dic _) => Ty == "dict"
    | some (.dit _) => Ty == "dict"
    | _ => false
  | _ => false
theorem isTy_ok {Z : Zt} {ρ : List Addr} {h : MH} {H : Hp} {y : MV} {v : V} (R : HR Z ρ h H) (r : RV Z ρ H y v) (e : isTy h Ty y = true) : tyV Z.K Ty v H := by
  cases r with
  | str s => exact beq_iff_eq.mp e
  | int i => exact beq_iff_eq.mp e
  | fls h1 r1 => exact .inl ⟨beq_iff_eq.mp e, _, h1.sq⟩
  | @ref i a hi =>
    dsimp only [isTy] at e
    cases g : h.get i with
    | none => rw [g] at e; cases e
    | some ob =>
      rw [g] at e
      cases ob with
      | lst xs =>
        obtain ⟨vs, h1, _⟩ := R.obj g hi
        exact .inl ⟨beq_iff_eq.mp e, vs, .inl (.inl h1)⟩
      | dic kvs =>
        obtain ⟨vs, h1, _⟩ := R.obj g hi
        exact .inr (.inr (.inl ⟨beq_iff_eq.mp e, .inl ⟨vs, h1⟩⟩))
      | dit kvs =>
        obtain ⟨vs, h1, _⟩ := R.obj g hi
        exact .inr (.inr (.inl ⟨beq_iff_eq.mp e, .inr ⟨vs, h1⟩⟩))
      | _ => cases e
  | _ => cases e
def gBM (Ty : String) (f : MV → MF) (o : ME) (a : MA) : ME := fun m h => (o m h).bind fun x h1 => if isTy h1 Ty x = true then (a m h1).bind fun xs h2 => f x xs h2 else .bad
theorem je_bm {fm : MV → MF} {rm : V → List V → Hp → VK → Prop} (pa : PlainAttrs Ty) (slot : Slot Ty name id) (hty : typeOf (.builtin id) = pure (.type "method_descriptor")) (hm : MtR X id rm) (k : MethM ⟨X.K, T⟩ E fm rm) (ho : JE X T E o go) (ha : JA X T E (e :: es) ga)
    (hbase : attributeBase o name X.env (eval o X.env) = eval o X.env := by rfl)
    (hfew : ((backTo pos (starEach (e :: es) X.env)).all (fun x => !x.1) && (backToKw pos (keywordEach [] X.env)).all (fun x => x.1.isSome)
      && decide ((e :: es).length + ([] : List Keyword).length + (if ([] : List Keyword).isEmpty then 0 else 1) < 30)) = true := by rfl)
    (hline : (apos.endLine == pos.line) = true := by rfl) (hs : starEach (e :: es) X.env = (false, eval e X.env) :: starEach es X.env := by rfl) (hplain : (backTo pos (starEach es X.env)).any (·.1) = false := by rfl) :
    JE X T E (.Call (.Attribute o name apos) (e :: es) [] pos) (gBM Ty fm go ga) :=
  PE.le (pe_bm pa slot hty hm ho ha hbase hfew hline hs hplain) fun σ H Q ⟨ρ, m, h, s, q⟩ => stepE s q fun ρ1 h1 H1 y v s1 e1 r1 q1 => by
    by_cases z : isTy h1 Ty y = true
    · rw [if_pos z] at q1
      exact ⟨isTy_ok s1.hr r1 z, stepA s1 q1 fun ρ2 h2 H2 xs vs s2 e2 r2 q2 => k ρ2 h2 H2 y v xs vs Q s2.hr (r1.ext e2) r2 q2⟩
    · rw [if_neg z] at q1; exact q1.elim
theorem je_bm0 {fm : MV → MF} {rm : V → List V → Hp → VK → Prop} (pa : PlainAttrs Ty) (slot : Slot Ty name id) (hty : typeOf (.builtin id) = pure (.type "method_descriptor")) (hm : MtR X id rm) (k : MethM ⟨X.K, T⟩ E fm rm) (ho : JE X T E o go)
    (hbase : attributeBase o name X.env (eval o X.env) = eval o X.env := by rfl) (hline : (apos.endLine == pos.line) = true := by rfl) :
    JE X T E (.Call (.Attribute o name apos) [] [] pos) (gBM Ty fm go gNil) :=
  PE.le (pe_bm0 pa slot hty hm ho hbase hline) fun σ H Q ⟨ρ, m, h, s, q⟩ => stepE s q fun ρ1 h1 H1 y v s1 e1 r1 q1 => by
    by_cases z : isTy h1 Ty y = true
    · rw [if_pos z] at q1
      exact ⟨isTy_ok s1.hr r1 z, k ρ1 h1 H1 y v [] [] Q s1.hr r1 .nil q1⟩
    · rw [if_neg z] at q1; exact q1.elim
end
def mLenV (x : MV) (h : MH) : Out MV := match mLen h x with
  | some n => .ok (.int n) h
  | none => .bad
def mList (x : MV) (h : MH) : Out MV := match seqOf h x with
  | some xs => .ok (.ref h.n) (h.push (.lst xs))
  | none => .bad
def mTuple (x : MV) (h : MH) : Out MV := match x with
  | .tup xs => .ok (.tup xs) h
  | .ktp xs => .ok (.ktp xs) h
  | x => match seqOf h x with
    | some xs => .ok (.tup xs) h
    | none => .bad
def mAbs (x : MV) (h : MH) : Out MV := match x with
  | .int i => .ok (.int (if i < 0 then -i else i)) h
  | _ => .bad
def lApp (x : MV) (xs : List MV) (h : MH) : Out MV := match x, xs with
  | .ref i, [y] => match h.get i with
    | some (.lst l) => if l.length < 1000000 then .ok .non (h.set i (.lst (l ++ [y]))) else .bad
    | _ => .bad
  | _, _ => .bad
def lExt (x : MV) (xs : List MV) (h : MH) : Out MV := match x, xs with
  | .ref i, [.ref j] => match h.get i, h.get j with
    | some (.lst l), some (.lst r) => if l.length + r.length < 1000000 then .ok .non (h.set i (.lst (l ++ r))) else .bad
    | _, _ => .bad
  | _, _ => .bad
def lPop (x : MV) (xs : List MV) (h : MH) : Out MV := match x, xs with
  | .ref i, [] => match h.get i with
    | some (.lst l) => match l[l.length - 1]? with
      | some y => .ok y (h.set i (.lst l.dropLast))
      | none => .bad
    | _ => .bad
  | _, _ => .bad
section
variable {X : Cx} {T : Nat → Addr} {E : XK}
theorem RVs.dropLast {Z : Zt} {ρ : List Addr} {H : Hp} : ∀ {xs : List MV} {vs : List V}, RVs Z ρ H xs vs → RVs Z ρ H xs.dropLast vs.dropLast
  | _, _, .nil => .nil
  | _, _, .cons a .nil => .nil
  | _, _, .cons a (.cons b r) => .cons a (RVs.dropLast (.cons b r))
theorem mm_app {Z : Zt} : MethM Z E lApp rAppend := fun ρ h H x v xs vs Q R r rs q => by
  cases r with
  | @ref i a hi =>
    cases rs with
    | nil => exact q.elim
    | @cons y w xs vs ry rs =>
      cases rs with
      | cons _ _ => exact q.elim
      | nil =>
        have q' : Post Z (rV Z) ρ H Q E (match h.get i with
          | some (.lst l) => if l.length < 1000000 then .ok .non (h.set i (.lst (l ++ [y]))) else .bad
          | _ => .bad) := q
        cases g : h.get i with
        | none => rw [g] at q'; exact q'.elim
        | some ob =>
          rw [g] at q'
          cases ob with
          | lst l =>
            dsimp only at q'
            obtain ⟨ws, h1, h2⟩ := R.obj g hi
            by_cases z : l.length < 1000000
            · rw [if_pos z] at q'
              have x1 : Ext ρ H ρ (upd H a (.lst (ws ++ [w]))) := R.grow g hi _
              have r8 : RVs Z ρ H (l ++ [y]) (ws ++ [w]) := RVs.app (.cons ry .nil) h2
              exact ⟨a, ws, w, rfl, rfl, h1, by rw [← h2.length, sizeLine_eq]; omega, q' ρ _ .non x1 (R.set g hi ⟨_, upd_same, r8.ext x1⟩) .non⟩
            · rw [if_neg z] at q'; exact q'.elim
          | _ => exact q'.elim
  | _ => exact q.elim
theorem mm_pop {Z : Zt} : MethM Z E lPop rPop := fun ρ h H x v xs vs Q R r rs q => by
  cases r with
  | @ref i a hi =>
    cases rs with
    | cons _ _ => exact q.elim
    | nil =>
      have q' : Post Z (rV Z) ρ H Q E (match h.get i with
        | some (.lst l) => match l[l.length - 1]? with
          | some y => .ok y (h.set i (.lst l.dropLast))
          | none => .bad
        | _ => .bad) := q
      cases g : h.get i with
      | none => rw [g] at q'; exact q'.elim
      | some ob =>
        rw [g] at q'
        cases ob with
        | lst l =>
          dsimp only at q'
          obtain ⟨ws, h1, h2⟩ := R.obj g hi
          cases k : l[l.length - 1]? with
          | none => rw [k] at q'; exact q'.elim
          | some y =>
            rw [k] at q'
            obtain ⟨w, h3, h4⟩ := h2.get k
            have x1 : Ext ρ H ρ (upd H a (.lst ws.dropLast)) := R.grow g hi _
            exact ⟨a, ws, w, rfl, rfl, h1, by rw [← h2.length]; exact h3, q' ρ _ w x1 (R.set g hi ⟨_, upd_same, (h2.dropLast).ext x1⟩) (h4.ext x1)⟩
        | _ => exact q'.elim
  | _ => exact q.elim
theorem mm_ext {Z : Zt} : MethM Z E lExt rExtend := fun ρ h H x v xs vs Q R r rs q => by
  cases r with
  | @ref i a hi =>
    cases rs with
    | nil => exact q.elim
    | @cons y w xs vs ry rs =>
      cases rs with
      | cons _ _ => cases ry <;> exact q.elim
      | nil =>
        cases ry with
        | @ref j b hj =>
          have q' : Post Z (rV Z) ρ H Q E (match h.get i, h.get j with
            | some (.lst l), some (.lst r) => if l.length + r.length < 1000000 then .ok .non (h.set i (.lst (l ++ r))) else .bad
            | _, _ => .bad) := q
          cases g : h.get i with
          | none => rw [g] at q'; exact q'.elim
          | some ob =>
            cases g2 : h.get j with
            | none => rw [g, g2] at q'; cases ob <;> exact q'.elim
            | some ob2 =>
              rw [g, g2] at q'
              cases ob with
              | lst l =>
                cases ob2 with
                | lst l2 =>
                  dsimp only at q'
                  obtain ⟨ws, h1, h2⟩ := R.obj g hi
                  obtain ⟨ws2, h3, h4⟩ := R.obj g2 hj
                  by_cases z : l.length + l2.length < 1000000
                  · rw [if_pos z] at q'
                    have x1 : Ext ρ H ρ (upd H a (.lst (ws ++ ws2))) := R.grow g hi _
                    exact ⟨a, b, ws, ws2, rfl, rfl, h1, h3, by rw [← h2.length, ← h4.length, sizeLine_eq]; omega, q' ρ _ .non x1 (R.set g hi ⟨_, upd_same, (RVs.app h4 h2).ext x1⟩) .non⟩
                  · rw [if_neg z] at q'; exact q'.elim
                | _ => exact q'.elim
              | _ => exact q'.elim
        | _ => exact q.elim
  | _ => exact q.elim
theorem mc_abs {Z : Zt} : CallM Z E (f1 mAbs) (fun xs H Q => ∃ i, xs = [.int i] ∧ Q (.int (if i < 0 then -i else i)) H) := .one fun ρ h H x v Q R r q => by
  cases r with
  | int i => exact ⟨i, rfl, q.ok R (.int _)⟩
  | _ => exact q.elim
abbrev rLenM (K : PySem.W.Frag) : List V → Hp → VK → Prop := fun xs H Q => (∃ x n, xs = [x] ∧ LenV K x H n ∧ Q (.int n) H) ∨ (∃ a kvs, xs = [V.ref a] ∧ H a = some (.dK kvs) ∧ Q (.int kvs.length) H)
theorem mc_len {Z : Zt} : CallM Z E (f1 mLenV) (rLenM Z.K) := .one fun ρ h H x v Q R r q => by
  unfold mLenV at q
  cases k : mLen h x with
  | none => rw [k] at q; exact q.elim
  | some n =>
    rw [k] at q
    have fin : Q (.int n) H := Post.ok (R := rV Z) (a := .int n) q R (.int _)
    cases r with
    | str s =>
      dsimp only [mLen] at k
      split at k
      · cases k
        refine .inl ⟨_, _, rfl, ⟨?_, rfl⟩, ?_⟩
        · show s.toArray.size ≤ sizeLine
          rw [sizeLine_eq]; simp; omega
        · have : (⟨s.toArray⟩ : Str).length = s.length := by show s.toArray.size = _; simp
          rw [this]; exact fin
      · cases k
    | tup h1 r1 => cases k; exact .inl ⟨_, _, rfl, .inr ⟨_, .inl (.inl h1), rfl⟩, by rw [← r1.length]; exact fin⟩
    | ktp h1 r1 => cases k; exact .inl ⟨_, _, rfl, .inr ⟨_, ktp_sq h1, rfl⟩, by rw [← r1.length]; exact fin⟩
    | fls h1 r1 => cases k; exact .inl ⟨_, _, rfl, .inl ⟨_, h1.sq, rfl⟩, by rw [← r1.length]; exact fin⟩
    | @ref i a hi =>
      dsimp only [mLen] at k
      cases g : h.get i with
      | none => rw [g] at k; cases k
      | some ob =>
        rw [g] at k
        cases ob with
        | lst l =>
          cases k
          obtain ⟨ws, h1, h2⟩ := R.obj g hi
          exact .inl ⟨_, _, rfl, .inl ⟨ws, .inl (.inl h1), rfl⟩, by rw [← h2.length]; exact fin⟩
        | dic l =>
          cases k
          obtain ⟨ws, h1, h2⟩ := R.obj g hi
          exact .inr ⟨a, ws, rfl, h1, by rw [← h2.length]; exact fin⟩
        | _ => cases k
    | _ => cases k
theorem call_lenM : CallR X (.builtin "len") (rLenM X.K) := CallR.or call_len call_lenD
theorem mc_list {Z : Zt} : CallM Z E (f1 mList) (fun xs H Q => ∃ p ys, xs = [.ref p] ∧ (SqL Z.K H p ys ∨ SqT Z.K H p ys) ∧ ∀ l, H l = none → Q (.ref l) (upd H l (.lst ys))) := .one fun ρ h H x v Q R r q => by
  unfold mList at q
  cases k : seqOf h x with
  | none => rw [k] at q; exact q.elim
  | some xs =>
    rw [k] at q
    obtain ⟨a, vs, rfl, r2, hq⟩ := seqOf_or R r k
    have q' : Post Z (rV Z) ρ H Q E (.ok (.ref h.n) (h.push (.lst xs))) := q
    exact ⟨a, vs, rfl, hq, fun l hl => q' (ρ ++ [l]) _ _ (Ext.push hl) (R.push hl ⟨vs, upd_same, r2.ext (Ext.push hl)⟩) (.ref (by rw [← R.len]; simp))⟩
theorem mc_tuple {Z : Zt} : CallM Z E (f1 mTuple) (fun xs H Q => ∃ p ys, xs = [.ref p] ∧ ((SqL Z.K H p ys ∧ ∀ l, H l = none → Q (.ref l) (upd H l (.tup ys))) ∨ (SqT Z.K H p ys ∧ Q (.ref p) H))) := .one fun ρ h H x v Q R r q => by
  cases r with
  | tup h1 r1 => exact ⟨_, _, rfl, .inr ⟨.inl (.inl h1), Post.ok (R := rV Z) (a := .tup _) q R (.tup h1 r1)⟩⟩
  | ktp h1 r1 => exact ⟨_, _, rfl, .inr ⟨ktp_sq h1, Post.ok (R := rV Z) (a := .ktp _) q R (.ktp h1 r1)⟩⟩
  | @fls a xs vs h1 r1 =>
    have q' : Post Z (rV Z) ρ H Q E (.ok (.tup xs) h) := q
    exact ⟨a, vs, rfl, .inl ⟨h1.sq, fun l hl => q' ρ _ _ (Ext.still1 hl) (R.still1 hl) (.tup upd_same (r1.ext (Ext.still1 hl)))⟩⟩
  | @ref i a hi =>
    have q' : Post Z (rV Z) ρ H Q E (match seqOf h (.ref i) with
      | some xs => .ok (.tup xs) h
      | none => .bad) := q
    dsimp only [seqOf] at q'
    cases g : h.get i with
    | none => rw [g] at q'; exact q'.elim
    | some ob =>
      rw [g] at q'
      cases ob with
      | lst xs =>
        obtain ⟨vs, h1, h2⟩ := R.obj g hi
        exact ⟨a, vs, rfl, .inl ⟨.inl (.inl h1), fun l hl => q' ρ _ _ (Ext.still1 hl) (R.still1 hl) (.tup upd_same (h2.ext (Ext.still1 hl)))⟩⟩
      | _ => exact q'.elim
  | _ => exact q.elim
end
end MI
set_option Elab.async false
set_option linter.all false
set_option maxRecDepth 100000
set_option maxHeartbeats 4000000
namespace MI
open PySem PySem.Spec PyProof.Rows L2 JB
def putM (h : MH) (x y z : MV) : Option MH := if isD h x = true then dPutM h x y z else match x, y with
  | .ref i, .int k => match h.get i with
    | some (.lst xs) => match ixN xs.length k with
      | some j => some (h.set i (.lst (xs.set j z)))
      | none => none
    | _ => none
  | _, _ => none
theorem RVs.set {Z : Zt} {ρ : List Addr} {H : Hp} : ∀ {xs : List MV} {vs : List V} (j : Nat) {z : MV} {w : V}, RVs Z ρ H xs vs → RV Z ρ H z w → RVs Z ρ H (xs.set j z) (vs.set j w)
  | _, _, _, _, _, .nil, _ => .nil
  | _, _, 0, _, _, .cons a r, q => .cons q r
  | _, _, j + 1, _, _, .cons a r, q => .cons a (RVs.set j r q)
theorem PSet.or {X : Cx} {t t' : TSet} (p : PSet X t) (q : PSet X t') : PSet X (fun o i v H Q => t o i v H Q ∨ t' o i v H Q) := fun pins s σ H o i v ov iv u Q I r1 r2 r3 h =>
  h.elim (p pins s σ H o i v ov iv u Q I r1 r2 r3) (q pins s σ H o i v ov iv u Q I r1 r2 r3)
def tgSub (o i : ME) : MG := fun z m h => (o m h).bindS fun x h1 => (i m h1).bindS fun y h2 => match putM h2 x y z with
  | some h3 => .nx m h3
  | none => .bad
section
variable {X : Cx} {T : Nat → Addr} {E : XK} {o i e a b : Expr} {rest : List Expr} {go gi ga gb : ME} {pos p : Pos}
theorem put_ok {Z : Zt} {ρ : List Addr} {h h' : MH} {H : Hp} {x y z : MV} {v w u : V} {Q : Hp → Prop} (R : HR Z ρ h H) (r : RV Z ρ H x v) (q : RV Z ρ H y w) (t : RV Z ρ H z u) (e : putM h x y z = some h')
    (k : ∀ H', Ext ρ H ρ H' → HR Z ρ h' H' → Q H') : rSetL v w u H Q ∨ rSetD v w u H Q := by
  unfold putM at e
  by_cases d : isD h x = true
  · rw [if_pos d] at e
    obtain ⟨a, H', rfl, p1, p2, p3⟩ := dPut_ok R r q t e
    exact .inr ⟨a, H', rfl, p1, k H' p2 p3⟩
  · rw [if_neg d] at e
    cases r with
    | @ref j a hj =>
      cases q with
      | int n =>
        dsimp only at e
        cases g : h.get j with
        | none => rw [g] at e; cases e
        | some ob =>
          rw [g] at e
          cases ob with
          | lst xs =>
            dsimp only at e
            obtain ⟨vs, h1, h2⟩ := R.obj g hj
            cases k1 : ixN xs.length n with
            | none => rw [k1] at e; cases e
            | some j' =>
              rw [k1] at e
              cases e
              have x1 : Ext ρ H ρ (upd H a (.lst (vs.set j' u))) := R.grow g hj _
              exact .inl ⟨a, vs, n, j', rfl, rfl, h1, by rw [← h2.length]; exact k1, k _ x1 (R.set g hj ⟨_, upd_same, (RVs.set j' h2 t).ext x1⟩)⟩
          | _ => cases e
      | _ => cases e
    | _ => cases e
theorem jg_sub (hu : X.A.units + 1 < cLine) (ho : JE X T E o go) (hi : JE X T E i gi) (ha : ∀ v, assign (.Subscript o i pos) X.env v = (do
      let ov ← holding [v] (eval o X.env)
      let iv ← holding [v, ov] (eval i X.env)
      standAt pos
      holding [v, ov, iv] (setItem ov iv v)
      release [v, ov, iv] []) := by intro _; rfl) : JG X T E (.Subscript o i pos) (tgSub go gi) :=
  PG.le (pg_sub ho hi (PSet.or set_list (set_dict hu)) ha) fun v σ H Q ⟨ρ, m, h, z, s, r, q⟩ => sE s q fun ρ1 h1 H1 x vx s1 e1 r1 q1 => sE s1 q1 fun ρ2 h2 H2 y vy s2 e2 r2 q2 => by
    cases k : putM h2 x y z with
    | none => rw [k] at q2; exact q2.elim
    | some h3 =>
      rw [k] at q2
      exact put_ok s2.hr (r1.ext e2) r2 ((r.ext e1).ext e2) k fun H' x1 R1 => q2 ρ2 H' σ x1 (s2.to x1 R1)
def gOrT (a b : ME) : ME := fun m h => (a m h).bind fun x h1 => match mTru h1 x with
  | some true => .ok x h1
  | some false => b m h1
  | none => .bad
def gAndT (a b : ME) : ME := fun m h => (a m h).bind fun x h1 => match mTru h1 x with
  | some true => b m h1
  | some false => .ok x h1
  | none => .bad
theorem je_andT (ha : JE X T E a ga) (hb : JE X T E (.BoolOp .And (b :: rest) pos) gb) : JE X T E (.BoolOp .And (a :: b :: rest) pos) (gAndT ga gb) :=
  PE.le (pe_andT ha hb) fun σ H Q ⟨ρ, m, h, s, q⟩ => stepE s q fun ρ1 h1 H1 x v s1 e1 r1 q1 => by
    cases k : mTru h1 x with
    | none => rw [k] at q1; exact q1.elim
    | some c =>
      rw [k] at q1
      refine ⟨c, mTru_ok s1.hr r1 k, ?_⟩
      cases c with
      | true => exact endE s1 q1
      | false => exact Post.ok (R := rV ⟨X.K, T⟩) (a := x) q1 s1.hr r1
def mcut {α : Type} (xs : List α) (lo hi : Option Int) : List α := (xs.drop (HT.sIx xs.length 0 lo)).take (HT.sIx xs.length xs.length hi - HT.sIx xs.length 0 lo)
theorem RVs.drop {Z : Zt} {ρ : List Addr} {H : Hp} : ∀ {xs : List MV} {vs : List V} (n : Nat), RVs Z ρ H xs vs → RVs Z ρ H (xs.drop n) (vs.drop n)
  | _, _, 0, r => r
  | _, _, _ + 1, .nil => .nil
  | _, _, n + 1, .cons _ r => RVs.drop n r
theorem RVs.take {Z : Zt} {ρ : List Addr} {H : Hp} : ∀ {xs : List MV} {vs : List V} (n : Nat), RVs Z ρ H xs vs → RVs Z ρ H (xs.take n) (vs.take n)
  | _, _, 0, _ => by rw [List.take_zero, List.take_zero]; exact .nil
  | _, _, _ + 1, .nil => .nil
  | _, _, n + 1, .cons a r => .cons a (RVs.take n r)
theorem RVs.cut {Z : Zt} {ρ : List Addr} {H : Hp} {xs : List MV} {vs : List V} (r : RVs Z ρ H xs vs) (lo hi : Option Int) : RVs Z ρ H (mcut xs lo hi) (cutV vs lo hi) := by
  unfold mcut cutV
  rw [r.length]
  exact (r.drop _).take _
def mSl (x : MV) (lo hi : Option Int) (h : MH) : Out MV := match x with
  | .str s => if s.length ≤ 1000000 then .ok (.str (mcut s lo hi)) h else .bad
  | .tup xs => .ok (.tup (mcut xs lo hi)) h
  | x => if isL x = true then match seqOf h x with
      | some xs => .ok (.ref h.n) (h.push (.lst (mcut xs lo hi)))
      | none => .bad
    else .bad
abbrev MP := ML → MH → Out (Option Int)
def gPn : MP := fun _ h => .ok none h
def gPs (a : ME) : MP := fun m h => (a m h).bind fun x h1 => match x with
  | .int i => .ok (some i) h1
  | _ => .bad
def gSl (o : ME) (l u : MP) : ME := fun m h => (o m h).bind fun x h1 => (l m h1).bind fun lo h2 => (u m h2).bind fun hi h3 => mSl x lo hi h3
abbrev rO : Rl (Option Int) (Option Int) := fun _ _ x v => x = v
def tP (Z : Zt) (E : XK) (g : MP) : TO := fun σ H Q => ∃ ρ m h, SR Z ρ m h σ H ∧ Post Z rO ρ H Q E (g m h)
abbrev JP (X : Cx) (T : Nat → Addr) (E : XK) (e : Option Expr) (g : MP) : Prop := PO X e (tP ⟨X.K, T⟩ E g)
theorem PO.le {e : Option Expr} {t t' : TO} (p : PO X e t) (k : ∀ σ H Q, t' σ H Q → t σ H Q) : PO X e t' := ⟨fun pins s σ H Q I h => p.run pins s σ H Q I (k σ H Q h)⟩
theorem jp_none : JP X T E none gPn := PO.le po_none fun σ H Q ⟨ρ, m, h, s, q⟩ => q.ok s.hr rfl
theorem jp_some (ha : JE X T E a ga) : JP X T E (some a) (gPs ga) := PO.le (po_some ha) fun σ H Q ⟨ρ, m, h, s, q⟩ => stepE s q fun ρ1 h1 H1 x v s1 e1 r1 q1 => by
  cases r1 with
  | int i => exact ⟨i, rfl, q1.ok s1.hr rfl⟩
  | _ => exact q1.elim
theorem stepP {γ δ : Type} {Z : Zt} {ρ : List Addr} {m : ML} {h : MH} {σ : L2.St} {H : Hp} {R' : Rl γ δ} {Q : δ → Hp → Prop} {Q' : Option Int → Hp → Prop} {g : MP} {k : Option Int → MH → Out γ} (s : SR Z ρ m h σ H) (p : Post Z R' ρ H Q E ((g m h).bind k))
    (n : ∀ ρ1 h1 H1 a, SR Z ρ1 m h1 σ H1 → Ext ρ H ρ1 H1 → Post Z R' ρ1 H1 Q E (k a h1) → Q' a H1) : tP Z E g σ H Q' :=
  ⟨ρ, m, h, s, (Post.bind (R := rO) p).mono fun b H' ⟨ρ1, h1, a, e, r, q, z⟩ => by have q' : a = b := q; rw [← q']; exact n ρ1 h1 H' a (s.to e r) e z⟩
abbrev rSlM (K : PySem.W.Frag) : V → Option Int → Option Int → Hp → VK → Prop := fun x lo hi H Q => rSlL K x lo hi H Q ∨ (rSlA K x lo hi H Q ∨ rSlS x lo hi H Q)
theorem whole_cut {vs : List V} {lo hi : Option Int} (h : HT.sIx vs.length 0 lo = 0 ∧ HT.sIx vs.length vs.length hi = vs.length) : cutV vs lo hi = vs := by
  unfold cutV
  rw [h.1, h.2]; simp
theorem sl_M {Z : Zt} {ρ : List Addr} {h : MH} {H : Hp} {x : MV} {v : V} {lo hi : Option Int} {Q : VK} (R : HR Z ρ h H) (r : RV Z ρ H x v) (q : Post Z (rV Z) ρ H Q E (mSl x lo hi h)) : rSlM Z.K v lo hi H Q := by
  cases r with
  | str s =>
    have q' : Post Z (rV Z) ρ H Q E (if s.length ≤ 1000000 then .ok (.str (mcut s lo hi)) h else .bad) := q
    by_cases z : s.length ≤ 1000000
    · rw [if_pos z] at q'
      refine .inr (.inr ⟨_, rfl, by show s.toArray.size ≤ sizeLine; rw [sizeLine_eq]; simp; omega, ?_⟩)
      exact q'.ok R (.str _)
    · rw [if_neg z] at q'; exact q'.elim
  | @tup a xs vs h1 r1 =>
    have q' : Post Z (rV Z) ρ H Q E (.ok (.tup (mcut xs lo hi)) h) := q
    refine .inr (.inl ⟨a, vs, rfl, .inl (.inl h1), fun w => ?_, fun w p hp => ?_⟩)
    · refine q'.ok R (.tup h1 ?_)
      have := r1.cut lo hi
      rw [whole_cut w] at this
      exact this
    · exact q' ρ _ _ (Ext.still1 hp) (R.still1 hp) (.tup upd_same ((r1.cut lo hi).ext (Ext.still1 hp)))
  | @fls a xs vs h1 r1 =>
    have q' : Post Z (rV Z) ρ H Q E (.ok (.ref h.n) (h.push (.lst (mcut xs lo hi)))) := q
    exact .inl ⟨a, vs, rfl, h1.sq, fun p hp => q' (ρ ++ [p]) _ _ (Ext.push hp) (R.push hp ⟨_, upd_same, (r1.cut lo hi).ext (Ext.push hp)⟩) (.ref (by rw [← R.len]; simp))⟩
  | @ref i a hi' =>
    have q' : Post Z (rV Z) ρ H Q E (match seqOf h (.ref i) with
      | some xs => .ok (.ref h.n) (h.push (.lst (mcut xs lo hi)))
      | none => .bad) := q
    dsimp only [seqOf] at q'
    cases g : h.get i with
    | none => rw [g] at q'; exact q'.elim
    | some ob =>
      rw [g] at q'
      cases ob with
      | lst xs =>
        obtain ⟨vs, h1, h2⟩ := R.obj g hi'
        exact .inl ⟨a, vs, rfl, .inl (.inl h1), fun p hp => q' (ρ ++ [p]) _ _ (Ext.push hp) (R.push hp ⟨_, upd_same, (h2.cut lo hi).ext (Ext.push hp)⟩) (.ref (by rw [← R.len]; simp))⟩
      | _ => exact q'.elim
  | _ => exact q.elim
theorem je_slice {lo hi : Option Expr} {gl gu : MP} {p2 : Pos} (ho : JE X T E o go) (hl : JP X T E lo gl) (hu : JP X T E hi gu) : JE X T E (.Subscript o (.Slice lo hi none p2) pos) (gSl go gl gu) :=
  PE.le (pe_slice (SlR.or sl_list (SlR.or sl_tupA sl_str)) ho hl hu) fun σ H Q ⟨ρ, m, h, s, q⟩ => stepE s q fun ρ1 h1 H1 x v s1 e1 r1 q1 => stepP s1 q1 fun ρ2 h2 H2 l s2 e2 q2 => stepP s2 q2 fun ρ3 h3 H3 u s3 e3 q3 =>
    sl_M s3.hr ((r1.ext e2).ext e3) q3
def it1E (xs : List MV) : It1 := ⟨fun _ => xs.length, fun i _ => some (xs[i]?.map fun x => .tup [.int (i : Nat), x])⟩
def it1EL (j : Nat) : It1 := ⟨fun h => match h.get j with
  | some (.lst xs) => xs.length
  | _ => 0, fun i h => match h.get j with
  | some (.lst xs) => some (xs[i]?.map fun x => .tup [.int (i : Nat), x])
  | _ => none⟩
def gEnum (a : ME) : MI1 := fun m h => (a m h).bind fun x h1 => match x with
  | .fls xs => .ok (it1E xs) h1
  | .ref j => match h1.get j with
    | some (.lst _) => .ok (it1EL j) h1
    | _ => .bad
  | _ => .bad
theorem rI_enum {Z : Zt} {ρ ρ' : List Addr} {h' : MH} {H H' : Hp} {a : Addr} {i : Nat} {xs : List MV} {vs : List V} (R : HR Z ρ' h' H') (sq : SqL Z.K H' a vs) (r : RVs Z ρ' H' xs vs) :
    match some (xs[i]?.map fun x => MV.tup [.int (i : Nat), x]) with
    | none => True
    | some none => (Ite Z.K a).stop i H'
    | some (some x) => (Ite Z.K a).go i H' ∧ ∀ v H'', (Ite Z.K a).yld i H' v H'' → ∃ ρ'', Ext ρ' H' ρ'' H'' ∧ HR Z ρ'' h' H'' ∧ RV Z ρ'' H'' x v := by
  cases g : xs[i]? with
  | none => exact ⟨vs, sq, r.none g⟩
  | some x =>
    obtain ⟨v, h1, h2⟩ := r.get g
    refine ⟨⟨vs, v, sq, h1⟩, fun w H'' y => ?_⟩
    obtain ⟨t, x', rfl, ht, rfl, y⟩ := y
    have := y vs sq
    rw [h1] at this
    cases this
    exact ⟨ρ', Ext.still1 ht, R.still1 ht, .tup upd_same (.cons (.int _) (.cons (h2.ext (Ext.still1 ht)) .nil))⟩
theorem ji_enum {elts : List Expr} {kk : Nat} {tpos : Pos} (hg : Gl X "enumerate") (hm : X.mg "enumerate" = none) (ha : JE X T E a ga) (hs : starEach [a] X.env = [(false, eval a X.env)] := by rfl) :
    JI X T E (.Tuple elts kk tpos) (.Call (.Name "enumerate" p) [a] [] pos) (gEnum ga) :=
  PI.le (pi_enum hg hm (pa_cons ha pa_nil hs) hs) fun σ H R ⟨ρ, m, h, s, q⟩ => stepI s q fun ρ1 h1 H1 x v s1 e1 r1 q1 => by
    cases r1 with
    | @fls ad xs vs h2 r2 =>
      have q' : Post ⟨X.K, T⟩ (rI ⟨X.K, T⟩) ρ1 H1 R E (.ok (it1E xs) h1) := q1
      exact ⟨ad, vs, rfl, h2.sq, q'.ok s1.hr fun i ρ' h' H' e R' => rI_enum (ρ := ρ1) (H := H1) R' (e.fzL h2).sq (r2.ext e)⟩
    | @ref j ad hj =>
      have q' : Post ⟨X.K, T⟩ (rI ⟨X.K, T⟩) ρ1 H1 R E (match h1.get j with
        | some (.lst _) => .ok (it1EL j) h1
        | _ => .bad) := q1
      cases g : h1.get j with
      | none => rw [g] at q'; exact q'.elim
      | some ob =>
        rw [g] at q'
        cases ob with
        | lst xs =>
          obtain ⟨vs, h3, h4⟩ := s1.hr.obj g hj
          refine ⟨ad, vs, rfl, .inl (.inl h3), Post.ok (R := rI ⟨X.K, T⟩) (a := it1EL j) q' s1.hr fun i ρ' h' H' e R' => ?_⟩
          show match (match h'.get j with
              | some (.lst xs) => some (xs[i]?.map fun x => MV.tup [.int (i : Nat), x])
              | _ => none) with
            | none => True
            | some none => (Ite X.K ad).stop i H'
            | some (some x) => (Ite X.K ad).go i H' ∧ ∀ v H'', (Ite X.K ad).yld i H' v H'' → ∃ ρ'', Ext ρ' H' ρ'' H'' ∧ HR ⟨X.K, T⟩ ρ'' h' H'' ∧ RV ⟨X.K, T⟩ ρ'' H'' x v
          cases g2 : h'.get j with
          | none => trivial
          | some o2 =>
            cases o2 with
            | lst ys =>
              obtain ⟨ws, h5, h6⟩ := R'.obj g2 (e.at hj)
              exact rI_enum (ρ := ρ1) (H := H1) R' (.inl (.inl h5)) h6
            | _ => trivial
        | _ => exact q'.elim
    | _ => exact q1.elim
end
end MI
set_option Elab.async false
set_option linter.all false
set_option maxRecDepth 100000
set_option maxHeartbeats 4000000
namespace MI
open PySem PySem.Spec PyProof.Rows L2 JB
def gPar (i j : Nat) (a : MA) : MS := fun m h => (a m h).bindS fun xs h1 => match xs with
  | [x, y] => .nx ((m.set i (some x)).set j (some y)) h1
  | _ => .bad
def mInt (x : MV) (h : MH) : Out MV := match x with
  | .int i => .ok (.int i) h
  | .bl b => .ok (.int (if b = true then 1 else 0)) h
  | _ => .bad
section
variable {X : Cx} {T : Nat → Addr} {E : XK} {a b : Expr} {ga : MA} {pos : Pos}
theorem sA {Z : Zt} {ρ : List Addr} {m : ML} {h : MH} {σ : L2.St} {H : Hp} {D : Ends} {Q' : List V → Hp → Prop} {g : MA} {k : List MV → MH → SO} (s : SR Z ρ m h σ H) (p : PostS Z ρ H D E ((g m h).bindS k))
    (n : ∀ ρ1 h1 H1 a v, SR Z ρ1 m h1 σ H1 → Ext ρ H ρ1 H1 → RVs Z ρ1 H1 a v → PostS Z ρ1 H1 D E (k a h1) → Q' v H1) : tA Z E g σ H Q' :=
  ⟨ρ, m, h, s, p.bind.mono fun b H' ⟨ρ1, h1, a, e, r, q, z⟩ => n ρ1 h1 H' a b (s.to e r) e q z⟩
theorem js_par {i j : Nat} {x y : Str} {px py pt : Pos} {kt k2 pt2} (hc : X.calm = true) (hN : X.N.Nodup) (hi : X.N[i]? = some x) (hj : X.N[j]? = some y) (hij : i ≠ j)
    (hx : X.env.scope.names.lookup x = some .local) (hy : X.env.scope.names.lookup y = some .local) (ha : JA X T E [a, b] ga)
    (hw : swappedStores [.Tuple [.Name x px, .Name y py] kt pt] (.Tuple [a, b] k2 pt2) X.env = pure (some [x, y]) := by rfl)
    (hs : swapsWithSole [.Tuple [.Name x px, .Name y py] kt pt] (.Tuple [a, b] k2 pt2) pos.line X.env = pure false := by rfl) :
    JS X T E (.Assign [.Tuple [.Name x px, .Name y py] kt pt] (.Tuple [a, b] k2 pt2) pos) (gPar i j ga) :=
  PS.le (ps_par hc hN hi hj hij hx hy ha hw hs) fun D σ H ⟨ρ, m, h, s, q⟩ => sA s q fun ρ1 h1 H1 xs vs s1 e1 r1 q1 => by
    cases r1 with
    | nil => exact q1.elim
    | cons ra r1 =>
      cases r1 with
      | nil => exact q1.elim
      | cons rb r1 =>
        cases r1 with
        | cons _ _ => exact q1.elim
        | nil => exact ⟨_, _, rfl, q1 ρ1 H1 _ .refl ((s1.set i ra).set j rb)⟩
theorem mc_int {Z : Zt} : CallM Z E (f1 mInt) (fun xs H Q => (∃ i, xs = [.int i] ∧ Q (.int i) H) ∨ ∃ k, xs = [.bl k] ∧ Q (.int (if k then 1 else 0)) H) := .one fun ρ h H x v Q R r q => by
  cases r with
  | int i => exact .inl ⟨i, rfl, q.ok R (.int _)⟩
  | bl b => exact .inr ⟨b, rfl, Post.ok (R := rV Z) (a := .int (if b = true then 1 else 0)) q R (.int _)⟩
  | _ => exact q.elim
end
end MI
set_option Elab.async false
set_option linter.all false
set_option maxRecDepth 100000
set_option maxHeartbeats 4000000
namespace JB
open PySem PySem.Spec PyProof.Rows L2
section
variable {X : Cx} {pins : List (Addr × Obj)}
end
end JB
set_option Elab.async false
set_option linter.all false
set_option maxRecDepth 100000
set_option maxHeartbeats 4000000
namespace MI
open PySem PySem.Spec PyProof.Rows L2 JB
section
variable {Z : Zt} {ρ : List Addr} {h : MH} {H : Hp} {E : XK}
end
section
variable {X : Cx} {T : Nat → Addr} {E : XK} {e o a b : Expr} {ge go ga gb : ME} {pos apos : Pos}
def gDget (d k : ME) : ME := fun m h => (d m h).bind fun x h1 => if isD h1 x = true then (k m h1).bind fun y h2 => match dGet h2 x y with
  | some (some v) => .ok v h2
  | some none => .ok .non h2
  | none => .bad
  else .bad
theorem isD_ok {Z : Zt} {ρ : List Addr} {h : MH} {H : Hp} {x : MV} {v : V} (R : HR Z ρ h H) (r : RV Z ρ H x v) (e : isD h x = true) : ∃ a, v = .ref a ∧ IsD H a := by
  cases r with
  | @ref i a hi =>
    dsimp only [isD] at e
    cases g : h.get i with
    | none => rw [g] at e; cases e
    | some ob =>
      rw [g] at e
      cases ob with
      | dic kvs => obtain ⟨vs, h1, _⟩ := R.obj g hi; exact ⟨a, rfl, .inl ⟨vs, .inl h1⟩⟩
      | dit kvs => obtain ⟨vs, h1, _⟩ := R.obj g hi; exact ⟨a, rfl, .inr ⟨vs, .inl h1⟩⟩
      | fdi kvs => obtain ⟨od, vs, h1, _⟩ := R.obj g hi; exact ⟨a, rfl, .inl ⟨vs, .inr ⟨od, h1⟩⟩⟩
      | _ => cases e
  | _ => cases e
theorem je_dget (hu : X.A.units + 1 < cLine) (ho : JE X T E o go) (ha : JE X T E a ga) (m1 : M1 X o "get" apos a pos) : JE X T E (.Call (.Attribute o "get" apos) [a] [] pos) (gDget go ga) :=
  PE.le (pe_dget1 hu ho ha m1) fun σ H Q ⟨ρ, m, h, s, q⟩ => stepE s q fun ρ1 h1 H1 x v s1 e1 r1 q1 => by
    by_cases d : isD h1 x = true
    · rw [if_pos d] at q1
      obtain ⟨ad, rfl, hd⟩ := isD_ok s1.hr r1 d
      refine ⟨ad, rfl, hd, stepE s1 q1 fun ρ2 h2 H2 y w s2 e2 r2 q2 => ?_⟩
      cases k : dGet h2 x y with
      | none => rw [k] at q2; exact q2.elim
      | some oo =>
        rw [k] at q2
        obtain ⟨aa, o', ea, h3, h4⟩ := dGet_ok s2.hr (r1.ext e2) r2 k
        cases ea
        rcases h4 with ⟨rfl, rfl⟩ | ⟨z, u, rfl, rfl, h5⟩
        · exact ⟨none, h3, Post.ok (R := rV ⟨X.K, T⟩) (a := .non) q2 s2.hr .non⟩
        · exact ⟨some u, h3, Post.ok (R := rV ⟨X.K, T⟩) (a := z) q2 s2.hr h5⟩
    · rw [if_neg d] at q1; exact q1.elim
end
end MI
set_option Elab.async false
set_option linter.all false
set_option maxRecDepth 100000
set_option maxHeartbeats 4000000
namespace MI
open PySem PySem.Spec PyProof.Rows L2 JB
def allD (f : MV → Option PyData) : List MV → Option (List PyData)
  | [] => some []
  | x :: xs => match f x, allD f xs with
    | some d, some ds => some (d :: ds)
    | _, _ => none
def toD (h : MH) : Nat → MV → Option PyData
  | 0, _ => none
  | n + 1, x => match x with
    | .non => some .none
    | .bl b => some (.bool b)
    | .int i => some (.int i)
    | .str s => some (.str ⟨s.toArray⟩)
    | .tup xs => (allD (toD h n) xs).map .tuple
    | .ktp xs => (allD (toD h n) xs).map .tuple
    | .fls xs => (allD (toD h n) xs).map .list
    | .ref i => match h.get i with
      | some (.lst xs) => (allD (toD h n) xs).map .list
      | _ => none
    | _ => none
section
variable {Z : Zt} {ρ : List Addr} {h : MH} {H : Hp}
theorem allD_ok {f : MV → Option PyData} (k : ∀ {x : MV} {v : V} {d : PyData}, RV Z ρ H x v → f x = some d → Dp Z.K H v d) : ∀ {xs : List MV} {vs : List V} {ds : List PyData}, RVs Z ρ H xs vs → allD f xs = some ds → DpAll Z.K H vs ds
  | _, _, ds, .nil, e => by cases e; exact .nil
  | _, _, ds, .cons (x := x) (xs := xs) a r, e => by
    dsimp only [allD] at e
    cases k1 : f x with
    | none => rw [k1] at e; cases e
    | some d =>
      cases k2 : allD f xs with
      | none => rw [k1, k2] at e; cases e
      | some ds' =>
        rw [k1, k2] at e
        cases e
        exact .cons (k a k1) (allD_ok k r k2)
theorem toD_ok (R : HR Z ρ h H) : ∀ (n : Nat) {x : MV} {v : V} {d : PyData}, RV Z ρ H x v → toD h n x = some d → Dp Z.K H v d
  | 0, _, _, _, _, e => by cases e
  | n + 1, _, _, d, r, e => by
    have ih := fun {x : MV} {v : V} {d : PyData} (r : RV Z ρ H x v) (e : toD h n x = some d) => toD_ok R n r e
    cases r with
    | non => cases e; exact .non
    | bl b => cases e; exact .bl b
    | int i => cases e; exact .int i
    | str s => cases e; exact .str _
    | tup h1 r1 =>
      obtain ⟨ds, e1, rfl⟩ := Option.map_eq_some_iff.mp (show (allD (toD h n) _).map PyData.tuple = some d from e)
      exact .tup (.inl (.inl h1)) (allD_ok ih r1 e1)
    | ktp h1 r1 =>
      obtain ⟨ds, e1, rfl⟩ := Option.map_eq_some_iff.mp (show (allD (toD h n) _).map PyData.tuple = some d from e)
      exact .tup (ktp_sq h1) (allD_ok ih r1 e1)
    | fls h1 r1 =>
      obtain ⟨ds, e1, rfl⟩ := Option.map_eq_some_iff.mp (show (allD (toD h n) _).map PyData.list = some d from e)
      exact .lst h1.sq (allD_ok ih r1 e1)
    | @ref i a hi =>
      dsimp only [toD] at e
      cases g : h.get i with
      | none => rw [g] at e; cases e
      | some ob =>
        rw [g] at e
        cases ob with
        | lst xs =>
          obtain ⟨vs, h1, h2⟩ := R.obj g hi
          obtain ⟨ds, e1, rfl⟩ := Option.map_eq_some_iff.mp (show (allD (toD h n) xs).map PyData.list = some d from e)
          exact .lst (.inl (.inl h1)) (allD_ok ih h2 e1)
        | _ => cases e
    | _ => cases e
end
def isRow : MV → Bool
  | .tup _ => true
  | .ktp _ => true
  | .fls _ => true
  | .ref _ => true
  | _ => false
end MI
set_option Elab.async false
set_option linter.all false
set_option maxRecDepth 100000
set_option maxHeartbeats 4000000
namespace MI
open PySem PySem.Spec PyProof PyProof.Rows L2 JB PySem.AutoSeq1
theorem ext_tup (l : Addr) (items : Array Value) (n : Nat) (b : Addr) (o : Obj) (items2 : Array Value) (n2 : Nat) (hc : o.cls = .type "tuple") (hd : o.data = .seq items2 n2)
    (h0 : ¬(!items.isEmpty && Builtin.List.listTooLong (items.size + items2.size)) = true) (h1 : items.size ≤ sizeLine) (h2 : items.size + items2.size ≤ sizeLine + 1) :
    Meets (Builtin.«list.extend» ⟨[.ref l, .ref b], []⟩) (fun _ R s => s.heap.get? l = some { cls := .type "list", data := .seq items n } ∧ s.heap.get? b = some o ∧
      R (.ok (.ret Value.none)) { s with heap := s.heap.update l (Obj.mapSeq fun x => x ++ items2) }) :=
  .of_wp fun prog w A R s h => by
    obtain ⟨c, dc, dt, sl⟩ := o
    obtain rfl : c = .type "tuple" := hc
    obtain rfl : dt = .seq items2 n2 := hd
    obtain ⟨hp, g, d, tk, os⟩ := s
    obtain ⟨hl, hb, h⟩ := h
    have f1 := AutoSeq1.idx_int
    have f4 := AutoSeq1.sub_tuple_list
    have f2 := AutoSeq1.sub_tuple_tuple
    have f3 := AutoSeq1.sub_list_list
    have f5 := AutoSeq1.sub_list_tuple
    have hz' : (items ++ items2).size ≤ sizeLine + 1 := by rw [Array.size_append]; exact h2
    wp_walk using (wpAny_updateSeq hl rfl (hz := h1) (_hz' := hz')), wpAny_loadPart' hl, wpAny_loadPart' hb
    exact ⟨_, rfl, h⟩
def rExtT (K : PySem.W.Frag) : V → List V → Hp → VK → Prop := fun x vs H Q => ∃ l b xs zs, x = .ref l ∧ vs = [.ref b] ∧
  H l = some (.lst xs) ∧ SqT K H b zs ∧ xs.length + zs.length ≤ sizeLine ∧ Q .non (upd H l (.lst (xs ++ zs)))
section
variable {X : Cx}
theorem mt_extT : MtR X "list.extend" (rExtT X.K) := by
  intro pins s σ H x vs v us Q I rx rv h
  obtain ⟨l, b, xs, zs, rfl, rfl, hH, hB, hz, q⟩ := h
  cases rx
  obtain ⟨u, rfl, ru⟩ := rv.one
  cases ru
  obtain ⟨z, its, n, r, hl, e⟩ := I.lstM hH
  obtain ⟨its2, r2, ⟨ob, eb, cb, nb, db⟩, hz2⟩ := I.tuple hB
  have hl2 := r2.length
  have hsz : its.toArray.size + its2.toArray.size ≤ sizeLine := by
    rw [List.size_toArray, List.size_toArray, ← hl2, ← hl]; exact hz
  have hlong : ¬ (!its.toArray.isEmpty && Builtin.List.listTooLong (its.toArray.size + its2.toArray.size)) = true := by
    rw [notLongL hsz, Bool.and_false]
    exact Bool.false_ne_true
  refine call_meets F.slot_list_extend ⟨_, e, rfl⟩ F.entry_list_extend (F.args_list_extend_2 _ _)
    (ext_tup l its.toArray n b ob its2.toArray nb cb db hlong (by rw [List.size_toArray]; omega) (by omega)) ⟨e, eb, ?_⟩
  refine ⟨.non, _, I.lset (its' := its ++ its2) hH e (by simp) (r.append r2) ?_, rfl, q⟩
  rw [List.length_append]
  omega
end
def lExtR (x : MV) (o : Option (List MV)) (t : Bool) (h : MH) : Out MV := match x, o with
  | .ref i, some r => if t = true then .bad else match h.get i with
    | some (.lst l) => if l.length + r.length < 1000000 then .ok .non (h.set i (.lst (l ++ r))) else .bad
    | _ => .bad
  | _, _ => .bad
def lExtA (x : MV) (xs : List MV) (h : MH) : Out MV := match xs with
  | [.ref j] => lExt x [.ref j] h
  | [y] => lExtR x (seqOf h y) (isL y) h
  | _ => .bad
theorem mm_extA {Z : Zt} {E : XK} : MethM Z E lExtA (fun x vs H Q => rExtend x vs H Q ∨ rExtT Z.K x vs H Q) := fun ρ h H x v xs vs Q R r rs q => by
  by_cases c : ∃ j, xs = [.ref j]
  · obtain ⟨j, rfl⟩ := c
    exact .inl (mm_ext ρ h H x v [.ref j] vs Q R r rs q)
  · cases rs with
    | nil => exact q.elim
    | @cons y w xs vs ry rs =>
      cases rs with
      | cons _ _ => cases ry <;> exact q.elim
      | nil =>
        have q' : Post Z (rV Z) ρ H Q E (lExtR x (seqOf h y) (isL y) h) := by
          cases y <;> first
            | exact absurd ⟨_, rfl⟩ c
            | exact q
        cases r with
        | @ref i a hi =>
          cases k : seqOf h y with
          | none => rw [k] at q'; exact q'.elim
          | some zs =>
            rw [k] at q'
            dsimp only [lExtR] at q'
            by_cases z : isL y = true
            · rw [if_pos z] at q'; exact q'.elim
            · rw [if_neg z] at q'
              obtain ⟨b, ws, rfl, r2, hq⟩ := seqOf_ok R ry k
              rw [if_neg z] at hq
              cases g : h.get i with
              | none => rw [g] at q'; exact q'.elim
              | some ob =>
                rw [g] at q'
                cases ob with
                | lst l =>
                  dsimp only at q'
                  obtain ⟨ls, h1, h2⟩ := R.obj g hi
                  by_cases y2 : l.length + zs.length < 1000000
                  · rw [if_pos y2] at q'
                    have x1 : Ext ρ H ρ (upd H a (.lst (ls ++ ws))) := R.grow g hi _
                    exact .inr ⟨a, b, ls, ws, rfl, rfl, h1, hq, by rw [← h2.length, ← r2.length, sizeLine_eq]; omega, q' ρ _ .non x1 (R.set g hi ⟨_, upd_same, (RVs.app r2 h2).ext x1⟩) .non⟩
                  · rw [if_neg y2] at q'; exact q'.elim
                | _ => exact q'.elim
        | _ => exact q'.elim
end MI
set_option Elab.async false
set_option linter.all false
set_option maxRecDepth 100000
set_option maxHeartbeats 4000000
namespace MI
open PySem PySem.Spec PyProof.Rows L2 JB
def allEq (f : PyData → PyData → Bool) : List PyData → List PyData → Bool
  | [], [] => true
  | a :: l, b :: r => f a b && allEq f l r
  | _, _ => false
def dEq : Nat → PyData → PyData → Bool
  | 0, _, _ => false
  | n + 1, a, b => match a, b with
    | .none, .none => true
    | .bool x, .bool y => x == y
    | .int x, .int y => decide (x = y)
    | .str x, .str y => leq x.cps.toList y.cps.toList
    | .list xs, .list ys => allEq (dEq n) xs ys
    | .tuple xs, .tuple ys => allEq (dEq n) xs ys
    | _, _ => false
theorem allEq_eq {f : PyData → PyData → Bool} (k : ∀ {a b}, f a b = true → a = b) : ∀ {l r : List PyData}, allEq f l r = true → l = r
  | [], [], _ => rfl
  | a :: l, b :: r, e => by
    simp only [allEq, Bool.and_eq_true] at e
    rw [k e.1, allEq_eq k e.2]
  | [], _ :: _, e => by cases e
  | _ :: _, [], e => by cases e
theorem dEq_eq : ∀ (n : Nat) {a b : PyData}, dEq n a b = true → a = b
  | 0, _, _, e => by cases e
  | n + 1, a, b, e => by
    have ih := fun {a b : PyData} (e : dEq n a b = true) => dEq_eq n e
    cases a <;> cases b <;> first
      | rfl
      | (cases e; done)
      | (rename_i x y; exact congrArg _ (by simpa [dEq] using e))
      | (rename_i x y
         have e' := leq_iff.mp (show leq x.cps.toList y.cps.toList = true from e)
         obtain ⟨x⟩ := x
         obtain ⟨y⟩ := y
         have : x = y := by simpa using e'
         rw [this])
      | (rename_i x y; exact congrArg _ (allEq_eq ih e))
section
variable {P : Program} {w : World} {K : PySem.W.Frag} {mg : Str → Option Value} {base : Heap} {T : Nat → Addr}
theorem row_ref {Z : Zt} {ρ : List Addr} {H : Hp} {x : MV} {v : V} (r : RV Z ρ H x v) (c : isRow x = true) : ∃ a, v = .ref a := by cases r <;> first | exact ⟨_, rfl⟩ | cases c
end
end MI
set_option Elab.async false
set_option linter.all false
set_option maxRecDepth 100000
set_option maxHeartbeats 4000000
namespace MI
open PySem PySem.Spec PyProof.Rows L2 JB
def S1 (l : List Nat) : Str := ⟨l.toArray⟩
end MI
set_option Elab.async false
set_option linter.all false
set_option maxRecDepth 100000
set_option maxHeartbeats 4000000
namespace MI
open PySem PySem.Spec PyProof.Rows L2 JB
section
variable {X : Cx} {T : Nat → Addr} {E : XK} {e : Expr} {es : List Expr} {st : Stmt}
end
section
variable {Z : Zt} {ρ ρ' : List Addr} {h : MH} {H H' : Hp}
theorem HR.nil : HR Z [] .empty H := ⟨List.nodup_nil, rfl, fun i o e => (by rw [MH.get_none (h := MH.empty) (Nat.zero_le _)] at e; cases e), fun i hi => absurd hi (Nat.not_lt_zero i)⟩
end
section
variable {P : Program} {w : World} {K : PySem.W.Frag} {mg : Str → Option Value} {base : Heap} {T : Nat → Addr} {k : Nat} {f : Addr}
end
end MI
set_option Elab.async false
set_option linter.all false
set_option maxRecDepth 100000
set_option maxHeartbeats 4000000
namespace MI
open PySem PySem.Spec PyProof.Rows L2 JB
def itoaN (n : Nat) : List Nat := (Nat.toDigits 10 n).map Char.toNat
def itoa : Int → List Nat
  | .ofNat n => itoaN n
  | .negSucc n => 45 :: itoaN (n + 1)
theorem ofS (s : String) : Str.ofString s = ⟨(s.toList.map Char.toNat).toArray⟩ := by
  rw [Str.ofString_eq_byList]; rfl
def iSmall (i : Int) : Bool := decide (i.natAbs < 1606938044258990275541962092341162602522202993782792835301376)
theorem iSmall_ok {i : Int} (h : iSmall i = true) : i.natAbs.log2 < 1920 := by
  have h' : i.natAbs < 2 ^ 200 := by
    have := of_decide_eq_true h
    have e : (2 : Nat) ^ 200 = 1606938044258990275541962092341162602522202993782792835301376 := by decide
    omega
  by_cases z : i.natAbs = 0
  · rw [z]; decide
  · exact Nat.lt_trans ((Nat.log2_lt z).mpr h') (by decide)
def mStr (x : MV) (h : MH) : Out MV := match x with
  | .int i => if iSmall i = true then .ok (.str (itoa i)) h else .bad
  | _ => .bad
section
variable {X : Cx} {T : Nat → Addr} {E : XK} {e a b : Expr} {es : List Expr} {ga gb : ME} {gr : MA} {pos : Pos}
def gStar (a : ME) (r : MA) : MA := fun m h => (a m h).bind fun x h1 => match seqOf h1 x with
  | some xs => (r m h1).bind fun ys h2 => .ok (xs ++ ys) h2
  | none => .bad
theorem ja_star {p : Pos} (ha : JE X T E e ga) (hr : JA X T E es gr) (hs : starEach (.Starred e p :: es) X.env = (true, eval e X.env) :: starEach es X.env := by rfl) : JA X T E (.Starred e p :: es) (gStar ga gr) :=
  PA.le (StX.pa_star ha hr hs) fun σ H Q ⟨ρ, m, h, s, q⟩ => stepE s q fun ρ1 h1 H1 x v s1 e1 r1 q1 => by
    cases k : seqOf h1 x with
    | none => rw [k] at q1; exact q1.elim
    | some xs =>
      rw [k] at q1
      obtain ⟨a, vs, rfl, r2, hq⟩ := seqOf_or s1.hr r1 k
      exact ⟨a, vs, rfl, hq.symm, stepA s1 q1 fun ρ2 h2 H2 ys ws s2 e2 r3 q2 => Post.ok (R := rVs ⟨X.K, T⟩) (a := xs ++ ys) q2 s2.hr (RVs.app r3 (r2.ext e2))⟩
def reps {α : Type} (xs : List α) : Nat → List α
  | 0 => []
  | n + 1 => xs ++ reps xs n
theorem reps_eq {α : Type} (xs : List α) : ∀ n, (List.replicate n xs).flatten = reps xs n
  | 0 => rfl
  | n + 1 => by rw [List.replicate_succ, List.flatten_cons, reps_eq xs n]; rfl
theorem RVs.reps {Z : Zt} {ρ : List Addr} {H : Hp} {xs : List MV} {vs : List V} (r : RVs Z ρ H xs vs) : ∀ n, RVs Z ρ H (reps xs n) (reps vs n)
  | 0 => .nil
  | n + 1 => RVs.app (r.reps n) r
def mRepL (x y : MV) (h : MH) : Out MV := match x, y with
  | .ref i, .int k => match h.get i with
    | some (.lst xs) => if k ≤ 10000 ∧ -10000 ≤ k ∧ xs.length ≤ 100 then .ok (.ref h.n) (h.push (.lst (reps xs k.toNat))) else .bad
    | _ => .bad
  | _, _ => .bad
theorem om_repL {Z : Zt} : OpM Z E mRepL rRep := fun ρ h H x y v w Q R r q p => by
  cases r with
  | @ref i a hi =>
    cases q with
    | int k =>
      have p' : Post Z (rV Z) ρ H Q E (match h.get i with
        | some (.lst xs) => if k ≤ 10000 ∧ -10000 ≤ k ∧ xs.length ≤ 100 then .ok (.ref h.n) (h.push (.lst (reps xs k.toNat))) else .bad
        | _ => .bad) := p
      cases g : h.get i with
      | none => rw [g] at p'; exact p'.elim
      | some ob =>
        rw [g] at p'
        cases ob with
        | lst xs =>
          dsimp only at p'
          obtain ⟨vs, h1, h2⟩ := R.obj g hi
          by_cases c : k ≤ 10000 ∧ -10000 ≤ k ∧ xs.length ≤ 100
          · rw [if_pos c] at p'
            refine ⟨a, k, vs, rfl, rfl, h1, by omega, by omega, ?_, fun pp hp => ?_⟩
            · rw [← h2.length, sizeLine_eq]
              have : xs.length * k.toNat ≤ 100 * 10000 := Nat.mul_le_mul c.2.2 (by omega)
              omega
            · rw [reps_eq]
              exact p' (ρ ++ [pp]) _ _ (Ext.push hp) (R.push hp ⟨_, upd_same, (h2.ext (Ext.push hp)).reps _⟩) (.ref (by rw [← R.len]; simp))
          · rw [if_neg c] at p'; exact p'.elim
        | _ => exact p'.elim
    | _ => exact p.elim
  | _ => exact p.elim
def isRep : MV → Bool
  | .ref _ => true
  | _ => false
def mMulV (x y : MV) (h : MH) : Out MV := if isRep x = true then mRepL x y h else mMul x y h
theorem je_mulV (ha : JE X T E a ga) (hb : JE X T E b gb) : JE X T E (.BinOp a .Mult b pos) (gBin mMulV ga gb) :=
  je_bin_or (je_op op_rep om_repL ha hb) (je_mul ha hb) fun x y h => by
    unfold mMulV
    split
    · exact .inl rfl
    · exact .inr rfl
def ins1 (x : Int) : List Int → List Int
  | [] => [x]
  | y :: l => if x ≤ y then x :: y :: l else y :: ins1 x l
def isort : List Int → List Int
  | [] => []
  | x :: l => ins1 x (isort l)
theorem ins1_perm (x : Int) : ∀ l, (ins1 x l).Perm (x :: l)
  | [] => .refl _
  | y :: l => by
    unfold ins1
    split
    · exact .refl _
    · exact ((ins1_perm x l).cons y).trans (.swap x y l)
theorem isort_perm : ∀ l, (isort l).Perm l
  | [] => .refl _
  | x :: l => (ins1_perm x (isort l)).trans ((isort_perm l).cons x)
theorem ins1_mem {x z : Int} {l : List Int} (h : z ∈ ins1 x l) : z = x ∨ z ∈ l := by
  have := (ins1_perm x l).mem_iff.mp h
  simpa using this
theorem ins1_pw (x : Int) : ∀ l : List Int, l.Pairwise (· ≤ ·) → (ins1 x l).Pairwise (· ≤ ·)
  | [], _ => by simp [ins1]
  | y :: l, h => by
    obtain ⟨h1, h2⟩ := List.pairwise_cons.mp h
    unfold ins1
    split
    · rename_i c
      refine List.pairwise_cons.mpr ⟨fun z hz => ?_, h⟩
      rcases List.mem_cons.mp hz with rfl | hz
      · exact c
      · exact Int.le_trans c (h1 z hz)
    · rename_i c
      refine List.pairwise_cons.mpr ⟨fun z hz => ?_, ins1_pw x l h2⟩
      rcases ins1_mem hz with rfl | hz
      · omega
      · exact h1 z hz
theorem isort_pw : ∀ l : List Int, (isort l).Pairwise (· ≤ ·)
  | [] => List.Pairwise.nil
  | x :: l => ins1_pw x _ (isort_pw l)
theorem isort_uniq {ys ks : List Int} (p : ys.Perm ks) (s : ys.Pairwise (· ≤ ·)) : ys = isort ks := PySem.W.ksm_same (p.trans (isort_perm ks).symm) s (isort_pw ks)
def intsOf : List MV → Option (List Int)
  | [] => some []
  | .int i :: r => (intsOf r).map fun l => i :: l
  | _ => none
theorem intsOf_ok {Z : Zt} {ρ : List Addr} {H : Hp} : ∀ {xs : List MV} {vs : List V} {l : List Int}, RVs Z ρ H xs vs → intsOf xs = some l → vs = l.map V.int
  | _, _, l, .nil, e => by cases e; rfl
  | _, _, l, .cons (x := x) (xs := xs) a r, e => by
    cases a with
    | int i =>
      obtain ⟨l', e1, rfl⟩ := Option.map_eq_some_iff.mp (show (intsOf xs).map (fun l => i :: l) = some l from e)
      rw [intsOf_ok r e1]; rfl
    | _ => cases e
theorem RVs.ints {Z : Zt} {ρ : List Addr} {H : Hp} : ∀ l : List Int, RVs Z ρ H (l.map MV.int) (l.map V.int)
  | [] => .nil
  | i :: l => .cons (.int i) (RVs.ints l)
def keysOf : List (MK × MV) → Option (List Int)
  | [] => some []
  | (.inl i, _) :: r => (keysOf r).map fun l => i :: l
  | _ => none
theorem keysOf_ok {Z : Zt} {ρ : List Addr} {H : Hp} {xs : List (MK × MV)} {vs : List (Key × V)} (r : RKs kOf Z ρ H xs vs) : ∀ {l : List Int}, keysOf xs = some l → vs.map (·.1) = l.map Sum.inl := by
  induction r with
  | nil => intro l e; cases e; rfl
  | @cons k x v xs vs a r ih =>
    intro l e
    cases k with
    | inl i =>
      obtain ⟨l', e1, rfl⟩ := Option.map_eq_some_iff.mp (show (keysOf xs).map (fun l => i :: l) = some l from e)
      rw [List.map_cons, ih e1]; rfl
    | inr s => cases e
def mSorted (x : MV) (h : MH) : Out MV := match x with
  | .ref i => match h.get i with
    | some (.lst xs) => match intsOf xs with
      | some l => .ok (.ref h.n) (h.push (.lst ((isort l).map MV.int)))
      | none => .bad
    | some (.dic kvs) => match keysOf kvs with
      | some l => if l.length < 64 then .ok (.ref h.n) (h.push (.lst ((isort l).map MV.int))) else .bad
      | none => .bad
    | _ => .bad
  | _ => .bad
abbrev rSortM (K : PySem.W.Frag) : List V → Hp → VK → Prop := fun xs H Q => rSortedI K xs H Q ∨ ∃ (a : Addr) (kvs : List (Key × V)) (ks : List Int), xs = [.ref a] ∧ Rd H a (.dK kvs) ∧ kvs.map (·.1) = ks.map Sum.inl ∧ ks.length < 64 ∧
    ∀ (ys : List Int) (p : Addr), ys.Perm ks → ys.Pairwise (· ≤ ·) → H p = none → Q (.ref p) (upd H p (.lst (ys.map V.int)))
theorem call_sortM (hc : X.calm = true) : CallR X (.builtin "sorted") (rSortM X.K) := CallR.or cr_sortedI (call_sortedDI hc)
theorem mc_sorted {Z : Zt} : CallM Z E (f1 mSorted) (rSortM Z.K) := .one fun ρ h H x v Q R r q => by
  cases r with
  | @ref i a hi =>
    have q' : Post Z (rV Z) ρ H Q E (match h.get i with
      | some (.lst xs) => match intsOf xs with
        | some l => .ok (.ref h.n) (h.push (.lst ((isort l).map MV.int)))
        | none => .bad
      | some (.dic kvs) => match keysOf kvs with
        | some l => if l.length < 64 then .ok (.ref h.n) (h.push (.lst ((isort l).map MV.int))) else .bad
        | none => .bad
      | _ => .bad) := q
    have fin : ∀ (l ys : List Int) (p : Addr), Post Z (rV Z) ρ H Q E (.ok (.ref h.n) (h.push (.lst ((isort l).map MV.int)))) → ys.Perm l → ys.Pairwise (· ≤ ·) → H p = none → Q (.ref p) (upd H p (.lst (ys.map V.int))) := by
      intro l ys p q2 p1 p2 hp
      rw [isort_uniq p1 p2]
      exact q2 (ρ ++ [p]) _ _ (Ext.push hp) (R.push hp ⟨_, upd_same, RVs.ints _⟩) (.ref (by rw [← R.len]; simp))
    cases g : h.get i with
    | none => rw [g] at q'; exact q'.elim
    | some ob =>
      rw [g] at q'
      cases ob with
      | lst xs =>
        dsimp only at q'
        obtain ⟨vs, h1, h2⟩ := R.obj g hi
        cases k : intsOf xs with
        | none => rw [k] at q'; exact q'.elim
        | some l =>
          rw [k] at q'
          exact .inl ⟨a, l, rfl, by rw [← intsOf_ok h2 k]; exact .inl (.inl h1), fun ys p p1 p2 hp => fin l ys p q' p1 p2 hp⟩
      | dic kvs =>
        dsimp only at q'
        obtain ⟨vs, h1, h2⟩ := R.obj g hi
        cases k : keysOf kvs with
        | none => rw [k] at q'; exact q'.elim
        | some l =>
          rw [k] at q'
          dsimp only at q'
          by_cases z : l.length < 64
          · rw [if_pos z] at q'
            exact .inr ⟨a, vs, l, rfl, .of h1, keysOf_ok h2 k, z, fun ys p p1 p2 hp => fin l ys p q' p1 p2 hp⟩
          · rw [if_neg z] at q'; exact q'.elim
      | _ => exact q'.elim
  | _ => exact q.elim
def boolsOf : List MV → Option (List Bool)
  | [] => some []
  | .bl i :: r => (boolsOf r).map fun l => i :: l
  | _ => none
theorem boolsOf_ok {Z : Zt} {ρ : List Addr} {H : Hp} : ∀ {xs : List MV} {vs : List V} {l : List Bool}, RVs Z ρ H xs vs → boolsOf xs = some l → vs = l.map V.bl
  | _, _, l, .nil, e => by cases e; rfl
  | _, _, l, .cons (x := x) (xs := xs) a r, e => by
    cases a with
    | bl i =>
      obtain ⟨l', e1, rfl⟩ := Option.map_eq_some_iff.mp (show (boolsOf xs).map (fun l => i :: l) = some l from e)
      rw [boolsOf_ok r e1]; rfl
    | _ => cases e
def mAll (x : MV) (h : MH) : Out MV := match x with
  | .ref i => match h.get i with
    | some (.lst xs) => match boolsOf xs with
      | some l => .ok (.bl (l.all id)) h
      | none => .bad
    | _ => .bad
  | _ => .bad
theorem mc_all {Z : Zt} : CallM Z E (f1 mAll) (rAll Z.K) := .one fun ρ h H x v Q R r q => by
  cases r with
  | @ref i a hi =>
    have q' : Post Z (rV Z) ρ H Q E (match h.get i with
      | some (.lst xs) => match boolsOf xs with
        | some l => .ok (.bl (l.all id)) h
        | none => .bad
      | _ => .bad) := q
    cases g : h.get i with
    | none => rw [g] at q'; exact q'.elim
    | some ob =>
      rw [g] at q'
      cases ob with
      | lst xs =>
        dsimp only at q'
        obtain ⟨vs, h1, h2⟩ := R.obj g hi
        cases k : boolsOf xs with
        | none => rw [k] at q'; exact q'.elim
        | some l =>
          rw [k] at q'
          exact ⟨a, l, rfl, by rw [← boolsOf_ok h2 k]; exact .inl (.inl h1), Post.ok (R := rV Z) (a := .bl (l.all id)) q' R (.bl _)⟩
      | _ => exact q'.elim
  | _ => exact q.elim
end
end MI
set_option Elab.async false
set_option linter.all false
set_option maxRecDepth 100000
set_option maxHeartbeats 4000000
namespace MI
open PySem PySem.Spec PyProof.Rows L2 JB
def ddrop {κ : Type} (e : κ → κ → Bool) (k : κ) : List (κ × MV) → List (κ × MV)
  | [] => []
  | (g, x) :: r => if e g k = true then ddrop e k r else (g, x) :: ddrop e k r
theorem ddrop_ok {κ κ' : Type} [DecidableEq κ'] {e : κ → κ → Bool} {f : κ → κ'} {Z : Zt} {ρ : List Addr} {H : Hp} (he : ∀ a b, e a b = true ↔ f a = f b) {xs : List (κ × MV)} {vs : List (κ' × V)} (r : RKs f Z ρ H xs vs) {k : κ} :
    RKs f Z ρ H (ddrop e k xs) (dropK vs (f k)) := by
  induction r with
  | nil => exact .nil
  | @cons g x v xs vs a r ih =>
    show RKs f Z ρ H (if e g k = true then ddrop e k xs else (g, x) :: ddrop e k xs) (dropK ((f g, v) :: vs) (f k))
    by_cases z : e g k = true
    · rw [if_pos z, dropK_pos ((he _ _).mp z)]; exact ih
    · rw [if_neg z, dropK_neg (fun q => z ((he _ _).mpr q))]; exact .cons a ih
def gDel (d i : ME) : MS := fun m h => (d m h).bindS fun x h1 => (i m h1).bindS fun y h2 => match x, mkey y with
  | .ref j, some k => match h2.get j with
    | some (.dic kvs) => if (dval keq kvs k).isSome = true then .nx m (h2.set j (.dic (ddrop keq k kvs))) else .bad
    | _ => .bad
  | _, _ => .bad
section
variable {X : Cx} {T : Nat → Addr} {E : XK} {o i e f a b : Expr} {go gi ge gf ga gb : ME} {pos tpos apos cpos : Pos}
theorem js_del (ho : JE X T E o go) (hi : JE X T E i gi) : JS X T E (.Delete [.Subscript o i tpos] pos) (gDel go gi) :=
  PS.le (ps_ddel ho hi) fun D σ H ⟨ρ, m, h, s, q⟩ => sE s q fun ρ1 h1 H1 x v s1 e1 r1 q1 => sE s1 q1 fun ρ2 h2 H2 y w s2 e2 r2 q2 => by
    have r1' := r1.ext e2
    cases r1' with
    | @ref j a hj =>
      cases k : mkey y with
      | none => rw [k] at q2; exact q2.elim
      | some k' =>
        rw [k] at q2
        have q' : PostS ⟨X.K, T⟩ ρ2 H2 D E (match h2.get j with
          | some (.dic kvs) => if (dval keq kvs k').isSome = true then .nx m (h2.set j (.dic (ddrop keq k' kvs))) else .bad
          | _ => .bad) := q2
        cases g : h2.get j with
        | none => rw [g] at q'; exact q'.elim
        | some ob =>
          rw [g] at q'
          cases ob with
          | dic kvs =>
            dsimp only at q'
            obtain ⟨vs, h3, h4⟩ := s2.hr.obj g hj
            by_cases z : (dval keq kvs k').isSome = true
            · rw [if_pos z] at q'
              have x1 := s2.hr.grow g hj (.dK (dropK vs (kOf k')))
              refine ⟨a, vs, kOf k', rfl, h3, mkey_ok r2 k, ?_, q' ρ2 _ _ x1 (s2.to x1 (s2.hr.set g hj ⟨_, upd_same, (ddrop_ok (e := keq) (fun a b => keq_iff) h4).ext x1⟩))⟩
              rcases dval_ok (e := keq) (f := kOf) (fun a b => keq_iff) h4 k' with ⟨l, _⟩ | ⟨y, w, l1, l2, _⟩
              · rw [l] at z; cases z
              · rw [l2]; rfl
            · rw [if_neg z] at q'; exact q'.elim
          | _ => exact q'.elim
    | _ => exact q2.elim
def gSetd (d k x : ME) : ME := fun m h => (d m h).bind fun z h1 => if isD h1 z = true then (k m h1).bind fun y h2 => (x m h2).bind fun u h3 => match z, mkey y with
  | .ref j, some k => match h3.get j with
    | some (.dic kvs) => if kvs.length < 1000000 then match dval keq kvs k with
        | some v => .ok v h3
        | none => .ok u (h3.set j (.dic (dput keq kvs k u)))
      else .bad
    | _ => .bad
  | _, _ => .bad
  else .bad
theorem je_setd (ho : JE X T E o go) (he : JE X T E e ge) (hf : JE X T E f gf) (m2 : M2 X o "setdefault" apos e f cpos) : JE X T E (.Call (.Attribute o "setdefault" apos) [e, f] [] cpos) (gSetd go ge gf) :=
  PE.le (pe_dsetd ho he hf m2) fun σ H Q ⟨ρ, m, h, s, q⟩ => stepE s q fun ρ1 h1 H1 x v s1 e1 r1 q1 => by
    by_cases d : isD h1 x = true
    · rw [if_pos d] at q1
      obtain ⟨a, rfl, hd⟩ := isD_ok s1.hr r1 d
      refine ⟨a, rfl, hd, stepE s1 q1 fun ρ2 h2 H2 y w s2 e2 r2 q2 => stepE s2 q2 fun ρ3 h3 H3 u z s3 e3 r3 q3 => ?_⟩
      have r1' := (r1.ext e2).ext e3
      cases r1' with
      | @ref j a hj =>
        cases k : mkey y with
        | none => rw [k] at q3; exact q3.elim
        | some k' =>
          rw [k] at q3
          have q' : Post ⟨X.K, T⟩ (rV ⟨X.K, T⟩) ρ3 H3 Q E (match h3.get j with
            | some (.dic kvs) => if kvs.length < 1000000 then match dval keq kvs k' with
                | some v => .ok v h3
                | none => .ok u (h3.set j (.dic (dput keq kvs k' u)))
              else .bad
            | _ => .bad) := q3
          cases g : h3.get j with
          | none => rw [g] at q'; exact q'.elim
          | some ob =>
            rw [g] at q'
            cases ob with
            | dic kvs =>
              dsimp only at q'
              obtain ⟨vs, h4, h5⟩ := s3.hr.obj g hj
              by_cases c : kvs.length < 1000000
              · rw [if_pos c] at q'
                refine ⟨vs, kOf k', h4, mkey_ok (r2.ext e3) k, by rw [← h5.length, sizeLine_eq]; omega, fun v' l => ?_, fun l => ?_⟩
                · rcases dval_ok (e := keq) (f := kOf) (fun a b => keq_iff) h5 k' with ⟨l1, l2⟩ | ⟨y', w', l1, l2, l3⟩
                  · rw [l] at l2; cases l2
                  · rw [l] at l2; cases l2
                    rw [l1] at q'
                    exact q'.ok s3.hr l3
                · rcases dval_ok (e := keq) (f := kOf) (fun a b => keq_iff) h5 k' with ⟨l1, l2⟩ | ⟨y', w', l1, l2, l3⟩
                  · rw [l1] at q'
                    have x1 := s3.hr.grow g hj (.dK (putK vs (kOf k') z))
                    exact q' ρ3 _ _ x1 (s3.hr.set g hj ⟨_, upd_same, dput_ok (e := keq) (f := kOf) (fun a b => keq_iff) (h5.ext x1) (r3.ext x1)⟩) (r3.ext x1)
                  · rw [l] at l2; cases l2
              · rw [if_neg c] at q'; exact q'.elim
            | _ => exact q'.elim
      | _ => exact q3.elim
    · rw [if_neg d] at q1; exact q1.elim
def okD (d : PyData) : Bool := SeqAt.shaped d
def it1C (lo c : Int) (n : Nat) : It1 := ⟨fun _ => n, fun i _ => some (if i < n then some (.int (lo + (i : Nat) * c)) else none)⟩
theorem rI_rngC {Z : Zt} {ρ : List Addr} {H : Hp} {lo c : Int} {n : Nat} : rI Z ρ H (it1C lo c n) (Itc lo c n) := by
  intro i ρ' h' H' e R
  show match some (if i < n then some (MV.int (lo + (i : Nat) * c)) else none) with
    | none => True
    | some none => (Itc lo c n).stop i H'
    | some (some x) => (Itc lo c n).go i H' ∧ ∀ v H'', (Itc lo c n).yld i H' v H'' → ∃ ρ'', Ext ρ' H' ρ'' H'' ∧ HR Z ρ'' h' H'' ∧ RV Z ρ'' H'' x v
  by_cases hi : i < n
  · rw [if_pos hi]
    refine ⟨hi, fun w H'' y => ?_⟩
    obtain ⟨rfl, rfl⟩ := y
    exact ⟨ρ', .refl, R, .int _⟩
  · rw [if_neg hi]
    exact Nat.le_of_not_lt hi
def rngOk (i j c : Int) : Bool := decide (c ≠ 0) && decide (c.natAbs < 1073741824) && Builtin.Range.small i j c && decide (0 ≤ Builtin.Range.rangeSize i j c)
def gRng3 (a b c : ME) : MI1 := fun m h => (a m h).bind fun x h1 => (b m h1).bind fun y h2 => (c m h2).bind fun z h3 => match x, y, z with
  | .int i, .int j, .int k => if rngOk i j k = true then .ok (it1C i k (Builtin.Range.rangeSize i j k).toNat) h3 else .bad
  | _, _, _ => .bad
theorem ji_range3 {tg c : Expr} {gc : ME} {p : Pos} (hg : Gl X "range") (hm : X.mg "range" = none) (ha : JE X T E a ga) (hb : JE X T E b gb) (hc : JE X T E c gc)
    (hs : starEach [a, b, c] X.env = (false, eval a X.env) :: starEach [b, c] X.env := by rfl) (hs2 : starEach [b, c] X.env = (false, eval b X.env) :: starEach [c] X.env := by rfl) (hs3 : starEach [c] X.env = (false, eval c X.env) :: starEach [] X.env := by rfl)
    (hpl : (backTo pos (starEach [b, c] X.env)).any (·.1) = false := by rfl) :
    JI X T E tg (.Call (.Name "range" p) [a, b, c] [] pos) (gRng3 ga gb gc) :=
  PI.le (pi_range3 hg hm (pa_cons ha (pa_cons hb (pa_cons hc pa_nil hs3) hs2) hs) hs hpl) fun σ H R ⟨ρ, m, h, s, q⟩ => stepI s q fun ρ1 h1 H1 x v s1 e1 r1 q1 => stepI s1 q1 fun ρ2 h2 H2 y w s2 e2 r2 q2 => stepI s2 q2 fun ρ3 h3 H3 z u s3 e3 r3 q3 => by
    cases r1 with
    | int i =>
      cases r2 with
      | int j =>
        cases r3 with
        | int k =>
          have q' : Post ⟨X.K, T⟩ (rI ⟨X.K, T⟩) ρ3 H3 R E (if rngOk i j k = true then .ok (it1C i k (Builtin.Range.rangeSize i j k).toNat) h3 else .bad) := q3
          by_cases c : rngOk i j k = true
          · rw [if_pos c] at q'
            simp only [rngOk, Bool.and_eq_true, decide_eq_true_eq] at c
            exact ⟨i, j, k, _, rfl, ⟨c.1.1.1, c.1.1.2, c.1.2, (Int.toNat_of_nonneg c.2).symm⟩, q'.ok s3.hr rI_rngC⟩
          · rw [if_neg c] at q'; exact q'.elim
        | _ => exact q3.elim
      | _ => exact q3.elim
    | _ => exact q3.elim
theorem je_glI {x : Str} {i : Int} (hg : Gl X x) (hm : ∃ t, X.mg x = some (.int i t)) (hd : (x == ("__debug__" : Str)) = false := by decide) (hcd : (x == ("__classdict__" : Str)) = false := by decide) : JE X T E (.Name x pos) (gC (.int i)) := by
  obtain ⟨t, hm⟩ := hm
  exact je_c (w := .int i) (pe_glob hg hm ⟨t, rfl⟩ hd) fun _ _ => .int _
theorem je_glS {x : Str} {l : List Nat} (hg : Gl X x) (hm : ∃ t, X.mg x = some (.str ⟨l.toArray⟩ t)) (hd : (x == ("__debug__" : Str)) = false := by decide) (hcd : (x == ("__classdict__" : Str)) = false := by decide) : JE X T E (.Name x pos) (gC (.str l)) := by
  obtain ⟨t, hm⟩ := hm
  exact je_c (w := .str ⟨l.toArray⟩) (pe_glob hg hm ⟨t, rfl⟩ hd) fun _ _ => .str _
end
end MI
set_option Elab.async false
set_option linter.all false
set_option maxRecDepth 100000
set_option maxHeartbeats 4000000
namespace ET
open PySem PySem.Spec PyProof.Rows L2
section
variable {prog : Program} {w : World} {A : Around} {E : Value → Shared → Prop} {s : Shared}
theorem next_item {j t : Addr} {i : Nat} {its : Array Value} {v : Value} {Q : Value → Shared → Prop} (a1 : s.heap.IsTupleIter j t i) (a2 : s.heap.IsTuple t its) (a3 : its[i]? = some v)
    (k : ∀ h', h'.IsTupleIter j t (i + 1) → Heap.SameBut j s.heap h' → Q v { s with heap := h' }) : wpAny (model prog w) A (Builtin.SmallTypes.nextOf (.ref j)) Q E s := by
  obtain ⟨o, b1, b2, b3⟩ := id a1
  obtain ⟨u, c1, _, m, c2⟩ := a2
  unfold Builtin.SmallTypes.nextOf
  refine wpAny_bind (wpAny_callSpecial?_slot (name := Str.ofString "__next__") a1.typeIs F.slot_tuple_iterator_next
    (wpAny_call_entry F.slot_tuple_iterator_next a1.typeIs F.entry_tuple_iterator_next ?_ (F.args_tuple_iterator_next_1 _)))
  show wpAny _ _ (field (.ref j) 0 >>= _) _ _ s
  refine wpAny_bind (wpAny_field b1 b3 (x := .ref t) rfl ?_)
  show wpAny _ _ (if (Value.ref t == Value.none) = true then _ else _) _ _ s
  rw [if_neg (show ¬ (Value.ref t == Value.none) = true from fun z => nomatch z)]
  show wpAny _ _ (field (.ref j) 1 >>= _) _ _ s
  refine wpAny_bind (wpAny_field b1 b3 (x := .int i 0) rfl ?_)
  show wpAny _ _ (seqItems? (.ref t) >>= _) _ _ s
  refine wpAny_bind (wpAny_seqItems c1 c2 ?_)
  simp only [Int.toNat_natCast, a3]
  refine wpAny_bind (wpAny_setField b1 b3 (by simp) (wpAny_pure ⟨_, rfl, wpAny_pure (k _ ?_ (Heap.SameBut.update ..))⟩))
  exact ⟨_, Heap.get?_update_self _ b1 (Obj.isFreed_of_fields (Obj.data_mapFields b3 _)), (Obj.cls_mapFields ..).trans b2, by rw [Obj.data_mapFields b3]; simp [rawInt]⟩
theorem next_end {j t : Addr} {i : Nat} {its : Array Value} {Q : Value → Shared → Prop} (hn : A.handled = none) (a1 : s.heap.IsTupleIter j t i) (a2 : s.heap.IsTuple t its) (a3 : its[i]? = none)
    (k : ∀ h' e, Heap.ExtBut j s.heap h' → (∃ o, h'.get? e = some o ∧ o.cls = .type "StopIteration") → E (.ref e) { s with heap := h' }) : wpAny (model prog w) A (Builtin.SmallTypes.nextOf (.ref j)) Q E s := by
  obtain ⟨o, b1, b2, b3⟩ := id a1
  obtain ⟨u, c1, _, m, c2⟩ := a2
  unfold Builtin.SmallTypes.nextOf
  refine wpAny_bind (wpAny_callSpecial?_slot (name := Str.ofString "__next__") a1.typeIs F.slot_tuple_iterator_next
    (wpAny_call_entry F.slot_tuple_iterator_next a1.typeIs F.entry_tuple_iterator_next ?_ (F.args_tuple_iterator_next_1 _)))
  show wpAny _ _ (field (.ref j) 0 >>= _) _ _ s
  refine wpAny_bind (wpAny_field b1 b3 (x := .ref t) rfl ?_)
  show wpAny _ _ (if (Value.ref t == Value.none) = true then _ else _) _ _ s
  rw [if_neg (show ¬ (Value.ref t == Value.none) = true from fun z => nomatch z)]
  show wpAny _ _ (field (.ref j) 1 >>= _) _ _ s
  refine wpAny_bind (wpAny_field b1 b3 (x := .int i 0) rfl ?_)
  show wpAny _ _ (seqItems? (.ref t) >>= _) _ _ s
  refine wpAny_bind (wpAny_seqItems c1 c2 ?_)
  simp only [Int.toNat_natCast, a3]
  refine wpAny_bind (wpAny_rule (wpAny_bind (wpAny_setField b1 b3 (by simp) ?_)))
  show wpAny _ _ (newExc (.type "StopIteration") [] >>= _) _ _ _
  refine wpAny_bind ?_
  simp only [newExc, newTuple]
  refine wpAny_bind (wpAny_newObj_type ?_ (by size_fits))
  refine wpAny_bind (m := firstArgMember _ _) (wpAny_of_eq (a := Value.none) (by first | rfl | (simp only [firstArgMember]; rfl)) ?_)
  refine wpAny_newObj_type ?_ (by size_fits)
  simp only [raiseNew]
  refine wpAny_bind (wpAny_handled ?_)
  first | rw [show A.in1.handled = none from hn] | rw [hn]
  refine wpAny_bind (wpAny_pure (wpAny_throw ?_))
  exact k _ _ (((Heap.SameBut.update ..).extBut.push _).push _) ⟨_, Heap.get?_push_size _ rfl, rfl⟩
end
theorem draws {prog : Program} {w : World} {A : Around} (hn : A.handled = none) (j t : Addr) (d : t ≠ j) (its : Array Value) :
    Draws prog w A j [j, t] its.size (fun i v => its[i]? = some v) (fun i h => h.IsTupleIter j t i ∧ h.IsTuple t its) where
  live := fun _ _ st => let ⟨o, ho, _⟩ := st.1; ⟨o, ho⟩
  frame := fun _ _ _ st hk => ⟨let ⟨o, ho, r⟩ := st.1; ⟨o, hk j (by simp) o ho, r⟩, let ⟨o, ho, r⟩ := st.2; ⟨o, hk t (by simp) o ho, r⟩⟩
  item := fun i s Q E hi st hQ => by
    refine next_item st.1 st.2 (v := its[i]) (by simp [hi]) fun h' q1 q2 => ?_
    exact hQ _ h' s.toks (by simp [hi]) ⟨q1, st.2.extBut q2.extBut d⟩ q2
  done := fun s Q E st hE => next_end hn st.1 st.2 (by simp) hE
theorem newT (t : Addr) (its : Array Value) (n : Nat) (dd : Option Addr) (sl : Array (Option Value)) :
    Meets (Builtin.«enumerate.__new__» ⟨[.type "enumerate", .ref t], []⟩) (fun _ R s => s.heap.get? t = some { cls := .type "tuple", dict := dd, data := .seq its n, slots := sl } ∧
      R (.ok (.ret (.ref (s.heap.push { cls := .type "tuple_iterator", data := .fields #[.ref t, .int 0 0] }).objs.size)))
        { s with heap := (s.heap.push { cls := .type "tuple_iterator", data := .fields #[.ref t, .int 0 0] }).push { cls := .type "enumerate", data := .fields #[.none, .bool false, .ref s.heap.objs.size, rawInt 0, .none, .none] } }) :=
  .of_wp fun prog w A R s h => by
    obtain ⟨hp, g, d, tk, os⟩ := s; obtain ⟨hl, h⟩ := h
    have q0 := sub_enumerate
    have hL : Heap.IsTuple (Shared.heap ⟨hp, g, d, tk, os⟩) t its := ⟨_, hl, rfl, n, rfl⟩
    wp_walk using wpAny_loadPart' hl
    refine wpAny_stack_any fun st => wpAny_pure ?_
    split
    · rename_i c _ _ _ _ _
      cases (c == Value.type "enumerate")
      · wp_walk using wpAny_loadPart' hl, wpAny_pyIter_tuple hL
        exact ⟨_, rfl, h⟩
      · wp_walk using wpAny_loadPart' hl, wpAny_pyIter_tuple hL
        exact ⟨_, rfl, h⟩
    · wp_walk using wpAny_loadPart' hl, wpAny_pyIter_tuple hL
      exact ⟨_, rfl, h⟩
section
variable {prog : Program} {w : World} {A : Around} {E : Value → Shared → Prop} {s : Shared}
theorem make {t : Addr} {its : Array Value} {Q : Value → Shared → Prop} (hL : s.heap.IsTuple t its)
    (h : ∀ h', IsEnum h' (s.heap.objs.size + 1) s.heap.objs.size 0 .none → h'.IsTupleIter s.heap.objs.size t 0 → h'.objs.size = s.heap.objs.size + 2 →
      (∀ b o, s.heap.get? b = some o → h'.get? b = some o) → Q (.ref (s.heap.objs.size + 1)) { s with heap := h' }) : wpAny (model prog w) A (call (.type "enumerate") [.ref t]) Q E s := by
  obtain ⟨⟨c, dct, dt, sl⟩, hl, hc, n, hd⟩ := hL
  replace hc : c = .type "tuple" := hc
  replace hd : dt = .seq its n := hd
  subst hc hd
  refine callType_new F.called_enumerate (by decide) (F.typeCall_enumerate_1 _) (F.newCall_enumerate_1 _) (fun obj => F.args_object_init_2 obj _) F.entry_enumerate_new (newT t its n dct sl) ⟨hl, ?_⟩
  have z1 : (s.heap.push { cls := .type "tuple_iterator", data := .fields #[.ref t, .int 0 0] }).objs.size = s.heap.objs.size + 1 := Heap.size_push ..
  show _ ∧ _
  rw [z1]
  have e1 : IsEnum ((s.heap.push { cls := .type "tuple_iterator", data := .fields #[.ref t, .int 0 0] }).push
      { cls := .type "enumerate", data := .fields #[.none, .bool false, .ref s.heap.objs.size, rawInt 0, .none, .none] }) (s.heap.objs.size + 1) s.heap.objs.size 0 .none := by
    have q := Heap.get?_push_size (s.heap.push { cls := .type "tuple_iterator", data := .fields #[.ref t, .int 0 0] })
      (o := { cls := .type "enumerate", data := .fields #[.none, .bool false, .ref s.heap.objs.size, rawInt 0, .none, .none] }) rfl
    rw [z1] at q; exact q
  exact ⟨⟨_, e1, rfl⟩, h _ e1 ⟨_, Heap.get?_push_of_some _ (Heap.get?_push_size _ rfl), rfl, rfl⟩ (by rw [Heap.size_push, z1]) fun b o x => Heap.get?_push_of_some _ (Heap.get?_push_of_some _ x)⟩
end
def Itet (K : PySem.W.Frag) (a : Addr) : It :=
  ⟨fun i H => ∃ (xs : List V) (x : V), SqT K H a xs ∧ xs[i]? = some x, fun i H v H' => ∃ T x, v = .ref T ∧ H T = none ∧ H' = upd H T (.tup [.int (i : Nat), x]) ∧ ∀ xs, SqT K H a xs → xs[i]? = some x,
    fun i H => ∃ xs : List V, SqT K H a xs ∧ xs.length ≤ i⟩
theorem turn {P : Program} {w : World} {K : PySem.W.Frag} {elts : List Expr} {kk : Nat} {tpos : Pos} (a e it : Addr) :
    Turn P w K (.Tuple elts kk tpos) (Itet K a) [e, it] e (fun i h => (∃ old, IsEnum h e it ((i : Nat) : Int) old) ∧ h.IsTupleIter it a i ∧ e ≠ it ∧ e ≠ a ∧ a ≠ it) where
  mem := by simp
  obj := fun i h st b hb => by
    obtain ⟨⟨old, he⟩, ⟨o, ho, hc, hd⟩, _⟩ := st
    rcases (by simpa using hb : b = e ∨ b = it) with z | z
    · rw [z]; exact ⟨_, he, fun v q => nomatch q⟩
    · rw [z]; exact ⟨o, ho, fun v q => by rw [hd] at q; cases q⟩
  keep := fun i h h' st k => by
    obtain ⟨⟨old, he⟩, ⟨o, ho, r⟩, hne⟩ := st
    exact ⟨⟨old, k e (by simp) _ he⟩, ⟨o, k it (by simp) o ho, r⟩, hne⟩
  item := by
    intro X hP hw hK hc i pins s σ H E I hf st hg
    subst hP hw hK
    obtain ⟨⟨old, he⟩, hit, n1, n2, n3⟩ := st
    obtain ⟨xs, x, hq, hx⟩ := hg
    obtain ⟨its, rv, p, hz⟩ := I.tuple hq
    obtain ⟨u, hu, ru⟩ := rv.get hx
    have hu' : its.toArray[i]? = some u := by simpa using hu
    have lt1 : e < s.heap.objs.size := Heap.lt_size he
    have lt2 : it < s.heap.objs.size := by obtain ⟨_, q, _⟩ := hit; exact Heap.lt_size q
    refine wpAny_pyNext_enum_itemD (draws (A := X.A.in1) (I.ok.hd hc) it a n3 its.toArray) he ⟨hit, p⟩ (by have := (Array.getElem?_eq_some_iff.mp hu').1; exact this) n1 (by simp [n1, n2]) fun x' h' tk hP ho hst hT hsz hk => ?_
    have ex : x' = u := by
      have hP' : its.toArray[i]? = some x' := hP
      rw [hu'] at hP'; exact (Option.some.inj hP').symm
    subst ex
    refine ⟨_, rfl, wpAny_letOwnedTupleGo_enum (s := { s with heap := h', toks := tk + 1 }) ho fun h'' he' sb => ?_⟩
    have hT2 : h''.get? s.heap.objs.size = some { cls := .type "tuple", data := .seq #[.int i tk, x'] } := (sb.2 _ (Nat.ne_of_gt lt1)).trans hT
    have new : ObjOk X.prog X.w (upd H s.heap.objs.size (.tup [.int (i : Nat), x])) h'' s.heap.objs.size (.tup [.int (i : Nat), x]) :=
      ⟨by show 2 ≤ sizeLine; decide, [.int i tk, x'], .cons ⟨_, rfl⟩ (.cons ru .nil), ⟨_, hT2, rfl, _, rfl⟩⟩
    have I1 : Inv X pins σ (upd H s.heap.objs.size (.tup [.int (i : Nat), x])) { s with heap := h'', toks := tk + 1 } :=
      I.turnedNew (ch := [e, it]) (fun b ob hb q => (sb.2 b (fun z => hb (by simp [z]))).trans (hk b ob (fun z => hb (by simp [z])) (fun z => hb (by simp [z])) q)) hf (Nat.le_refl _) new
    refine ⟨.ref s.heap.objs.size, _, I1, rfl, ⟨_, x, rfl, I.hok.fresh (Nat.le_refl _), rfl, fun ys hy => by rw [I.tuple_inj hy hq]; exact hx⟩, ⟨⟨x', ?_⟩, ?_, n1, n2, n3⟩, fun b hb => ?_⟩
    · have e1 : ((i + 1 : Nat) : Int) = (i : Int) + 1 := by omega
      rw [e1]; exact he'
    · obtain ⟨o, ho2, r⟩ := hst.1
      exact ⟨o, (sb.2 it (Ne.symm n1)).trans ho2, r⟩
    · have hb' : b < s.heap.objs.size := by
        rcases (by simpa using hb : b = e ∨ b = it) with z | z
        · rw [z]; exact lt1
        · rw [z]; exact lt2
      rw [upd_ne (Nat.ne_of_lt hb')]
      exact (hf b hb).1
  done := by
    intro X hP hw hK hc i pins s σ H E I hf st hg
    subst hP hw hK
    obtain ⟨⟨old, he⟩, hit, n1, n2, n3⟩ := st
    obtain ⟨xs, hq, hx⟩ := hg
    obtain ⟨its, rv, p, hz⟩ := I.tuple hq
    obtain ⟨f0, f1, f2, f3, f4, f5⟩ := hf it (by simp)
    have hl := rv.length
    have hend : its.toArray[i]? = none := by simp; omega
    have hT : s.TypeIs (.ref e) "enumerate" := ⟨_, he, rfl⟩
    unfold pyNext
    refine wpAny_bind (wpAny_attempt (wpAny_callSpecial?_slot (name := Str.ofString "__next__") hT F.slot_enumerate_next
      (wpAny_call_entry F.slot_enumerate_next hT F.entry_enumerate_next ?_ (F.args_enumerate_next_1 _))))
    show wpAny _ _ (field (.ref e) 2 >>= _) _ _ s
    refine wpAny_bind (wpAny_field he rfl (x := .ref it) rfl ?_)
    refine wpAny_bind (next_end (A := X.A.in1) (I.ok.hd hc) hit p hend fun h' x q1 q2 => ?_)
    obtain ⟨o, ho, hcl⟩ := q2
    refine wpAny_bind (wpAny_isInstance (T := "StopIteration") (b := true) ⟨o, ho, hcl⟩ isSubtype_stop ?_)
    exact wpAny_pure ⟨rfl, I.turned (t' := s.toks) (fun b o hb q => q1 b o hb q) f0 f1 f3 f4 f5⟩
  self := fun A i s Q E st h => let ⟨⟨_, he⟩, _⟩ := st; wpAny_pyIter_enum he h
def iEnumT (K : PySem.W.Frag) (ta : TA) : TI := fun σ H R => ta σ H fun vs H1 => ∃ a xs, vs = [.ref a] ∧ SqT K H1 a xs ∧ R (Itet K a) H1
theorem pi_enumT {X : Cx} {e : Expr} {ta : TA} {p pos tpos : Pos} {elts : List Expr} {kk : Nat} (hg : Gl X "enumerate") (hm : X.mg "enumerate" = none) (ha : PA X [e] ta) (hs : starEach [e] X.env = [(false, eval e X.env)] := by rfl) :
    PI X (.Tuple elts kk tpos) (.Call (.Name "enumerate" p) [e] [] pos) (iEnumT X.K ta) := by
  refine ⟨fun pins s σ H R I h => ?_⟩
  refine Call_ (ld_blt I hg hm boot_enumerate (PyProof.Rows.callWith_type1 (thn (ha.run pos pins s σ H _ I h) fun us s1 ⟨vs, H1, I1, r1, q1⟩ => ?_) hs rfl))
  obtain ⟨a, xs, ex, hq, q⟩ := q1
  subst ex
  cases r1 with
  | cons r rr =>
    cases rr
    cases r
    obtain ⟨its, rv, p', hz⟩ := I1.tuple hq
    have lta : a < s1.heap.objs.size := by obtain ⟨_, q, _⟩ := p'; exact Heap.lt_size q
    refine make p' fun h' he hit hsz hk => wpAny_pyIter_enum he ?_
    have I2 : Inv X pins σ H1 { s1 with heap := h' } := I1.kept (t' := s1.toks) hk
    refine ⟨s1.heap.objs.size + 1, [s1.heap.objs.size + 1, s1.heap.objs.size], _, _, H1, rfl, I2, turn a (s1.heap.objs.size + 1) s1.heap.objs.size, ⟨⟨.none, he⟩, hit, Nat.succ_ne_self _, Nat.ne_of_gt (Nat.lt_succ_of_lt lta), Nat.ne_of_lt lta⟩, fun b hb => ?_, q⟩
    have hle : s1.heap.objs.size ≤ b := by
      rcases (by simpa using hb : b = s1.heap.objs.size + 1 ∨ b = s1.heap.objs.size) with z | z
      · rw [z]; exact Nat.le_add_right _ _
      · rw [z]; exact Nat.le_refl _
    exact I1.fpOk hle (I1.hok.fresh hle)
end ET
namespace MI
open PySem PySem.Spec PyProof.Rows L2 JB
def gEnumA (a : ME) : MI1 := fun m h => (a m h).bind fun x h1 => match x with
  | .fls xs => .ok (it1E xs) h1
  | .tup xs => .ok (it1E xs) h1
  | .ktp xs => .ok (it1E xs) h1
  | .ref j => match h1.get j with
    | some (.lst _) => .ok (it1EL j) h1
    | _ => .bad
  | _ => .bad
section
variable {X : Cx} {T : Nat → Addr} {E : XK} {e a : Expr} {ga : ME} {pos p : Pos}
theorem rI_enumT {Z : Zt} {ρ ρ' : List Addr} {h' : MH} {H H' : Hp} {a : Addr} {i : Nat} {xs : List MV} {vs : List V} (R : HR Z ρ' h' H') (sq : SqT Z.K H' a vs) (r : RVs Z ρ' H' xs vs) :
    match some (xs[i]?.map fun x => MV.tup [.int (i : Nat), x]) with
    | none => True
    | some none => (ET.Itet Z.K a).stop i H'
    | some (some x) => (ET.Itet Z.K a).go i H' ∧ ∀ v H'', (ET.Itet Z.K a).yld i H' v H'' → ∃ ρ'', Ext ρ' H' ρ'' H'' ∧ HR Z ρ'' h' H'' ∧ RV Z ρ'' H'' x v := by
  cases g : xs[i]? with
  | none => exact ⟨vs, sq, r.none g⟩
  | some x =>
    obtain ⟨v, h1, h2⟩ := r.get g
    refine ⟨⟨vs, v, sq, h1⟩, fun w H'' y => ?_⟩
    obtain ⟨t, x', rfl, ht, rfl, y⟩ := y
    have z := y vs sq
    rw [h1] at z
    cases z
    exact ⟨ρ', Ext.still1 ht, R.still1 ht, .tup upd_same (.cons (.int _) (.cons (h2.ext (Ext.still1 ht)) .nil))⟩
theorem ji_enumT {elts : List Expr} {kk : Nat} {tpos : Pos} (hg : Gl X "enumerate") (hm : X.mg "enumerate" = none) (ha : JE X T E a ga) (hs : starEach [a] X.env = [(false, eval a X.env)] := by rfl) :
    JI X T E (.Tuple elts kk tpos) (.Call (.Name "enumerate" p) [a] [] pos) (gEnumA ga) := by
  refine PI.le (PI.or (ET.pi_enumT hg hm (pa_cons ha pa_nil hs) hs) (ji_enum hg hm ha hs)) fun σ H R ⟨ρ, m, h, s, q⟩ => ?_
  by_cases c : ∀ x h1, ga m h = .ok x h1 → isL x = false
  · refine .inl (show tE ⟨X.K, T⟩ E ga σ H _ from ⟨ρ, m, h, s, ?_⟩)
    have q' : Post ⟨X.K, T⟩ (rI ⟨X.K, T⟩) ρ H R E ((ga m h).bind fun x h1 => match x with
      | .fls xs => .ok (it1E xs) h1
      | .tup xs => .ok (it1E xs) h1
      | .ktp xs => .ok (it1E xs) h1
      | .ref j => match h1.get j with
        | some (.lst _) => .ok (it1EL j) h1
        | _ => .bad
      | _ => .bad) := q
    generalize ga m h = o at q' c ⊢
    cases o with
    | bad => exact q'
    | er x h1 => exact q'
    | ok x h1 =>
      intro ρ1 H1 v e1 r1 rv
      have c' := c x h1 rfl
      cases rv with
      | @tup ad xs vs h2 r2 =>
        have q2 : Post ⟨X.K, T⟩ (rI ⟨X.K, T⟩) ρ H R E (.ok (it1E xs) h1) := q'
        exact ⟨ad, vs, rfl, .inl (.inl h2), q2 ρ1 H1 _ e1 r1 fun i ρ' h' H' e R' => rI_enumT (ρ := ρ1) (H := H1) R' (.inl (.inl (e.still _ _ h2 trivial))) (r2.ext e)⟩
      | @ktp ad xs vs h2 r2 =>
        have q2 : Post ⟨X.K, T⟩ (rI ⟨X.K, T⟩) ρ H R E (.ok (it1E xs) h1) := q'
        exact ⟨ad, vs, rfl, ktp_sq h2, q2 ρ1 H1 _ e1 r1 fun i ρ' h' H' e R' => rI_enumT (ρ := ρ1) (H := H1) R' (ktp_sq h2) (r2.ext e)⟩
      | _ => cases c'
  · refine .inr ⟨ρ, m, h, s, ?_⟩
    have q' : Post ⟨X.K, T⟩ (rI ⟨X.K, T⟩) ρ H R E (gEnumA ga m h) := q
    unfold gEnumA at q'
    unfold gEnum
    generalize ga m h = o at q' c ⊢
    cases o with
    | bad => exact q'
    | er x h1 => exact q'
    | ok x h1 =>
      cases x with
      | tup xs => exact absurd (fun x h2 z => by cases z; rfl) c
      | ktp xs => exact absurd (fun x h2 z => by cases z; rfl) c
      | _ => exact q'
end
end MI
set_option Elab.async false
set_option linter.all false
set_option maxRecDepth 100000
set_option maxHeartbeats 400000
namespace MX
open PySem PySem.Spec PyProof.Rows L2
section
variable {prog : Program} {w : World} {A : Around} {R : Result → Shared → Prop} {I : Addr} {fp wr : List Addr} {n : Nat} {P : Nat → Value → Prop} {St : Nat → Heap → Prop} {z : Value}
theorem nm2 : (toString "max" ++ toString ".loop" : String) = "max.loop" := by decide
theorem again (W : Walks prog w A.in1 I fp wr n P St) (bt : Nat → Nat → Bool) (cm : CmpOf prog w A.in1 .Gt P bt) (S : Addr) (nS : S ∉ fp) :
    ∀ (k j : Nat) (s : Shared) (b : Value) (c : Nat), n - (j + 1) = k → j + 1 ≤ n → St (j + 1) s.heap → P (argBest bt j) b → s.heap.get? S = some { cls := .type "list", dict := none, data := .seq #[b, b] c, slots := #[] } →
    (∀ v h' tk, P (argBest bt (n - 1)) v → (∀ a o, a ∉ wr → a ≠ S → s.heap.get? a = some o → h'.get? a = some o) → R (.ok (.ret v)) { s with heap := h', toks := tk }) →
    codeAny (model prog w) A (.builtin "max.loop" ⟨[.ref I, .none, .ref S], [("default", z)]⟩) R s := by
  have nW : S ∉ wr := fun h => nS (W.sub _ h)
  intro k
  induction k with
  | zero =>
    intro j s b c hk hj st hP hS hR
    have hin : n = j + 1 := by omega
    subst hin
    refine codeAny_builtin F.entry_max_loop ?_
    rw [Around.under_plainId F.plain_max_loop _]
    show wpAny _ A.in1 (seqItems? (.ref S) >>= _) _ _ s
    refine wpAny_bind (wpAny_seqItems hS rfl ?_)
    show wpAny _ A.in1 (tryCatch (pyNext (.ref I)) _ >>= _) _ _ s
    refine wpAny_bind (wpAny_tryCatch (W.done s _ _ st fun h' tk q => ?_))
    have hS' := q S _ nW hS
    show wpAny _ A.in1 (updateSeq S (fun _ => #[]) >>= _) _ _ _
    refine wpAny_bind (wpAny_updateSeq hS' rfl (wpAny_bind (wpAny_letGo (wpAny_pure ?_))))
    exact hR b _ tk hP fun a o a1 a2 e => (Heap.get?_update_other _ _ (Ne.symm a2)).trans (q a o a1 e)
  | succ k ih =>
    intro j s b c hk hj st hP hS hR
    have lt : j + 1 < n := by omega
    refine codeAny_builtin F.entry_max_loop ?_
    rw [Around.under_plainId F.plain_max_loop _]
    show wpAny _ A.in1 (seqItems? (.ref S) >>= _) _ _ s
    refine wpAny_bind (wpAny_seqItems hS rfl ?_)
    show wpAny _ A.in1 (tryCatch (pyNext (.ref I)) _ >>= _) _ _ s
    refine wpAny_bind (wpAny_tryCatch (W.item (j + 1) s _ _ lt st fun v h' tk p st' q => ?_))
    have hS' := q S _ nW hS
    show wpAny _ A.in1 (tryCatch (holding [v, v] (richCompare .Gt v b >>= _)) _ >>= _) _ _ _
    refine wpAny_bind (wpAny_tryCatch (wpAny_holding (wpAny_bind (cm (j + 1) (argBest bt j) v b _ _ _ p hP ?_))))
    refine wpAny_bind (wpAny_holding (wpAny_truthy_bool ?_))
    refine wpAny_bind (wpAny_letGo (wpAny_pure ?_))
    cases hb : bt (j + 1) (argBest bt j) with
    | true =>
      simp only [if_true]
      refine wpAny_bind (wpAny_updateSeq hS' rfl (wpAny_bind (wpAny_letGo ?_)))
      rw [nm2]
      refine wpAny_pure ⟨plainId_quiet F.plain_max_loop _, ih (j + 1) _ v _ (by omega) lt (W.frame _ _ _ st' fun a ha o e => ?_) (by simp only [argBest, hb, if_true]; exact p) (Heap.get?_update_self _ hS' rfl) fun v' h'' tk'' p' q' => ?_⟩
      · exact (Heap.get?_update_other _ _ (fun h : S = a => nS (by rw [h]; exact ha))).trans e
      · exact hR v' h'' tk'' p' fun a o a1 a2 e => q' a o a1 a2 ((Heap.get?_update_other _ _ (Ne.symm a2)).trans (q a o a1 e))
    | false =>
      simp only [Bool.false_eq_true, if_false]
      refine wpAny_bind (wpAny_letGo ?_)
      rw [nm2]
      refine wpAny_pure ⟨plainId_quiet F.plain_max_loop _, ih (j + 1) _ b c (by omega) lt st' (by simp only [argBest, hb, Bool.false_eq_true, if_false]; exact hP) hS' fun v' h'' tk'' p' q' => ?_⟩
      exact hR v' h'' tk'' p' fun a o a1 a2 e => q' a o a1 a2 (q a o a1 e)
theorem first (W : Walks prog w A.in1 I fp wr n P St) (bt : Nat → Nat → Bool) (cm : CmpOf prog w A.in1 .Gt P bt) (S : Addr) (nS : S ∉ fp) {s : Shared} {c : Nat} (st : St 0 s.heap)
    (hS : s.heap.get? S = some { cls := .type "list", dict := none, data := .seq #[] c, slots := #[] })
    (h0 : n = 0 → ∀ h' tk, (∀ a o, a ∉ wr → a ≠ S → s.heap.get? a = some o → h'.get? a = some o) → R (.ok (.ret z)) { s with heap := h', toks := tk })
    (hR : 0 < n → ∀ v h' tk, P (argBest bt (n - 1)) v → (∀ a o, a ∉ wr → a ≠ S → s.heap.get? a = some o → h'.get? a = some o) → R (.ok (.ret v)) { s with heap := h', toks := tk }) :
    codeAny (model prog w) A (.builtin "max.loop" ⟨[.ref I, .none, .ref S], [("default", z)]⟩) R s := by
  have nW : S ∉ wr := fun h => nS (W.sub _ h)
  refine codeAny_builtin F.entry_max_loop ?_
  rw [Around.under_plainId F.plain_max_loop _]
  show wpAny _ A.in1 (seqItems? (.ref S) >>= _) _ _ s
  refine wpAny_bind (wpAny_seqItems hS rfl ?_)
  show wpAny _ A.in1 (tryCatch (pyNext (.ref I)) _ >>= _) _ _ s
  rcases Nat.eq_zero_or_pos n with hn | hn
  · subst hn
    refine wpAny_bind (wpAny_tryCatch (W.done s _ _ st fun h' tk q => ?_))
    show wpAny _ A.in1 (rule _ >>= _) _ _ _
    refine wpAny_bind (wpAny_rule (wpAny_pure ?_))
    exact h0 rfl h' tk fun a o a1 a2 e => q a o a1 e
  · refine wpAny_bind (wpAny_tryCatch (W.item 0 s _ _ hn st fun v h' tk p st' q => ?_))
    have hS' := q S _ nW hS
    show wpAny _ A.in1 (updateSeq S (fun _ => #[v, v]) >>= _) _ _ _
    refine wpAny_bind (wpAny_updateSeq hS' rfl ?_)
    rw [nm2]
    refine wpAny_pure ⟨plainId_quiet F.plain_max_loop _, again W bt cm S nS _ 0 _ v _ rfl hn (W.frame _ _ _ st' fun a ha o e => ?_) p (Heap.get?_update_self _ hS' rfl) fun v' h'' tk'' p' q' => ?_⟩
    · exact (Heap.get?_update_other _ _ (fun h : S = a => nS (by rw [h]; exact ha))).trans e
    · exact hR hn v' h'' tk'' p' fun a o a1 a2 e => q' a o a1 a2 ((Heap.get?_update_other _ _ (Ne.symm a2)).trans (q a o a1 e))
end
theorem args1 (a z : Value) : argsOk "max" ⟨[a], [("default", z)]⟩ := by unfold argsOk; kernel_rfl
section
variable {prog : Program} {w : World} {A : Around} {E : Value → Shared → Prop} {s : Shared} {z : Value}
theorem kwcall {id : String} {b : Builtin} {args : List Value} {kw : List (Str × Value)} {Q : Value → Shared → Prop} (q0 : builtinKind id = none) (q1 : plainId id = true) (q2 : entryFor table id = some b) (q3 : argsOk id ⟨args, kw⟩)
    (q4 : wpAny (model prog w) A.in1 (b ⟨args, kw⟩) (fun fin s' => match fin with
      | .done f => (match (Except.ok f : Result) with | .ok (.ret v) => Q v s' | .ok _ => False | .error e => E e s')
      | .again c' => c'.quiet = true ∧ codeAny (model prog w) A c' (fun r s' => match r with | .ok (.ret v) => Q v s' | .ok _ => False | .error e => E e s') s') E s) :
    wpAny (model prog w) A (PySem.call (.builtin id) args kw) Q E s := by
  refine wpAny_call (codeAny_call_builtin q1 q2 ?_)
  simp only [checkBuiltinCall, q0]
  cases sg : Manifest.signature? id with
  | none => exact wpAny_pure q4
  | some sig =>
    simp only [argsOk, sg] at q3
    have z2 : Bind.checkArgs id sig ⟨args, kw⟩ = pure () := q3
    show wpAny _ A.in1 (Bind.checkArgs id sig ⟨args, kw⟩) _ _ s
    rw [z2]; exact wpAny_pure q4
theorem call {x : Value} {Q : Value → Shared → Prop}
    (h : wpAny (model prog w) A.in1 (pyIter x) (fun it s₂ => ∃ I fp wr n P St bt, it = .ref I ∧ Walks prog w A.in1 I fp wr n P St ∧ St 0 s₂.heap ∧ (∀ b ∈ fp, b < s₂.heap.objs.size) ∧ CmpOf prog w A.in1 .Gt P bt ∧
      (n = 0 → ∀ h' tk, (∀ a o, a ∉ wr → s₂.heap.get? a = some o → h'.get? a = some o) → Q z { s₂ with heap := h', toks := tk }) ∧
      (0 < n → ∀ v h' tk, P (argBest bt (n - 1)) v → (∀ a o, a ∉ wr → s₂.heap.get? a = some o → h'.get? a = some o) → Q v { s₂ with heap := h', toks := tk })) E s) :
    wpAny (model prog w) A (PySem.call (.builtin "max") [x] [("default", z)]) Q E s := by
  refine kwcall F.kind_max F.plain_max F.entry_max (args1 x z) ?_
  show wpAny _ A.in1 (Builtin.Builtins.bindParams "max" ["key", "default"] 0 ⟨[], [("default", z)]⟩ >>= _) _ _ s
  refine wpAny_bind (wpAny_of_eq (show Builtin.Builtins.bindParams "max" ["key", "default"] 0 ⟨[], [("default", z)]⟩ = pure [none, some z] from rfl) ?_)
  refine wpAny_bind (wpAny_pure ?_)
  refine wpAny_bind (wpAny_mono h (fun it s₂ h₂ => ?_) fun _ _ e => e)
  obtain ⟨I, fp, wr, n, P, St, bt, rfl, W, st, hfp, cm, q0, q1⟩ := h₂
  refine wpAny_bind (wpAny_newObj_type ?_)
  have nS : s₂.heap.objs.size ∉ fp := fun hm => Nat.lt_irrefl _ (hfp _ hm)
  rw [nm2]
  refine wpAny_pure ⟨plainId_quiet F.plain_max_loop _, first W bt cm s₂.heap.objs.size nS (W.frame _ _ _ st fun b _ o e => Heap.get?_push_of_some _ e) (Heap.get?_push_size _ rfl) (fun hn h' tk k => ?_) fun hn v h' tk p k => ?_⟩
  · exact q0 hn h' tk fun a o a1 e => k a o a1 (Nat.ne_of_lt (Heap.lt_size e)) (Heap.get?_push_of_some _ e)
  · exact q1 hn v h' tk p fun a o a1 e => k a o a1 (Nat.ne_of_lt (Heap.lt_size e)) (Heap.get?_push_of_some _ e)
end
end MX
set_option Elab.async false
set_option linter.all false
set_option maxRecDepth 100000
set_option maxHeartbeats 4000000
namespace MX
open PySem PySem.Spec PyProof.Rows L2
def rMaxD (xs zs : List V) (H : Hp) (Q : VK) : Prop := ∃ (a : Addr) (kvs : List (Key × V)) (ks : List Int) (z : V), xs = [.ref a] ∧ zs = [z] ∧ Rd H a (.dK kvs) ∧ kvs.map (·.1) = ks.map Sum.inl ∧
  (ks = [] → Q z H) ∧ ∀ m, m ∈ ks → (∀ y, y ∈ ks → y ≤ m) → Q (.int m) H
theorem cr_maxD {X : Cx} (hcalm : X.calm = true) : CallRK X (.builtin "max") [Str.ofString "default"] rMaxD := by
  intro pins s σ H xs zs us ws Q I r rz q
  obtain ⟨a, kvs, ks, zd, rfl, rfl, hd, hks, q0, q1⟩ := q
  obtain ⟨u, rfl, rx⟩ := vals1 r
  cases rx
  obtain ⟨w1, rfl, rw1⟩ := vals1 rz
  obtain ⟨z, lo, vs, rel, dd⟩ := dk_rd I.hok hd
  obtain ⟨ep, hat⟩ := dd.dictAt
  have hkeys : vs.map (·.1) = ks.map Sum.inl := rel.keys.symm.trans hks
  have hl : vs.length = ks.length := by
    have e := congrArg List.length hkeys
    rw [List.length_map, List.length_map] at e
    exact e
  have lta : a < s.heap.objs.size := by obtain ⟨o, es, ho, _⟩ := hat; exact Heap.lt_size ho
  have keyAt : ∀ (i : Nat) (v : Value), (∃ k x, vs[i]? = some (k, x) ∧ (mixKind X.prog X.w).is k v = true) → ∃ t, v = .int (ks.getD i 0) t := by
    rintro i v ⟨k, x, e1, e2⟩
    have e3 : (vs.map (·.1))[i]? = some k := by rw [List.getElem?_map, e1]; rfl
    rw [hkeys, List.getElem?_map] at e3
    cases e4 : ks[i]? with
    | none => rw [e4] at e3; cases e3
    | some y =>
      rw [e4] at e3
      have e5 : Sum.inl y = k := Option.some.inj e3
      subst e5
      rcases keyIs_shape (show keyIs (Sum.inl y) v = true from e2) with ⟨i', t, ek, ev⟩ | ⟨z', t, ek, ev⟩
      · cases ek
        exact ⟨t, by rw [ev, List.getD_eq_getElem?_getD, e4]; rfl⟩
      · cases ek
  refine call (wpAny_pyIter_dict (knd := mixKind X.prog X.w) lo hat ?_)
  refine ⟨s.heap.objs.size, _, _, _, _, _, fun i j => decide (ks.getD i 0 > ks.getD j 0), rfl, Walks.dictKeys (knd := mixKind X.prog X.w) (A := X.A.in1) (I.ok.hd hcalm) s.heap.objs.size a (Nat.ne_of_lt lta) vs ep, ?_, ?_, CmpOf.ints_gt (fun i => ks.getD i 0) keyAt, ?_, ?_⟩
  · exact ⟨⟨_, Heap.get?_push_size _ rfl, rfl, rfl⟩, hat.push _⟩
  · intro b hb
    show b < (s.heap.push _).objs.size
    rw [Heap.size_push]
    rcases (by simpa using hb : b = s.heap.objs.size ∨ b = a) with e | e
    · rw [e]; exact Nat.lt_succ_self _
    · rw [e]; exact Nat.lt_succ_of_lt lta
  · intro hn h' tk k
    have nil : ks = [] := List.length_eq_zero_iff.mp (by omega)
    refine ⟨zd, H, I.kept (t' := tk) fun b o e => k b o (fun hm => ?_) (Heap.get?_push_of_some _ e), rw1, q0 nil⟩
    have : b = s.heap.objs.size := by simpa using hm
    exact absurd (Heap.lt_size e) (by rw [this]; exact Nat.lt_irrefl _)
  · intro hn v h' tk p k
    obtain ⟨t, rfl⟩ := keyAt _ _ p
    have hb := argBest_gt (fun i => ks.getD i 0) (vs.length - 1)
    have hlt : argBest (fun i j => decide (ks.getD i 0 > ks.getD j 0)) (vs.length - 1) < ks.length := by have := hb.1; omega
    have at_ : ∀ i, i < ks.length → ks.getD i 0 ∈ ks := fun i hi => by
      rw [List.getD_eq_getElem?_getD, List.getElem?_eq_getElem hi]; exact List.getElem_mem hi
    refine ⟨.int _, H, I.kept (t' := tk) fun b o e => k b o (fun hm => ?_) (Heap.get?_push_of_some _ e), ⟨t, rfl⟩, q1 _ (at_ _ hlt) fun y hy => ?_⟩
    · have : b = s.heap.objs.size := by simpa using hm
      exact absurd (Heap.lt_size e) (by rw [this]; exact Nat.lt_irrefl _)
    · obtain ⟨j, hj, rfl⟩ := List.getElem_of_mem hy
      have := hb.2 j (by omega)
      rw [List.getD_eq_getElem?_getD, List.getElem?_eq_getElem hj] at this
      exact this
end MX
namespace MI
open PySem PySem.Spec PyProof.Rows L2 JB
def lmax : Int → List Int → Int
  | m, [] => m
  | m, x :: l => lmax (if m < x then x else m) l
theorem lmax_ge : ∀ (l : List Int) (m : Int), m ≤ lmax m l ∧ ∀ y ∈ l, y ≤ lmax m l
  | [], m => ⟨Int.le_refl _, fun _ h => nomatch h⟩
  | x :: l, m => by
    obtain ⟨h1, h2⟩ := lmax_ge l (if m < x then x else m)
    refine ⟨?_, fun y hy => ?_⟩
    · show m ≤ lmax (if m < x then x else m) l
      split at h1 <;> rename_i c
      · rw [if_pos c]; omega
      · rw [if_neg c]; exact h1
    · show y ≤ lmax (if m < x then x else m) l
      rcases List.mem_cons.mp hy with rfl | hy
      · split at h1 <;> rename_i c
        · rw [if_pos c]; exact h1
        · rw [if_neg c]; omega
      · exact h2 y hy
theorem lmax_mem : ∀ (l : List Int) (m : Int), lmax m l = m ∨ lmax m l ∈ l
  | [], m => .inl rfl
  | x :: l, m => by
    show lmax (if m < x then x else m) l = m ∨ lmax (if m < x then x else m) l ∈ x :: l
    rcases lmax_mem l (if m < x then x else m) with h | h
    · rw [h]; split
      · exact .inr List.mem_cons_self
      · exact .inl rfl
    · exact .inr (List.mem_cons_of_mem _ h)
theorem lmax_uniq {x : Int} {l : List Int} {m : Int} (h1 : m ∈ x :: l) (h2 : ∀ y, y ∈ x :: l → y ≤ m) : m = lmax x l := by
  obtain ⟨g1, g2⟩ := lmax_ge l x
  have a : m ≤ lmax x l := by
    rcases List.mem_cons.mp h1 with rfl | h
    · exact g1
    · exact g2 m h
  have b : lmax x l ≤ m := by
    rcases lmax_mem l x with h | h
    · rw [h]; exact h2 x List.mem_cons_self
    · exact h2 _ (List.mem_cons_of_mem _ h)
  omega
def mMaxD (x z : MV) (h : MH) : Out MV := match x with
  | .ref i => match h.get i with
    | some (.dic kvs) => match keysOf kvs with
      | some [] => .ok z h
      | some (y :: l) => .ok (.int (lmax y l)) h
      | none => .bad
    | _ => .bad
  | _ => .bad
def gMaxD (a z : ME) : ME := gBin mMaxD a z
section
variable {X : Cx} {T : Nat → Addr} {E : XK} {e z a b : Expr} {ge gz ga gb : ME} {pos p kp : Pos} {k : Str}
theorem je_maxD (hc : X.calm = true) (hg : Gl X "max") (hm : X.mg "max" = none) (he : JE X T E e ge) (hz : JE X T E z gz)
    (hs : starEach [e] X.env = (false, eval e X.env) :: starEach [] X.env := by rfl) (h1 : backTo pos (starEach [e] X.env) = (false, eval e X.env) :: backTo pos (starEach [] X.env) := by rfl) (h2 : (backTo pos (starEach [e] X.env)).any (·.1) = false := by rfl)
    (h3 : (backToKw pos (keywordEach [⟨some "default", z, kp⟩] X.env)).all (·.1.isSome) = true := by rfl) (h4 : (backToKw pos (keywordEach [⟨some "default", z, kp⟩] X.env)).any (·.1.isNone) = false := by rfl) (h5 : (backToKw pos (keywordEach [⟨some "default", z, kp⟩] X.env)).filterMap (·.1) = [Str.ofString "default"] := by rfl) :
    JE X T E (.Call (.Name "max" p) [e] [⟨some "default", z, kp⟩] pos) (gMaxD ge gz) :=
  PE.le (pe_callBK (MX.cr_maxD hc) hg hm (by decide +kernel) (pa_cons he pa_nil hs) (pk_cons hz pk_nil) (by decide) (by decide) h1 h2 h3 h4 h5) fun σ H Q ⟨ρ, m, h, s, q⟩ => stepE s q fun ρ1 h1 H1 x v s1 e1 r1 q1 => stepE s1 q1 fun ρ2 h2 H2 y w s2 e2 r2 q2 => by
    have r1' := r1.ext e2
    cases r1' with
    | @ref i a hi =>
      have q' : Post ⟨X.K, T⟩ (rV ⟨X.K, T⟩) ρ2 H2 Q E (match h2.get i with
        | some (.dic kvs) => match keysOf kvs with
          | some [] => .ok y h2
          | some (y :: l) => .ok (.int (lmax y l)) h2
          | none => .bad
        | _ => .bad) := q2
      cases g : h2.get i with
      | none => rw [g] at q'; exact q'.elim
      | some ob =>
        rw [g] at q'
        cases ob with
        | dic kvs =>
          dsimp only at q'
          obtain ⟨vs, h3, h4⟩ := s2.hr.obj g hi
          cases k : keysOf kvs with
          | none => rw [k] at q'; exact q'.elim
          | some l =>
            rw [k] at q'
            refine ⟨a, vs, l, w, rfl, rfl, .of h3, keysOf_ok h4 k, fun nil => ?_, fun m1 hm1 hm2 => ?_⟩
            · subst nil
              exact Post.ok (R := rV ⟨X.K, T⟩) (a := y) q' s2.hr r2
            · cases l with
              | nil => cases hm1
              | cons y0 l0 =>
                rw [lmax_uniq hm1 hm2]
                exact Post.ok (R := rV ⟨X.K, T⟩) (a := .int (lmax y0 l0)) q' s2.hr (.int _)
        | _ => exact q'.elim
    | _ => exact q2.elim
end
end MI
set_option Elab.async false
set_option linter.all false
set_option maxRecDepth 100000
set_option maxHeartbeats 4000000
namespace MI
open PySem PySem.Spec PyProof.Rows L2 JB
def gAug (i : Nat) (f : Int → Int → Int) (a : ME) : MS := fun m h => match m[i]? with
  | some (some (.int p)) => (a m h).bindS fun y h1 => match y with
    | .int q => .nx (m.set i (some (.int (f p q)))) h1
    | _ => .bad
  | _ => .bad
section
variable {X : Cx} {T : Nat → Addr} {E : XK} {e o a f : Expr} {ge go ga gf : ME} {pos pos' apos cpos : Pos} {x : Str} {i : Nat}
theorem js_aug {op : Operator} {g : Int → Int → Int} (ho : PIp X op (ipI g)) (hN : X.N.Nodup) (hi : X.N[i]? = some x) (hx : Loc X.env.scope x) (he : JE X T E e ge)
    (hf : X.fn x = true ∨ X.env.scope.names.lookup x = some .local := by first | exact .inl rfl | exact .inr rfl | assumption) : JS X T E (.AugAssign (.Name x pos') op e pos) (gAug i g ge) :=
  PS.le (ps_aug hN hi hx he ho hf) fun D σ H ⟨ρ, m, h, s, q⟩ => by
    unfold gAug at q
    cases k : m[i]? with
    | none => rw [k] at q; exact q.elim
    | some ov =>
      cases ov with
      | none => rw [k] at q; exact q.elim
      | some xv =>
        rw [k] at q
        obtain ⟨v, k1, k2⟩ := s.slot i xv k
        cases k2 with
        | int p =>
          refine ⟨_, k1, sE s q fun ρ1 h1 H1 y w s1 e1 r1 q1 => ?_⟩
          cases r1 with
          | int j => exact ⟨p, j, rfl, rfl, q1 ρ1 H1 _ .refl (s1.set i (.int _))⟩
          | _ => exact q1.elim
        | _ => exact q.elim
def gDget2 (d k x : ME) : ME := fun m h => (d m h).bind fun z h1 => if isD h1 z = true then (k m h1).bind fun y h2 => (x m h2).bind fun u h3 => match dGet h3 z y with
  | some (some v) => .ok v h3
  | some none => .ok u h3
  | none => .bad
  else .bad
theorem je_dget2 (hu : X.A.units + 1 < cLine) (ho : JE X T E o go) (ha : JE X T E a ga) (hf : JE X T E f gf) (m2 : M2 X o "get" apos a f cpos) : JE X T E (.Call (.Attribute o "get" apos) [a, f] [] cpos) (gDget2 go ga gf) :=
  PE.le (pe_dget2 hu ho ha hf m2) fun σ H Q ⟨ρ, m, h, s, q⟩ => stepE s q fun ρ1 h1 H1 x v s1 e1 r1 q1 => by
    by_cases d : isD h1 x = true
    · rw [if_pos d] at q1
      obtain ⟨a, rfl, hd⟩ := isD_ok s1.hr r1 d
      refine ⟨a, rfl, hd, stepE s1 q1 fun ρ2 h2 H2 y w s2 e2 r2 q2 => stepE s2 q2 fun ρ3 h3 H3 u z s3 e3 r3 q3 => ?_⟩
      cases k : dGet h3 x y with
      | none => rw [k] at q3; exact q3.elim
      | some oo =>
        rw [k] at q3
        obtain ⟨aa, o', ea, h4, h5⟩ := dGet_ok s3.hr ((r1.ext e2).ext e3) (r2.ext e3) k
        cases ea
        rcases h5 with ⟨rfl, rfl⟩ | ⟨y', w', rfl, rfl, h6⟩
        · exact ⟨none, h4, Post.ok (R := rV ⟨X.K, T⟩) (a := u) q3 s3.hr r3⟩
        · exact ⟨some w', h4, Post.ok (R := rV ⟨X.K, T⟩) (a := y') q3 s3.hr h6⟩
    · rw [if_neg d] at q1; exact q1.elim
end
theorem pass_E00 {P : Program} {w : World} {X : Cx} : Passes (L2.CX P w) X E00 := fun _ _ _ _ _ _ _ ⟨_, _, _, _, _, _, _, _, _, _, _, _, f⟩ => f.elim
section
variable {X : Cx} {T : Nat → Addr} {E : XK} {c : Expr} {gc : MT}
theorem PTs.le {es : List Expr} {t t' : TT} (p : PTs X es t) (k : ∀ σ H Q, t' σ H Q → t σ H Q) : PTs X es t' := ⟨fun pins s σ H Q I h => p.run pins s σ H Q I (k σ H Q h)⟩
theorem jts_nil : PTs X [] (tT ⟨X.K, T⟩ E gYes) := PTs.le pts_nil fun σ H Q ⟨ρ, m, h, s, q⟩ => Post.ok (R := rB) (a := true) q s.hr rfl
theorem jts_one (h : JT X T E c gc) : PTs X [c] (tT ⟨X.K, T⟩ E gc) := pts_one h
end
section
variable {X : Cx} {T : Nat → Addr} {E : XK} {elt tg iter : Expr} {ifs : List Expr} {scope : Scope} {pos : Pos} {gi : MI1} {c : CT} {gt : MT} {ge : ME} {ow : List Nat}
theorem je_lcA (own : List (Str × Nat)) (how : own.map (·.2) = ow) (hc : X.calm = true) (hN : X.N.Nodup) (hi : JI X T E tg iter gi) (ok : BlkOk X.N X.env.scope scope own)
    (hg : ∀ (s : Shared) (H : Hp) (C : Addr) (cl : List (Str × Addr)) (fp : List Addr), PG (X.blk s H scope (compEnvC scope cl C X.env) fp) tg (tCT X.K c))
    (ht : ∀ (s : Shared) (H : Hp) (C : Addr) (cl : List (Str × Addr)) (fp : List Addr), PTs (X.blk s H scope (compEnvC scope cl C X.env) fp) ifs (tT ⟨X.K, T⟩ E00 gt))
    (he : ∀ (s : Shared) (H : Hp) (C : Addr) (cl : List (Str × Addr)) (fp : List Addr), JE (X.blk s H scope (compEnvC scope cl C X.env) fp) T E00 elt ge)
    (hv : ∀ i ∈ c.slots, i ∈ ow) (hs : ∀ x, foldedSetIterable iter X.env x = pure x := by intro _; rfl) :
    JE X T E (.ListComp elt [⟨tg, iter, ifs, 0⟩] scope pos) (gLc gi c gt ge ow) := by
  subst how
  exact je_lc hc hN hi ok hg ht he hv hs
end
section
variable {P : Program} {w : World} {K : PySem.W.Frag} {mg : Str → Option Value} {base : Heap} {T : Nat → Addr} {k : Nat} {f : Addr}
variable {x qual : Str} {params : Arguments} {body : List Stmt} {scope : Scope} {dvs : List V} {kws : List (Str × V)} {fd : FuncData} {N ps : List Str}
theorem def_MD (F : FunD K x qual params body scope dvs kws f fd) (S : FnScope N ps scope) (gs : MS)
    (hb : ∀ (cdv : Value) (A : Around) (outer : List Env) (s : Shared) (H : Hp) (E : XK),
      JB.Still (A.deeper (envOfC qual scope s.heap.objs.size f cdv)) → Room k (A.deeper (envOfC qual scope s.heap.objs.size f cdv)) →
      JSs (cxOf (L2.CX P w) P w K mg base N qual scope f cdv A outer s H E) T E body gs) :
    FnG P w K mg base (L2.CX P w) (k + 1) f fd ps (spM ⟨K, T⟩ ps.length (gBody N.length gs)) := by
  obtain ⟨oc, od, dV, kV, doc, pm, an, cdv, ct, osl, rfl, lk, hcd, _, _⟩ := F.ex
  refine fn_g lk hcd S (fun _ _ _ _ ⟨_, _, _, _, _, h, _⟩ => h) fun A outer s H vs Q E hst hr ⟨ρ, h, as, r, a, hl, p⟩ => ?_
  exact ⟨_, hb cdv A outer s H E hst hr, ρ, _, h, start_M r a, body_M p⟩
theorem FM.of0 {n : Nat} {g : MF} (F : FunD K x qual params body scope [] kws f fd) (G : FnG P w K mg base (L2.CX P w) k f fd ps (spM ⟨K, T⟩ ps.length g)) (hn : ps.length = n)
    (hb : ∀ (kV doc pm : Value) (an : Option Addr) (cdv ct : Value) (us : List Value), us.length = ps.length → bindArgs (PySem.W.fnOf x qual params body scope .none kV doc pm an cdv ct) ⟨us, []⟩ = pure (ps.zip us)) : FM P w K mg base T k f n [] g :=
  ⟨fd, ps, [], [], hn, G, F.kp, F.bindsN hb, .nil, fun _ _ => .nil⟩
theorem FM.ofD {n j m : Nat} {g : MF} {dm : List MV} (F : FunD K x qual params body scope dvs kws f fd) (G : FnG P w K mg base (L2.CX P w) k f fd ps (spM ⟨K, T⟩ ps.length g)) (hn : ps.length = n) (hd : dvs ≠ []) (hm : m + (dvs.length - j) = ps.length)
    (hb : ∀ (T : Addr) (kV doc pm : Value) (an : Option Addr) (cdv ct : Value) (us its : List Value), us.length = m → its.length = dvs.length →
      ∃ k, bindArgs (PySem.W.fnOf x qual params body scope (.ref T) kV doc pm an cdv ct) ⟨us, []⟩ = seqItems? (.ref T) >>= k ∧ k (some its.toArray) = pure (ps.zip (us ++ its.drop j)))
    (hr : ∀ ρ H, RVs ⟨K, T⟩ ρ H dm (dvs.drop j)) : FM P w K mg base T k f n dm g := by
  obtain ⟨ds, h1, h2⟩ := F.binds1 m j hd hm hb
  exact ⟨fd, ps, ds, dvs.drop j, hn, G, F.kp, h2, h1, hr⟩
end
theorem mt_extA {X : Cx} : MtR X "list.extend" (fun x vs H Q => rExtend x vs H Q ∨ rExtT X.K x vs H Q) := by
  intro pins s σ H x xs v us Q I r1 r2 h
  rcases h with h | h
  · exact mt_extend pins s σ H x xs v us Q I r1 r2 h
  · exact mt_extT pins s σ H x xs v us Q I r1 r2 h
inductive Fc where
  | etup (p : Str × Option Str) (i : Nat)
  | raw (f : PySem.W.Frag → Bool)
def etupB (K : PySem.W.Frag) (a : Addr) : Bool := match K.lookup a with
  | some ⟨.type c, _, .seq its _, _⟩ => decide (c = "tuple") && its.isEmpty
  | _ => false
theorem etupB_ok {K : PySem.W.Frag} {a : Addr} (h : etupB K a = true) (H : Hp) : SqT K H a [] := by
  unfold etupB at h
  cases q : K.lookup a with
  | none => rw [q] at h; cases h
  | some o =>
    obtain ⟨oc, od, dt, osl⟩ := o
    rw [q] at h
    cases oc with
    | type c =>
      cases dt with
      | seq its n =>
        obtain ⟨h1, h2⟩ := He.ba (show (decide (c = "tuple") && its.isEmpty) = true from h)
        have e : its = #[] := Array.isEmpty_iff.mp h2
        subst e
        exact .inr ⟨_, _, n, q, congrArg Value.type (of_decide_eq_true h1), rfl, Nat.zero_le _, .nil⟩
      | _ => cases h
    | _ => cases dt <;> cases h
def Fc.ok (K : PySem.W.Frag) : Fc → Bool
  | .etup p i => etupB K (He.dflAt p i K)
  | .raw f => f K
def hookM (n : Nat) (fa : List He.Fa) (fn : List He.DefD) (fc : List Fc) : PySem.W.Hook where
  α := He.AlD × Bool
  obs := fun s => (He.obsD fa fn (He.frG s.heap.get? (He.asD s.heap.get? n)), fc.all fun f => f.ok (He.frG s.heap.get? (He.asD s.heap.get? n)))
  val := fun _ => (He.valD fn, true)
  says := fun _ h => ∃ K : PySem.W.Frag, K.In h ∧ He.SaysD fa fn K ∧ fc.all (fun f => f.ok K) = true
  of := fun _ _ e => ⟨_, He.frG_in, congrArg Prod.fst e, congrArg Prod.snd e⟩
  keeps := fun _ _ _ ⟨K, hK, c⟩ k => ⟨K, PySem.W.Frag.In.keeps hK k, c⟩
def obM (n : Nat) (fa : List He.Fa) (fn : List He.DefD) (fc : List Fc) (g : Addr → Option Obj) : He.AlD × Bool := (He.obsD fa fn (He.frG g (He.asD g n)), fc.all fun f => f.ok (He.frG g (He.asD g n)))
theorem obM_eq {n : Nat} {fa : List He.Fa} {fn : List He.DefD} {fc : List Fc} {g : Addr → Option Obj} {s : Shared} (h : ∀ a, g a = s.heap.get? a) : obM n fa fn fc g = (hookM n fa fn fc).obs s := by
  have e : g = s.heap.get? := funext h
  rw [e] <;> rfl
structure Fx (fa : List He.Fa) (fn : List He.DefD) (fc : List Fc) (K : PySem.W.Frag) (mg : Str → Option Value) : Prop where
  ex : ∃ h : Heap, K.In h ∧ h.Ns mainGlobals mg
  c : He.SaysD fa fn K
  x : fc.all (fun f => f.ok K) = true
section
variable {fa : List He.Fa} {fn : List He.DefD} {fc : List Fc} {K : PySem.W.Frag} {mg : Str → Option Value}
theorem Fx.glo (F : Fx fa fn fc K mg) (i : Nat) {x : Str} (h : fa[i]? = some (.glo x) := by rfl) : mg x = some (.ref (He.ga K x)) := by
  obtain ⟨_, X, G⟩ := F.ex; exact He.glo_ok X G (F.c.fact i h)
theorem Fx.free (F : Fx fa fn fc K mg) (i : Nat) {x : Str} (h : fa[i]? = some (.free x) := by rfl) : mg x = none := by
  obtain ⟨_, X, G⟩ := F.ex; exact He.free_ok X G (F.c.fact i h)
theorem Fx.int (F : Fx fa fn fc K mg) (i : Nat) {x : Str} {n : Int} (h : fa[i]? = some (.int x n) := by rfl) : ∃ t, mg x = some (.int n t) := by
  obtain ⟨_, X, G⟩ := F.ex; exact He.int_ok X G (F.c.fact i h)
theorem Fx.str (F : Fx fa fn fc K mg) (i : Nat) {x z : Str} (h : fa[i]? = some (.str x z) := by rfl) : ∃ t, mg x = some (.str z t) := by
  obtain ⟨_, X, G⟩ := F.ex; exact He.str_ok X G (F.c.fact i h)
theorem Fx.cls (F : Fx fa fn fc K mg) (i : Nat) {x : Str} (h : fa[i]? = some (.cls x) := by rfl) : Cls K (He.ga K x) := He.cls_ok (F.c.fact i h)
theorem Fx.noat (F : Fx fa fn fc K mg) (i : Nat) {x f : Str} (h : fa[i]? = some (.noat x f) := by rfl) : NoAttr K (He.ga K x) f := He.noat_ok (F.c.fact i h)
theorem Fx.meth (F : Fx fa fn fc K mg) (i : Nat) {x m : Str} (h : fa[i]? = some (.meth x m) := by rfl) : Meth K (He.ga K x) m (He.ma K (He.ga K x) m) := He.meth_ok (F.c.fact i h)
theorem Fx.mkr (F : Fx fa fn fc K mg) (i : Nat) {x : Str} (h : fa[i]? = some (.mkr x) := by rfl) : Mk K (He.ga K x) (He.ma K (He.ga K x) "__init__") := He.mkr_ok (F.c.fact i h)
theorem Fx.extra (F : Fx fa fn fc K mg) (i : Nat) {f : Fc} (h : fc[i]? = some f := by rfl) : f.ok K = true := List.all_eq_true.mp F.x f (List.mem_of_getElem? h)
end
theorem walk_GE {l : PySem.W.OpenLaw} {n k : Nat} {q : Program} {loose : List Str} {XP : (Str → Option Value) → Heap → Prop} {YP : World → Heap → Prop} {d : DefRec} {x : Str}
    (hn : l.most = some n) (hn2 : n ≤ sizeLine) (hdf : d.params.defaults = []) (hr : Room k callerA)
    (F : ∀ (w : World) (mg : Str → Option Value) (fa : Addr) (h : Heap), YP w h → h.Ns mainGlobals mg → mg d.name = some (.ref fa) →
      ∃ (K : PySem.W.Frag) (fd : FuncData) (sp : Sp), K.In h ∧ (∀ (s : Shared) (u : Value), BindsTo s fd ⟨[u], []⟩ [(x, u)]) ∧
        (∀ (H : Hp) (a : Addr) (ns : List Int), ns.length ≤ n → Only H → SqL K H a (ns.map V.int) → sp [.ref a] H (fun v _ => v = .bl true) fun _ _ _ => False) ∧
        ∀ base : Heap, K.In base → base.Ns mainGlobals mg → FnG l.prog w K mg base (L2.CX l.prog w) k fa fd [x] sp) :
    PySem.W.WalkO q loose XP YP l.row.toRowW d [] (fun f vs => PySem.call f vs) := by
  refine Att.attach_call hn hdf fun w s₀ s₁ mg mb fa o pm cd doc a vs ns G Y ho hd hcd hmg hobj hints hlen hg => ?_
  obtain ⟨K, fd, sp, KX, hb, hsp, hF⟩ := F w mg fa _ Y G.T.g hmg
  exact law_callG KX G.T.g G.T.b G.T.builtins G.T.nolimit hg hobj hints (Nat.le_trans hlen hn2) hr hF hb (fun H hO hS => hsp H a ns hlen hO hS)
    fun _ _ _ ⟨_, _, _, _, _, _, _, _, _, _, _, _, f⟩ => f
theorem fz_of {K : PySem.W.Frag} {H : Hp} {a : Addr} {vs : List V} (o : Only H) (h : SqL K H a vs) : FzL K H a vs := by
  rcases h with (h | ⟨ob, h⟩) | h
  · rcases o a with z | ⟨ob, xs, z⟩
    · rw [h] at z; cases z
    · rw [h] at z; cases z
  · exact .inl ⟨ob, h⟩
  · exact .inr (.inr h)
theorem law_sp {Z : Zt} {g : MF} {H : Hp} {a : Addr} {ns : List Int} {h' : MH} {E : XK} (o : Only H) (s : SqL Z.K H a (ns.map V.int)) (e : g [.fls (ns.map .int)] .empty = .ok (.bl true) h') : spM Z 1 g [.ref a] H (fun v _ => v = .bl true) E :=
  ⟨[], .empty, [.fls (ns.map .int)], HR.nil, .cons (.fls (fz_of o s) (RVs.ints ns)) .nil, rfl, by
    rw [e]
    intro ρ' H' b e r q
    cases q
    rfl⟩
end MI
set_option Elab.async false
set_option linter.all false
set_option maxRecDepth 100000
set_option maxHeartbeats 4000000
namespace TM
open PySem PySem.Spec PyProof.Rows L2
theorem mul1 (l : Addr) (its : Array Value) (n : Nat) (dd : Option Addr) (sl : Array (Option Value)) (x : Int) (u : Tok) (q0 : (decide (x < -(2 ^ 63)) || decide (x ≥ 2 ^ 63)) = false) (q1 : (its.isEmpty || x == 1) = true) :
    Meets (Builtin.«tuple.__mul__» ⟨[.ref l, .int x u], []⟩) (fun _ R s => s.heap.get? l = some { cls := .type "tuple", dict := dd, data := .seq its n, slots := sl } ∧ R (.ok (.ret (Value.ref l))) s) :=
  .of_wp fun prog w A R s h => by
    obtain ⟨hp, g, d, tk, os⟩ := s
    obtain ⟨hl, h⟩ := h
    have f1 := AutoSeq1.idx_int
    wp_walk using wpAny_loadPart' hl
    repeat (first
      | (refine wpAny_ite_false (decide_eq_false (by rw [q0]; exact Bool.false_ne_true)) ?_; wp_walk using wpAny_loadPart' hl)
      | (refine wpAny_ite_true (decide_eq_true q1) ?_; wp_walk using wpAny_loadPart' hl))
    exact ⟨_, rfl, h⟩
theorem mul0 (l : Addr) (its : Array Value) (n : Nat) (dd : Option Addr) (sl : Array (Option Value)) (x : Int) (u : Tok) (q0 : (decide (x < -(2 ^ 63)) || decide (x ≥ 2 ^ 63)) = false) (q1 : (its.isEmpty || x == 1) = false) (q2 : (decide (x ≤ 0) || its.isEmpty) = true) :
    Meets (Builtin.«tuple.__mul__» ⟨[.ref l, .int x u], []⟩) (fun _ R s => s.heap.get? l = some { cls := .type "tuple", dict := dd, data := .seq its n, slots := sl } ∧
      R (.ok (.ret (Value.ref s.heap.objs.size))) { s with heap := s.heap.push { cls := Value.type "tuple", data := Data.seq #[] }, toks := s.toks }) :=
  .of_wp fun prog w A R s h => by
    obtain ⟨hp, g, d, tk, os⟩ := s
    obtain ⟨hl, h⟩ := h
    have f1 := AutoSeq1.idx_int
    wp_walk using wpAny_loadPart' hl
    repeat (first
      | (refine wpAny_ite_false (decide_eq_false (by rw [q0]; exact Bool.false_ne_true)) ?_; wp_walk using wpAny_loadPart' hl)
      | (refine wpAny_ite_false (decide_eq_false (by rw [q1]; exact Bool.false_ne_true)) ?_; wp_walk using wpAny_loadPart' hl)
      | (refine wpAny_ite_true (decide_eq_true q2) ?_; wp_walk using wpAny_loadPart' hl)
      | (refine wpAny_ite_false (decide_eq_false (by decide)) ?_; wp_walk using wpAny_loadPart' hl))
    exact ⟨_, rfl, h⟩
def rRep01 (K : PySem.W.Frag) : R2 := fun x y H Q => ∃ l k xs, x = .ref l ∧ y = .int k ∧ SqT K H l xs ∧ xs ≠ [] ∧ -1000 ≤ k ∧ k ≤ 1 ∧ (k = 1 → Q (.ref l) H) ∧ (k ≤ 0 → ∀ p, H p = none → Q (.ref p) (upd H p (.tup [])))
section
variable {X : Cx}
theorem op_rep01 : OpR X (binaryOp .Mult) (rRep01 X.K) := by
  intro pins s σ H x y v u Q I rx ry h
  obtain ⟨l, k, xs, rfl, rfl, hT, hne, h1, h2, qa, qb⟩ := h
  cases rx
  obtain ⟨t, rfl⟩ := ry
  obtain ⟨its, r, ⟨⟨cls, dd, data, sl⟩, ho, hc, n, hd⟩, hs⟩ := I.tuple hT
  simp only at hc hd
  subst hc hd
  have hle : its.length = xs.length := r.length.symm
  have hi : its.toArray.isEmpty = false := by
    cases its with
    | nil => exact absurd (List.eq_nil_of_length_eq_zero hle.symm) hne
    | cons a b => rfl
  have q0 : (decide (k < -(2 ^ 63)) || decide (k ≥ 2 ^ 63)) = false := by
    rw [decide_eq_false (by omega), decide_eq_false (by omega)] <;> rfl
  refine wpAny_binaryOp_repeat_ref (T := "tuple") (U := "int") (by decide) ⟨_, ho, rfl⟩ (fun s' => typeIs_int s' k t) noFill_tuple_mul F.fills_int_mul F.slot_int_rmul repeat_tuple F.slot_int_index.lookup
    (call_meets F.slot_int_rmul (typeIs_int s k t) F.entry_int_rmul (F.args_int_rmul_2 _ _) (int_rmul_tuple k t l its.toArray n dd sl) ⟨ho, rfl, ⟨_, ho, rfl⟩, ?_⟩)
  by_cases e : k = 1
  · subst e
    exact call_meets F.slot_tuple_mul ⟨_, ho, rfl⟩ F.entry_tuple_mul (F.args_tuple_mul_2 _ _) (mul1 l its.toArray n dd sl 1 t q0 (by rw [hi]; rfl)) ⟨ho, .ref l, H, I.tok _, rfl, qa rfl⟩
  · have e0 : k ≤ 0 := by omega
    refine call_meets F.slot_tuple_mul ⟨_, ho, rfl⟩ F.entry_tuple_mul (F.args_tuple_mul_2 _ _) (mul0 l its.toArray n dd sl k t q0 (by rw [hi, Bool.false_or]; exact beq_eq_false_iff_ne.mpr e) (by rw [decide_eq_true e0]; rfl)) ⟨ho, ?_⟩
    refine ⟨.ref s.heap.objs.size, _, I.laid (t' := s.toks) (o := .tup []) (fun b ob q => Heap.get?_push_of_some _ q) (Nat.le_refl _) ?_, rfl, qb e0 _ (I.hok.fresh (Nat.le_refl _))⟩
    exact ⟨Nat.zero_le _, [], .nil, IsTup.new _ _⟩
end
end TM
namespace MI
open PySem PySem.Spec PyProof.Rows L2 JB
def mRepT (x y : MV) (h : MH) : Out MV := match x, y with
  | .tup xs, .int k => if xs.isEmpty = false ∧ -1000 ≤ k ∧ k ≤ 1000 ∧ xs.length ≤ 1000 then (if k = 1 then .ok (.tup xs) h else .ok (.tup (reps xs k.toNat)) h) else .bad
  | .ktp xs, .int k => if xs.isEmpty = false ∧ -1000 ≤ k ∧ k ≤ 1000 ∧ xs.length ≤ 1000 then (if k = 1 then .ok (.ktp xs) h else .ok (.tup (reps xs k.toNat)) h) else .bad
  | _, _ => .bad
abbrev rRepTA (K : PySem.W.Frag) : R2 := fun x y H Q => rRepT K x y H Q ∨ TM.rRep01 K x y H Q
theorem repT_ok {Z : Zt} {E : XK} {ρ : List Addr} {h : MH} {H : Hp} {Q : VK} {a : Addr} {xs : List MV} {vs : List V} {k : Int} {t : MV} (R : HR Z ρ h H) (hs : SqT Z.K H a vs) (r : RVs Z ρ H xs vs) (rt : RV Z ρ H t (.ref a))
    (p : Post Z (rV Z) ρ H Q E (if xs.isEmpty = false ∧ -1000 ≤ k ∧ k ≤ 1000 ∧ xs.length ≤ 1000 then (if k = 1 then .ok t h else .ok (.tup (reps xs k.toNat)) h) else .bad)) : rRepTA Z.K (.ref a) (.int k) H Q := by
  by_cases c : xs.isEmpty = false ∧ -1000 ≤ k ∧ k ≤ 1000 ∧ xs.length ≤ 1000
  · rw [if_pos c] at p
    obtain ⟨c1, c2, c3, c4⟩ := c
    have ne : vs ≠ [] := by
      intro z
      have := r.nil_iff.mp z
      rw [this] at c1; cases c1
    by_cases e : k = 1
    · rw [if_pos e] at p
      exact .inr ⟨a, k, vs, rfl, rfl, hs, ne, c2, by omega, fun _ => p.ok R rt, fun z => by omega⟩
    · rw [if_neg e] at p
      by_cases e0 : k ≤ 0
      · refine .inr ⟨a, k, vs, rfl, rfl, hs, ne, c2, by omega, fun z => absurd z e, fun _ pp hp => ?_⟩
        have hz : k.toNat = 0 := by omega
        rw [hz] at p
        exact p ρ _ _ (Ext.still1 hp) (R.still1 hp) (.tup upd_same .nil)
      · refine .inl ⟨a, k, vs, rfl, rfl, hs, ne, by omega, c3, by rw [← r.length]; exact c4, fun pp hp => ?_⟩
        rw [reps_eq]
        exact p ρ _ _ (Ext.still1 hp) (R.still1 hp) (.tup upd_same ((r.ext (Ext.still1 hp)).reps _))
  · rw [if_neg c] at p; exact p.elim
theorem om_repT {Z : Zt} {E : XK} : OpM Z E mRepT (rRepTA Z.K) := fun ρ h H x y v w Q R r q p => by
  cases r with
  | tup h1 r1 =>
    cases q with
    | int k => exact repT_ok R (.inl (.inl h1)) r1 (.tup h1 r1) p
    | _ => exact p.elim
  | ktp h1 r1 =>
    cases q with
    | int k => exact repT_ok R (ktp_sq h1) r1 (.ktp h1 r1) p
    | _ => exact p.elim
  | _ => exact p.elim
theorem fold_reps (s : List Nat) : ∀ (n : Nat) (acc : Array Nat), (List.replicate n s.toArray).foldl (· ++ ·) acc = (acc.toList ++ reps s n).toArray
  | 0, acc => by simp [reps]
  | n + 1, acc => by
    rw [List.replicate_succ, List.foldl_cons, fold_reps s n]
    simp [reps]
def mRepS (x y : MV) (h : MH) : Out MV := match x, y with
  | .str s, .int k => if -1000 ≤ k ∧ k ≤ 1000 ∧ s.length ≤ 1000 then .ok (.str (reps s k.toNat)) h else .bad
  | _, _ => .bad
abbrev rRepS : R2 := fun x y H Q => ∃ (s : List Nat) (k : Int), x = .str (S1 s) ∧ y = .int k ∧ -1000 ≤ k ∧ k ≤ 1000 ∧ s.length ≤ 1000 ∧ Q (.str (S1 (reps s k.toNat))) H
theorem reps_nil {α : Type} : ∀ n, reps ([] : List α) n = []
  | 0 => rfl
  | n + 1 => by show [] ++ reps [] n = []; rw [reps_nil n]; rfl
theorem mul_txt (s : List Nat) (k : Int) : Txt.mul (S1 s) k = S1 (reps s k.toNat) := by
  unfold Txt.mul
  by_cases c : k < 1
  · rw [if_pos c]
    have : k.toNat = 0 := by omega
    rw [this]; rfl
  · rw [if_neg c]
    by_cases d : (k == 1 || (S1 s).length == 0) = true
    · rw [if_pos d]
      rcases Bool.or_eq_true_iff.mp d with e | e
      · have : k = 1 := by simpa using e
        subst this
        show S1 s = S1 (s ++ reps s 0)
        simp [reps]
      · have e' : s.toArray.size = 0 := by simpa [S1, Str.length] using e
        have : s = [] := by simpa using e'
        subst this
        rw [reps_nil]
    · rw [if_neg d]
      show Str.mk (List.foldl _ #[] (List.replicate k.toNat s.toArray)) = _
      rw [fold_reps]
      rfl
theorem op_repS {X : Cx} : OpR X (binaryOp .Mult) rRepS := by
  intro pins st σ H x y v u Q I rx ry h
  obtain ⟨s, k, rfl, rfl, h1, h2, h3, q⟩ := h
  obtain ⟨t, rfl⟩ := rx
  obtain ⟨t', rfl⟩ := ry
  have hl : (S1 s).length ≤ 1000 := by show s.toArray.size ≤ 1000; simpa using h3
  refine SB.mul ⟨by rw [decide_eq_false (by omega), decide_eq_false (by omega)] <;> rfl, fun c1 c2 => ?_, fun c1 c2 => ?_⟩ fun t'' tk => ⟨.str (S1 (reps s k.toNat)), H, I.tok _, ⟨_, by rw [mul_txt]⟩, q⟩
  · have : (2 ^ 63 - 1) / k ≥ (2 ^ 63 - 1) / 1000 := by
      refine Int.le_ediv_of_mul_le (by omega) ?_
      have : (2 ^ 63 - 1) / 1000 * k ≤ (2 ^ 63 - 1) / 1000 * 1000 := Int.mul_le_mul_of_nonneg_left h2 (by decide)
      omega
    omega
  · have : (S1 s).length * k.toNat ≤ 1000 * 1000 := Nat.mul_le_mul hl (by omega)
    show decide ((S1 s).length * k.toNat > sizeLine) = false
    exact decide_eq_false (by rw [sizeLine_eq]; omega)
theorem om_repS {Z : Zt} {E : XK} : OpM Z E mRepS rRepS := fun ρ h H x y v w Q R r q p => by
  cases r with
  | str s =>
    cases q with
    | int k =>
      have p' : Post Z (rV Z) ρ H Q E (if -1000 ≤ k ∧ k ≤ 1000 ∧ s.length ≤ 1000 then .ok (.str (reps s k.toNat)) h else .bad) := p
      by_cases c : -1000 ≤ k ∧ k ≤ 1000 ∧ s.length ≤ 1000
      · rw [if_pos c] at p'
        exact ⟨s, k, rfl, rfl, c.1, c.2.1, c.2.2, p'.ok R (.str _)⟩
      · rw [if_neg c] at p'; exact p'.elim
    | _ => exact p.elim
  | _ => exact p.elim
def isTup : MV → Bool
  | .tup _ => true
  | .ktp _ => true
  | _ => false
def isStr : MV → Bool
  | .str _ => true
  | _ => false
def mMulA (x y : MV) (h : MH) : Out MV := if isTup x = true then mRepT x y h else if isStr x = true then mRepS x y h else mMulV x y h
section
variable {X : Cx} {T : Nat → Addr} {E : XK} {a b : Expr} {ga gb : ME} {pos : Pos}
theorem je_mulA (ha : JE X T E a ga) (hb : JE X T E b gb) : JE X T E (.BinOp a .Mult b pos) (gBin mMulA ga gb) :=
  je_bin_or (f2 := fun x y h => if isStr x = true then mRepS x y h else mMulV x y h) (je_op (OpR.or op_repT TM.op_rep01) om_repT ha hb)
    (je_bin_or (je_op op_repS om_repS ha hb) (je_mulV ha hb) fun x y h => by
      by_cases c : isStr x = true
      · exact .inl (if_pos c)
      · exact .inr (if_neg c)) fun x y h => by
    unfold mMulA
    by_cases c : isTup x = true
    · exact .inl (if_pos c)
    · exact .inr (if_neg c)
end
end MI
set_option Elab.async false
set_option linter.all false
set_option maxRecDepth 100000
set_option maxHeartbeats 4000000
namespace MI
open PySem PySem.Spec PyProof.Rows L2 JB
section
variable {P : Program} {w : World} {K : PySem.W.Frag} {mg : Str → Option Value} {base : Heap} {T : Nat → Addr} {k : Nat} {f : Addr}
variable {x qual : Str} {params : Arguments} {body : List Stmt} {scope : Scope} {dvs : List V} {kws : List (Str × V)} {fd : FuncData} {ps : List Str}
end
section
variable {X : Cx} {T : Nat → Addr} {E : XK} {k : Nat} {f C : Addr} {dm : List MV} {g : MF} {n np : Nat} {x me : Str} {mi : Nat} {p pos apos kpos : Pos} {e o : Expr} {es : List Expr} {ga gk : MA} {go ge : ME} {kws : List Keyword} {ks : List Str} {idx : List (Nat × Nat)} {nm' : Option Str}
end
end MI
set_option Elab.async false
set_option linter.all false
set_option maxRecDepth 100000
set_option maxHeartbeats 4000000
namespace MI
open PySem PySem.Spec PyProof.Rows L2 JB
section
variable {Z : Zt} {ρ : List Addr} {H : Hp} {a : Addr} {od : Obj} {ws : List (Key × V)}
theorem un_ne {b : Addr} {u : HO} (k : H a = some (.frz od (.dK ws))) (e : H b = some u) (n : u ≠ .frz od (.dK ws)) : upd H a (.dK ws) b = some u := by
  rw [upd_ne (fun z => n (by rw [z, k] at e; cases e; rfl))]; exact e
theorem fzL_unlock {K : PySem.W.Frag} {vs : List V} {b : Addr} (k : H a = some (.frz od (.dK ws))) (h : FzL K H b vs) : FzL K (upd H a (.dK ws)) b vs := by
  rcases h with ⟨o, h⟩ | h
  · exact .inl ⟨o, un_ne k h (by intro z; cases z)⟩
  · exact .inr h
theorem xdH_unlock {d : Option Addr} {ks : List Nat} {vs : List V} (k : H a = some (.frz od (.dK ws))) (h : XdH H d ks vs) : XdH (upd H a (.dK ws)) d ks vs := by
  rcases h with h | ⟨dx, h1, h2, h3⟩
  · exact .inl h
  · exact .inr ⟨dx, h1, un_ne k h2 (by intro z; cases z), h3⟩
mutual
theorem RV.unlock (k : H a = some (.frz od (.dK ws))) {x : MV} {v : V} : RV Z ρ H x v → RV Z ρ (upd H a (.dK ws)) x v
  | .non => .non
  | .bl b => .bl b
  | .int n => .int n
  | .str s => .str s
  | .ty s => .ty s
  | .adr a => .adr a
  | .ref h => .ref h
  | .tup h r => .tup (un_ne k h (by intro z; cases z)) (RVs.unlock k r)
  | .ktp h r => .ktp h (RVs.unlock k r)
  | .fls h r => .fls (fzL_unlock k h) (RVs.unlock k r)
  | .err h z r => .err (un_ne k h (by intro z; cases z)) (xdH_unlock k z) (RVs.unlock k r)
theorem RVs.unlock (k : H a = some (.frz od (.dK ws))) {x : List MV} {v : List V} : RVs Z ρ H x v → RVs Z ρ (upd H a (.dK ws)) x v
  | .nil => .nil
  | .cons h r => .cons (RV.unlock k h) (RVs.unlock k r)
end
theorem RKs.unlock {κ κ' : Type} {f : κ → κ'} (k : H a = some (.frz od (.dK ws))) {x : List (κ × MV)} {v : List (κ' × V)} (h : RKs f Z ρ H x v) : RKs f Z ρ (upd H a (.dK ws)) x v := by
  induction h with
  | nil => exact .nil
  | cons r _ ih => exact .cons (r.unlock k) ih
theorem OR.unlock {b : Addr} {o : MO} (k : H a = Option.some (HO.frz od (HO.dK ws))) (n : b ≠ a) (h : OR Z ρ H b o) : OR Z ρ (upd H a (.dK ws)) b o := by
  cases o with
  | lst xs => obtain ⟨vs, h1, h2⟩ := h; exact ⟨vs, by rw [upd_ne n]; exact h1, h2.unlock k⟩
  | dic xs => obtain ⟨vs, h1, h2⟩ := h; exact ⟨vs, by rw [upd_ne n]; exact h1, h2.unlock k⟩
  | dit xs => obtain ⟨vs, h1, h2⟩ := h; exact ⟨vs, by rw [upd_ne n]; exact h1, h2.unlock k⟩
  | ins C fs => obtain ⟨dx, vs, h1, h2⟩ := h; exact ⟨dx, vs, by rw [upd_ne n]; exact h1, h2.unlock k⟩
  | fdi xs => obtain ⟨dx, vs, h1, h2⟩ := h; exact ⟨dx, vs, by rw [upd_ne n]; exact h1, h2.unlock k⟩
theorem unlockE {ρ' : List Addr} {H0 : Hp} (ha : a ∈ ρ) (h0 : H0 a = some (.dK ws)) (e : Ext ρ (upd H0 a (.frz od (.dK ws))) ρ' H) : Ext ρ H0 ρ' (upd H a (.dK ws)) :=
  ⟨by obtain ⟨⟨t, q1, q2⟩, _, _⟩ := e; exact ⟨t, q1, fun b hb => upd_none (q2 b hb)⟩, fun b o q s => by
    by_cases hb : b = a
    · subst hb
      rw [h0] at q; cases q
      rcases s with s | s
      · exact s.elim
      · exact absurd ha s
    · rw [upd_ne hb]
      exact e.hold b o (by rw [upd_ne hb]; exact q) s, fun b q => upd_none (e.mono b (upd_none q))⟩
theorem unlockR {ρ' : List Addr} {H0 : Hp} {h' : MH} {j : Nat} {kvs : List (MK × MV)} (hj : ρ[j]? = some a) (h0 : H0 a = some (.dK ws)) (r0 : RKs kOf Z ρ H0 kvs ws) (e : Ext ρ (upd H0 a (.frz od (.dK ws))) ρ' H) (k : H a = some (.frz od (.dK ws))) (R : HR Z ρ' h' H) :
    HR Z ρ' (h'.set j (.dic kvs)) (upd H a (.dK ws)) := by
  have e2 := unlockE (List.mem_of_getElem? hj) h0 e
  have hj' := e.at hj
  have lt : j < h'.n := by rw [← R.len]; exact (List.getElem?_eq_some_iff.mp hj').1
  refine ⟨R.nodup, R.len, fun i o q => ?_, fun i hi => ?_⟩
  · rw [MH.get_set lt] at q
    by_cases c : i = j
    · rw [if_pos c] at q
      cases q
      subst c
      exact ⟨a, hj', ws, upd_same, r0.ext e2⟩
    · rw [if_neg c] at q
      obtain ⟨b, h1, h2⟩ := R.all i o q
      refine ⟨b, h1, h2.unlock k fun z => c ?_⟩
      subst z
      obtain ⟨q1, q2⟩ := List.getElem?_eq_some_iff.mp h1
      exact (List.getElem?_inj q1 R.nodup).mp (h1.trans hj'.symm)
  · rw [MH.get_set lt]
    by_cases c : i = j
    · rw [if_pos c]; rfl
    · rw [if_neg c]; exact R.has i hi
end
def gLock (pk : ML → MH → Option Nat) (g : ME) : ME := fun m h => match pk m h with
  | some j => match h.get j with
    | some (.dic kvs) => match g m (h.set j (.fdi kvs)) with
      | .ok v h' => .ok v (h'.set j (.dic kvs))
      | _ => .bad
    | _ => .bad
  | none => .bad
def pkV (i : Nat) : ML → MH → Option Nat := fun m _ => match m[i]? with
  | some (some (.ref j)) => some j
  | _ => none
def pkF (i f : Nat) : ML → MH → Option Nat := fun m h => match m[i]? with
  | some (some (.ref j)) => match h.get j with
    | some (.ins _ fs) => match fs.lookup f with
      | some (.ref k) => some k
      | _ => none
    | _ => none
  | _ => none
section
variable {X : Cx} {T : Nat → Addr} {E : XK} {e a tg : Expr} {es : List Expr} {ga : ME} {pos p apos cpos : Pos} {st : Stmt} {pk : ML → MH → Option Nat}
theorem je_lock {g : ME} (he : JE X T E e g) : JE X T E e (gLock pk g) :=
  PE.le (pe_lock he) fun σ H Q ⟨ρ, m, h, s, q⟩ => by
    unfold gLock at q
    cases c : pk m h with
    | none => rw [c] at q; exact q.elim
    | some j =>
      rw [c] at q
      dsimp only at q
      cases g1 : h.get j with
      | none => rw [g1] at q; exact q.elim
      | some ob =>
        rw [g1] at q
        cases ob with
        | dic kvs =>
          obtain ⟨a, ha, vs, h1, h2⟩ := s.hr.all j _ g1
          refine ⟨a, .dK vs, h1, trivial, fun od => ?_⟩
          have e1 : Ext ρ H ρ (upd H a (.frz od (.dK vs))) := s.hr.grow g1 ha _
          have r1 := s.hr.set (o' := .fdi kvs) g1 ha ⟨od, vs, upd_same, h2.ext e1⟩
          refine ⟨ρ, m, _, s.to e1 r1, ?_⟩
          dsimp only at q
          generalize g m (h.set j (.fdi kvs)) = o at q ⊢
          cases o with
          | bad => exact q.elim
          | er _ _ => exact q.elim
          | ok v h' =>
            intro ρ' H' b e2 r2 rv
            have k1 : H' a = some (.frz od (.dK vs)) := e2.hold a _ upd_same (.inl trivial)
            exact ⟨k1, q ρ' _ b (unlockE (List.mem_of_getElem? ha) h1 e2) (unlockR ha h1 h2 e2 k1 r2) (rv.unlock k1)⟩
        | _ => exact q.elim
end
def mOfK : MK → MV
  | .inl i => .int i
  | .inr s => .str s
theorem RV.key {Z : Zt} {ρ : List Addr} {H : Hp} : ∀ k : MK, RV Z ρ H (mOfK k) (kV (kOf k))
  | .inl i => .int i
  | .inr s => .str s
def itK (kvs : List (MK × MV)) : It1 := ⟨fun _ => kvs.length, fun i _ => some (kvs[i]?.map fun p => mOfK p.1)⟩
def itVs (kvs : List (MK × MV)) : It1 := ⟨fun _ => kvs.length, fun i _ => some (kvs[i]?.map fun p => p.2)⟩
def itIs (kvs : List (MK × MV)) : It1 := ⟨fun _ => kvs.length, fun i _ => some (kvs[i]?.map fun p => .tup [mOfK p.1, p.2])⟩
theorem RKs.at {Z : Zt} {ρ : List Addr} {H : Hp} {xs : List (MK × MV)} {vs : List (Key × V)} (r : RKs kOf Z ρ H xs vs) : ∀ i : Nat, (xs[i]? = none ∧ vs[i]? = none) ∨ ∃ k x v, xs[i]? = some (k, x) ∧ vs[i]? = some (kOf k, v) ∧ RV Z ρ H x v := by
  induction r with
  | nil => intro i; exact .inl ⟨by simp, by simp⟩
  | @cons k x v xs vs a r ih =>
    intro i
    cases i with
    | zero => exact .inr ⟨k, x, v, rfl, rfl, a⟩
    | succ i => simpa using ih i
section
variable {Z : Zt} {ρ : List Addr} {H : Hp} {a : Addr} {od : Obj} {kvs : List (MK × MV)} {vs : List (Key × V)}
theorem rI_keys (h : H a = some (.frz od (.dK vs))) (r : RKs kOf Z ρ H kvs vs) : rI Z ρ H (itK kvs) (Itk a od vs) := by
  intro i ρ' h' H' e R
  have hk := e.hold a _ h (.inl trivial)
  show match some (kvs[i]?.map fun p => mOfK p.1) with
    | none => True
    | some none => (Itk a od vs).stop i H'
    | some (some x) => (Itk a od vs).go i H' ∧ ∀ v H'', (Itk a od vs).yld i H' v H'' → ∃ ρ'', Ext ρ' H' ρ'' H'' ∧ HR Z ρ'' h' H'' ∧ RV Z ρ'' H'' x v
  rcases r.at i with ⟨e1, e2⟩ | ⟨k, x, v, e1, e2, r1⟩
  · rw [e1]
    exact ⟨hk, List.getElem?_eq_none_iff.mp e2⟩
  · rw [e1]
    refine ⟨⟨hk, (List.getElem?_eq_some_iff.mp e2).1⟩, fun w H'' y => ?_⟩
    obtain ⟨rfl, k', v', e3, rfl⟩ := y
    rw [e2] at e3
    cases e3
    exact ⟨ρ', .refl, R, RV.key k⟩
theorem rI_vals (h : H a = some (.frz od (.dK vs))) (r : RKs kOf Z ρ H kvs vs) : rI Z ρ H (itVs kvs) (Itd a od vs) := by
  intro i ρ' h' H' e R
  have hk := e.hold a _ h (.inl trivial)
  show match some (kvs[i]?.map fun p => p.2) with
    | none => True
    | some none => (Itd a od vs).stop i H'
    | some (some x) => (Itd a od vs).go i H' ∧ ∀ v H'', (Itd a od vs).yld i H' v H'' → ∃ ρ'', Ext ρ' H' ρ'' H'' ∧ HR Z ρ'' h' H'' ∧ RV Z ρ'' H'' x v
  rcases r.at i with ⟨e1, e2⟩ | ⟨k, x, v, e1, e2, r1⟩
  · rw [e1]
    exact ⟨hk, List.getElem?_eq_none_iff.mp e2⟩
  · rw [e1]
    refine ⟨⟨hk, (List.getElem?_eq_some_iff.mp e2).1⟩, fun w H'' y => ?_⟩
    obtain ⟨rfl, k', e3⟩ := y
    rw [e2] at e3
    cases e3
    exact ⟨ρ', .refl, R, r1.ext e⟩
theorem rI_items (h : H a = some (.frz od (.dK vs))) (r : RKs kOf Z ρ H kvs vs) : rI Z ρ H (itIs kvs) (Iti a od vs) := by
  intro i ρ' h' H' e R
  have hk := e.hold a _ h (.inl trivial)
  show match some (kvs[i]?.map fun p => MV.tup [mOfK p.1, p.2]) with
    | none => True
    | some none => (Iti a od vs).stop i H'
    | some (some x) => (Iti a od vs).go i H' ∧ ∀ v H'', (Iti a od vs).yld i H' v H'' → ∃ ρ'', Ext ρ' H' ρ'' H'' ∧ HR Z ρ'' h' H'' ∧ RV Z ρ'' H'' x v
  rcases r.at i with ⟨e1, e2⟩ | ⟨k, x, v, e1, e2, r1⟩
  · rw [e1]
    exact ⟨hk, List.getElem?_eq_none_iff.mp e2⟩
  · rw [e1]
    refine ⟨⟨hk, (List.getElem?_eq_some_iff.mp e2).1⟩, fun w H'' y => ?_⟩
    obtain ⟨p, k', v', e3, rfl, hp, rfl⟩ := y
    rw [e2] at e3
    cases e3
    exact ⟨ρ', Ext.still1 hp, R.still1 hp, .tup upd_same (.cons (RV.key k) (.cons ((r1.ext e).ext (Ext.still1 hp)) .nil))⟩
end
def gWalk (it : List (MK × MV) → It1) (a : ME) : MI1 := fun m h => (a m h).bind fun x h1 => match x with
  | .ref j => match h1.get j with
    | some (.fdi kvs) => .ok (it kvs) h1
    | _ => .bad
  | _ => .bad
section
variable {X : Cx} {T : Nat → Addr} {E : XK} {e a tg : Expr} {es : List Expr} {ga : ME} {pos p apos cpos : Pos}
theorem walk_at {σ : L2.St} {H : Hp} {R : It → Hp → Prop} {it : List (MK × MV) → It1} {ρ : List Addr} {m : ML} {h : MH} (s : SR ⟨X.K, T⟩ ρ m h σ H) (q : Post ⟨X.K, T⟩ (rI ⟨X.K, T⟩) ρ H R E (gWalk it ga m h)) :
    tE ⟨X.K, T⟩ E ga σ H fun x H1 => ∃ ρ1 h1 d od kvs vs, x = .ref d ∧ HR ⟨X.K, T⟩ ρ1 h1 H1 ∧ H1 d = some (.frz od (.dK vs)) ∧ RKs kOf ⟨X.K, T⟩ ρ1 H1 kvs vs ∧ Post ⟨X.K, T⟩ (rI ⟨X.K, T⟩) ρ1 H1 R E (.ok (it kvs) h1) :=
  stepI s q fun ρ1 h1 H1 x v s1 e1 r1 q1 => by
    cases r1 with
    | @ref j ad hj =>
      cases g1 : h1.get j with
      | none => dsimp only at q1; rw [g1] at q1; exact q1.elim
      | some ob =>
        dsimp only at q1
        rw [g1] at q1
        cases ob with
        | fdi kvs =>
          obtain ⟨od, vs, h3, h4⟩ := s1.hr.obj g1 hj
          exact ⟨ρ1, h1, ad, od, kvs, vs, rfl, s1.hr, h3, h4, q1⟩
        | _ => exact q1.elim
    | _ => exact q1.elim
theorem ji_keys (ha : JE X T E a ga) : JI X T E tg a (gWalk itK ga) :=
  PI.le (pi_keys ha) fun σ H R ⟨ρ, m, h, s, q⟩ => by
    obtain ⟨ρ', m', h', s', q'⟩ := walk_at s q
    exact ⟨ρ', m', h', s', q'.mono fun b H' ⟨ρ1, h1, d, od, kvs, vs, e1, R1, h3, h4, z⟩ => ⟨d, od, e1, .inl ⟨vs, h3, Post.ok (R := rI _) z R1 (rI_keys h3 h4)⟩⟩⟩
theorem ji_values (ha : JE X T E a ga) (hbase : attributeBase a "values" X.env (eval a X.env) = eval a X.env := by rfl) (hline : (apos.endLine == cpos.line) = true := by rfl) : JI X T E tg (.Call (.Attribute a "values" apos) [] [] cpos) (gWalk itVs ga) :=
  PI.le (pi_values ha hbase hline) fun σ H R ⟨ρ, m, h, s, q⟩ => by
    obtain ⟨ρ', m', h', s', q'⟩ := walk_at s q
    exact ⟨ρ', m', h', s', q'.mono fun b H' ⟨ρ1, h1, d, od, kvs, vs, e1, R1, h3, h4, z⟩ => ⟨d, od, vs, e1, h3, Post.ok (R := rI _) z R1 (rI_vals h3 h4)⟩⟩
theorem ji_items {elts : List Expr} {kk : Nat} {tpos : Pos} (ha : JE X T E a ga) (hbase : attributeBase a "items" X.env (eval a X.env) = eval a X.env := by rfl) (hline : (apos.endLine == cpos.line) = true := by rfl) : JI X T E (.Tuple elts kk tpos) (.Call (.Attribute a "items" apos) [] [] cpos) (gWalk itIs ga) :=
  PI.le (pi_items ha hbase hline) fun σ H R ⟨ρ, m, h, s, q⟩ => by
    obtain ⟨ρ', m', h', s', q'⟩ := walk_at s q
    exact ⟨ρ', m', h', s', q'.mono fun b H' ⟨ρ1, h1, d, od, kvs, vs, e1, R1, h3, h4, z⟩ => ⟨d, od, vs, e1, h3, Post.ok (R := rI _) z R1 (rI_items h3 h4)⟩⟩
def rgM (a b : Int) : List MV := (List.range (b - a).toNat).map fun i => MV.int (a + (i : Nat))
theorem rgM_ok {Z : Zt} {ρ : List Addr} {H : Hp} (a b : Int) : RVs Z ρ H (rgM a b) (rgV a b) := by
  unfold rgM rgV
  generalize List.range (b - a).toNat = l
  induction l with
  | nil => exact .nil
  | cons x l ih => exact .cons (.int _) ih
end
end MI
set_option Elab.async false
set_option linter.all false
set_option maxRecDepth 100000
set_option maxHeartbeats 4000000
namespace MI
open PySem PySem.Spec PyProof.Rows L2 JB
def dOkA (d : PyData) : Bool := d.showable && !d.hasDict && decide (d.depth ≤ 60) && d.leavesShort 60 && decide (d.bulk ≤ 262144)
theorem fineA_of {d : PyData} (h : dOkA d = true) : d.showable = true ∧ d.hasDict = false ∧ d.depth ≤ 60 ∧ d.shown.length ≤ sizeLine := by
  simp only [dOkA, Bool.and_eq_true, Bool.not_eq_true', decide_eq_true_eq] at h
  obtain ⟨⟨⟨⟨h1, h2⟩, h3⟩, h4⟩, h5⟩ := h
  refine ⟨h1, h2, h3, ?_⟩
  have a := PyData.shown_le_bulk 60 (by decide) d h4
  have b : (60 + 2) * d.bulk ≤ 62 * 262144 := Nat.mul_le_mul (by omega) h5
  rw [sizeLine_eq]
  omega
def sFine (s : List Nat) : Bool := decide (s.length ≤ 1000000) && s.all fun c => decide (c < 4294967296)
theorem sFine_ok {s : List Nat} (h : sFine s = true) : (reprText ⟨s.toArray⟩).length ≤ sizeLine := by
  simp only [sFine, Bool.and_eq_true, decide_eq_true_eq, List.all_eq_true] at h
  have a := StrLaws.reprText_len ⟨s.toArray⟩ (fun c hc => by
    have := h.2 c (by simpa using hc)
    have e : (16 : Nat) ^ 8 = 4294967296 := by decide
    omega)
  have b : (⟨s.toArray⟩ : Str).length = s.length := by show s.toArray.size = _; simp
  rw [sizeLine_eq]
  omega
def eqS (x y : MV) : Bool := match x, y with
  | .non, .non => true
  | .bl b, .bl c => b == c
  | .int i, .int j => decide (i = j) && iSmall i
  | .str s, .str t => leq s t && sFine s
  | _, _ => false
def gSameA (g1 g2 : ME) : ME := fun m h => (g1 m h).bind fun x h1 => if isRow x = true then match toD h1 61 x with
    | some d => if dOkA d = true then (g2 m h1).bind fun y h2 => if isRow y = true then match toD h2 61 y with
        | some e => if dOkA e = true ∧ dEq 61 d e = true then .ok (.bl true) h2 else .bad
        | none => .bad
      else .bad
      else .bad
    | none => .bad
  else if eqS x x = true then (g2 m h1).bind fun y h2 => if eqS x y = true then .ok (.bl true) h2 else .bad else .bad
section
variable {X : Cx}
abbrev rShowS : List V → Hp → VK → Prop := fun xs H Q => (∃ i, xs = [.int i] ∧ i.natAbs.log2 < 1920 ∧ Q (.str (toString i)) H) ∨ (∃ y : Str, xs = [.str y] ∧ (reprText y).length ≤ sizeLine ∧ Q (.str (reprText y)) H) ∨
  (∃ b : Bool, xs = [.bl b] ∧ Q (.str (if b then "True" else "False")) H) ∨ (xs = [.non] ∧ Q (.str "None") H)
theorem call_showS : CallR X (.builtin "repr") rShowS := by
  intro pins s σ H xs us Q I r h
  rcases h with ⟨i, rfl, hz, q⟩ | ⟨y, rfl, hz, q⟩ | ⟨b, rfl, q⟩ | ⟨rfl, q⟩
  · obtain ⟨u, rfl, t, rfl⟩ := vals1 r
    exact PySem.P.repr_of_int hz ⟨.str _, H, I.tok _, ⟨_, rfl⟩, q⟩
  · obtain ⟨u, rfl, t, rfl⟩ := vals1 r
    exact PySem.P.repr_of_str ⟨.str _, H, I.tok _, ⟨_, rfl⟩, q⟩ hz
  · obtain ⟨u, rfl, rx⟩ := vals1 r
    cases (show u = Value.bool b from rx)
    exact PySem.P.repr_of_bool ⟨.str _, H, I.tok _, ⟨_, rfl⟩, q⟩
  · obtain ⟨u, rfl, rx⟩ := vals1 r
    cases (show u = Value.none from rx)
    exact PySem.P.repr_of_none ⟨.str _, H, I.tok _, ⟨_, rfl⟩, q⟩
end
section
variable {P : Program} {w : World} {K : PySem.W.Frag} {mg : Str → Option Value} {base : Heap} {T : Nat → Addr}
theorem showS_ok {Z : Zt} {ρ : List Addr} {H : Hp} {x : MV} {v : V} (r : RV Z ρ H x v) (e : eqS x x = true) : ∃ t : Str, ∀ (H1 : Hp) (Q : VK), Q (.str t) H1 → rShowS [v] H1 Q := by
  cases r with
  | non => exact ⟨_, fun H1 Q q => .inr (.inr (.inr ⟨rfl, q⟩))⟩
  | bl b => exact ⟨_, fun H1 Q q => .inr (.inr (.inl ⟨b, rfl, q⟩))⟩
  | int i =>
    have e' : (decide (i = i) && iSmall i) = true := e
    simp only [Bool.and_eq_true] at e'
    exact ⟨_, fun H1 Q q => .inl ⟨i, rfl, iSmall_ok e'.2, q⟩⟩
  | str s =>
    have e' : (leq s s && sFine s) = true := e
    simp only [Bool.and_eq_true] at e'
    exact ⟨_, fun H1 Q q => .inr (.inl ⟨_, rfl, sFine_ok e'.2, q⟩)⟩
  | _ => cases e
theorem eqS_eq {x y : MV} (h : eqS x y = true) : x = y := by
  cases x <;> cases y <;> first
    | rfl
    | (cases h; done)
    | (rename_i a b
       simp only [eqS, Bool.and_eq_true, decide_eq_true_eq, beq_iff_eq] at h
       first
         | rw [h.1]
         | rw [h]
         | rw [leq_iff.mp h.1])
theorem scal_rv {Z : Zt} {ρ ρ' : List Addr} {H H' : Hp} {x : MV} {v w : V} (r : RV Z ρ H x v) (q : RV Z ρ' H' x w) (e : eqS x x = true) : v = w := by
  cases r <;> cases q <;> first | rfl | (cases e; done)
theorem je_sameA {X : Cx} {E : XK} {e1 e2 : Expr} {p1 p2 q1 q2 c1 : Pos} {g1 g2 : ME} (hs : JB.Still X.A) (hu : X.A.units + 64 < cLine) (hg : Gl X "repr") (hm : X.mg "repr" = none)
    (ha : JE X T E e1 g1) (hb : JE X T E e2 g2) (h1 : starEach [e1] X.env = (false, eval e1 X.env) :: starEach [] X.env := by rfl) (h2 : starEach [e2] X.env = (false, eval e2 X.env) :: starEach [] X.env := by rfl)
    (k1 : (backTo p2 (starEach ([] : List Expr) X.env)).any (·.1) = false := by rfl) (k2 : (backTo q2 (starEach ([] : List Expr) X.env)).any (·.1) = false := by rfl)
    (hbm : behindInMarks .Eq (.Call (.Name "repr" q1) [e2] [] q2) = false := by rfl) :
    JE X T E (.Compare (.Call (.Name "repr" p1) [e1] [] p2) [.Eq] [.Call (.Name "repr" q1) [e2] [] q2] c1) (gSameA g1 g2) :=
  PE.le (pe_cmpR op_eq (pe_callB (CallR.or (call_show hs hu) call_showS) hg hm (by decide +kernel) (pa_cons ha pa_nil h1) (by decide) (by decide) h1 k1) (pe_callB (CallR.or (call_show hs hu) call_showS) hg hm (by decide +kernel) (pa_cons hb pa_nil h2) (by decide) (by decide) h2 k2) hbm)
    fun σ H Q ⟨ρ, m, h, s, q⟩ => stepE s q fun ρ1 h1 H1 x v s1 e1 r1 q1 => by
      by_cases c : isRow x = true
      · rw [if_pos c] at q1
        cases t : toD h1 61 x with
        | none => rw [t] at q1; exact q1.elim
        | some d =>
          rw [t] at q1
          dsimp only at q1
          by_cases o : dOkA d = true
          · rw [if_pos o] at q1
            obtain ⟨a, rfl⟩ := row_ref r1 c
            obtain ⟨f1, f2, f3, f4⟩ := fineA_of o
            refine .inl ⟨a, d, rfl, toD_ok s1.hr 61 r1 t, f1, f2, f3, f4, stepE s1 q1 fun ρ2 h2 H2 y w s2 e2 r2 q2 => ?_⟩
            by_cases c2 : isRow y = true
            · rw [if_pos c2] at q2
              cases t2 : toD h2 61 y with
              | none => rw [t2] at q2; exact q2.elim
              | some e =>
                rw [t2] at q2
                dsimp only at q2
                by_cases o2 : dOkA e = true ∧ dEq 61 d e = true
                · rw [if_pos o2] at q2
                  obtain ⟨b, rfl⟩ := row_ref r2 c2
                  obtain ⟨i1, i2, i3, i4⟩ := fineA_of o2.1
                  have de := dEq_eq 61 o2.2
                  refine .inl ⟨b, e, rfl, toD_ok s2.hr 61 r2 t2, i1, i2, i3, i4, rfl, ?_⟩
                  rw [decide_eq_true (by rw [de])]
                  exact q2.ok s2.hr (.bl true)
                · rw [if_neg o2] at q2; exact q2.elim
            · rw [if_neg c2] at q2; exact q2.elim
          · rw [if_neg o] at q1; exact q1.elim
      · rw [if_neg c] at q1
        by_cases c1 : eqS x x = true
        · rw [if_pos c1] at q1
          obtain ⟨t, ht⟩ := showS_ok r1 c1
          refine .inr (ht _ _ (stepE s1 q1 fun ρ2 h2 H2 y w s2 e2 r2 q2 => ?_))
          by_cases c2 : eqS x y = true
          · rw [if_pos c2] at q2
            have exy := eqS_eq c2
            subst exy
            have evw := scal_rv r1 r2 c1
            subst evw
            refine .inr (ht _ _ ⟨rfl, ?_⟩)
            rw [decide_eq_true rfl]
            exact q2.ok s2.hr (.bl true)
          · rw [if_neg c2] at q2; exact q2.elim
        · rw [if_neg c1] at q1; exact q1.elim
end
end MI
set_option Elab.async false
set_option linter.all false
set_option maxRecDepth 100000
set_option maxHeartbeats 4000000
namespace MI
open PySem PySem.Spec PyProof.Rows L2 JB
def mEqB (k : Bool → Bool) (x y : MV) (h : MH) : Out MV := match toD h 61 x, toD h 61 y with
  | some d, some e => if okD d = true ∧ okD e = true then .ok (.bl (k (PyData.eqv d e))) h else .bad
  | _, _ => .bad
theorem eqB_ok {Z : Zt} {E : XK} {k : Bool → Bool} {ρ : List Addr} {h : MH} {H : Hp} {x y : MV} {v w : V} {Q : VK} (R : HR Z ρ h H) (r : RV Z ρ H x v) (q : RV Z ρ H y w) (p : Post Z (rV Z) ρ H Q E (mEqB k x y h)) :
    ∃ d e, Dp Z.K H v d ∧ Dp Z.K H w e ∧ SeqAt.shaped d = true ∧ SeqAt.shaped e = true ∧ Q (.bl (k (PyData.eqv d e))) H := by
  unfold mEqB at p
  cases t1 : toD h 61 x with
  | none => rw [t1] at p; exact p.elim
  | some d =>
    cases t2 : toD h 61 y with
    | none => rw [t1, t2] at p; exact p.elim
    | some e =>
      rw [t1, t2] at p
      dsimp only at p
      by_cases c : okD d = true ∧ okD e = true
      · rw [if_pos c] at p
        exact ⟨d, e, toD_ok R 61 r t1, toD_ok R 61 q t2, c.1, c.2, p.ok R (.bl _)⟩
      · rw [if_neg c] at p; exact p.elim
theorem om_eqB {Z : Zt} {E : XK} : OpM Z E (mEqB fun b => b) (rEqD Z.K) := fun ρ h H x y v w Q R r q p => eqB_ok R r q p
theorem om_neB {Z : Zt} {E : XK} : OpM Z E (mEqB fun b => !b) (rNeD Z.K) := fun ρ h H x y v w Q R r q p => eqB_ok R r q p
def mEqX (x y : MV) (h : MH) : Out MV := if isRow x = true then mEqB (fun b => b) x y h else mEqV x y h
def mNeX (x y : MV) (h : MH) : Out MV := if isRow x = true then mEqB (fun b => !b) x y h else mNeV x y h
theorem mEqX_or (x y : MV) (h : MH) : mEqX x y h = mEqB (fun b => b) x y h ∨ mEqX x y h = mEqV x y h := by unfold mEqX; split; exact .inl rfl; exact .inr rfl
theorem mNeX_or (x y : MV) (h : MH) : mNeX x y h = mEqB (fun b => !b) x y h ∨ mNeX x y h = mNeV x y h := by unfold mNeX; split; exact .inl rfl; exact .inr rfl
section
variable {X : Cx} {T : Nat → Addr} {E : XK} {a b e : Expr} {ga gb : ME} {pos : Pos}
theorem jt_eqF (hu : X.A.units + 64 < cLine) (ha : JE X T E a ga) (hb : JE X T E b gb) : JT X T E (.Compare a [.Eq] [b] pos) (gB (gBin mEqX ga gb)) :=
  jt_bin_or (jt_cmp (op_eqD hu) om_eqB ha hb (nobehind _ (by decide) (by decide))) (jt_eq ha hb) mEqX_or
theorem jt_neF (hu : X.A.units + 64 < cLine) (ha : JE X T E a ga) (hb : JE X T E b gb) : JT X T E (.Compare a [.NotEq] [b] pos) (gB (gBin mNeX ga gb)) :=
  jt_bin_or (jt_cmp (op_neD hu) om_neB ha hb (nobehind _ (by decide) (by decide))) (jt_ne ha hb) mNeX_or
end
end MI
set_option Elab.async false
set_option linter.all false
set_option maxRecDepth 100000
set_option maxHeartbeats 4000000
namespace JB
open PySem PySem.Spec PyProof.Rows L2
structure Base (B newId initId : String) (bm : List Value) : Prop where
  facts : ExcBaseFacts B newId initId bm
  pass : ∀ self : Value, refuseLoop self "__setattr__" bm = pure ()
  obj : bm.contains (.type "object") = true
  exc : bm.contains (.type "BaseException") = true
theorem base_V : Base "ValueError" "ValueError.__new__" "ValueError.__init__"
    [.type "ValueError", .type "Exception", .type "BaseException", .type "object"] :=
  ⟨F.excBase_ValueError, fun _ => by kernel_rfl, by decide +kernel, by decide +kernel⟩
theorem base_L : Base "LookupError" "LookupError.__new__" "LookupError.__init__"
    [.type "LookupError", .type "Exception", .type "BaseException", .type "object"] :=
  ⟨F.excBase_LookupError, fun _ => by kernel_rfl, by decide +kernel, by decide +kernel⟩
theorem base_R : Base "RuntimeError" "RuntimeError.__new__" "RuntimeError.__init__"
    [.type "RuntimeError", .type "Exception", .type "BaseException", .type "object"] :=
  ⟨F.excBase_RuntimeError, fun _ => by kernel_rfl, by decide +kernel, by decide +kernel⟩
theorem base_O : Base "OverflowError" "OverflowError.__new__" "OverflowError.__init__"
    [.type "OverflowError", .type "ArithmeticError", .type "Exception", .type "BaseException", .type "object"] :=
  ⟨F.excBase_OverflowError, fun _ => by kernel_rfl, by decide +kernel, by decide +kernel⟩
structure ExK (K : PySem.W.Frag) (C : Addr) (newId : String) (bm : List Value) : Prop where
  cls : ∃ nm q N bs sn sub ab col dd k0 k1 k2 k3 k5,
    K.lookup C = some (excClassObj nm q C N bs bm true sn sub ab col dd k0 k1 k2 k3 k5 newId)
  sa : PySem.W.findIn K (.ref C) "__setattr__" = some (some (.builtin "object.__setattr__"))
  ga : PySem.W.findIn K (.ref C) "__getattribute__" = some (some (.builtin "BaseException.__getattribute__"))
  gg : PySem.W.findIn K (.ref C) "__getattr__" = some none
  ca : PySem.W.findIn K (.ref C) "__class__" = some (some (.builtin "object.__class__"))
  ty : PySem.W.typeIn K (.ref C) = some (.type "type")
  kp : PySem.W.keepIn K (.ref C) = true
section
variable {K : PySem.W.Frag} {C D : Addr} {newId B initId : String} {bm : List Value}
theorem ExK.cd (T : ExK K C newId bm) : ∃ cd, PySem.W.clsIn K C = some cd ∧ cd.mro = .ref C :: bm ∧ cd.hasDict = true := by
  obtain ⟨nm, q, N, bs, sn, sub, ab, col, dd, k0, k1, k2, k3, k5, hC⟩ := T.cls
  have h : PySem.W.clsIn K C = Option.some (ClassData.mk nm bs (.ref C :: bm) N q true sn sub ab col false) := by
    unfold PySem.W.clsIn
    rw [hC] <;> rfl
  exact ⟨_, h, rfl, rfl⟩
theorem ExK.some (T : ExK K C newId bm) : (PySem.W.clsIn K C).isSome = true := by
  obtain ⟨cd, h, _⟩ := T.cd
  rw [h]; rfl
theorem ExK.mro (T : ExK K C newId bm) (b : Value) : PySem.W.mroIn K C b = Option.some ((Value.ref C :: bm).contains b) := by
  obtain ⟨cd, h, e, _⟩ := T.cd
  unfold PySem.W.mroIn
  rw [h, Option.bind_some, e]
  rfl
theorem ExK.sub (T : ExK K C newId bm) (b : Value) : PySem.W.subIn K (.ref C) b = Option.some ((Value.ref C :: bm).contains b) := T.mro b
theorem has_ty {b : String} : (Value.ref C :: bm).contains (.type b) = bm.contains (.type b) := by
  rw [List.contains_cons]
  have : (Value.type b == Value.ref C) = false := by simp
  rw [this, Bool.false_or]
theorem ExK.bas (T : ExK K C newId bm) (F : Base B newId initId bm) : PySem.W.subIn K (.ref C) (.type "BaseException") = Option.some true := by
  rw [T.sub, has_ty, F.exc]
theorem ExK.obj (T : ExK K C newId bm) (F : Base B newId initId bm) : PySem.W.mroIn K C (.type "object") = Option.some true := by
  rw [T.mro, has_ty, F.obj]
end
section
open Builtin Builtin.ObjectAttr
variable {prog : Program} {w : World} {A : Around} {R : Result → Shared → Prop} {hp : Heap} {g : Array GenState}
variable {d : Drawn} {t : Nat} {os : OsState} {K : PySem.W.Frag} {name : Str} {tk : Tok} {v : Value} {x C dx : Addr}
variable {fv : Array Value} {cd : ClassData} {m0 : Str → Option Value} {nl : List Str}
theorem osa_first (X : K.In hp) (hx : hp.get? x = some { cls := .ref C, data := .fields fv })
    (hcd : PySem.W.clsIn K C = some cd) (hm : cd.mro.contains (.type "object") = true) (hne : cd.mro.isEmpty = false)
    (hps : refuseLoop (.ref x) "__setattr__" cd.mro = pure ()) (hh : cd.hasDict = true)
    (ha : PySem.W.findIn K (.ref C) name = some none)
    (hq : ∀ h' tk' dx, (∀ b o, b ≠ x → hp.get? b = some o → h'.get? b = some o) → hp.objs.size ≤ dx → dx ≠ x →
      h'.get? x = some { cls := .ref C, dict := some dx, data := .fields fv } →
      h'.Ns1 dx (fun y => if y = name then some v else none) → R (.ok (.ret .none)) ⟨h', g, d, tk', os⟩) :
    codeAny (model prog w) A (.call (.builtin "object.__setattr__") ⟨[.ref x, .str name tk, v], []⟩) R ⟨hp, g, d, t, os⟩ := by
  have I : PySem.W.InstAt hp x { cls := .ref C, data := .fields fv } C none := ⟨hx, rfl, rfl, trivial⟩
  have SF := F.store_object
  have hxs : x ≠ hp.objs.size := Nat.ne_of_lt (Heap.lt_size hx)
  have sub : PySem.W.Looks (model prog w) hp (isInstance (.ref x) (.type "object")) true :=
    I.type.andThen (PySem.W.looks_mroIn X (by
      unfold PySem.W.mroIn
      rw [hcd, Option.bind_some, if_neg (by rw [hne]; decide), hm]))
  refine codeAny_call_builtin SF.slot.plain SF.entry (@PySem.W.check_slot (model prog w) _ _ ⟨hp, g, d, t, os⟩
    "object.__setattr__" "object" "__setattr__" (.ref x) [.str name tk, v] [] _ SF.kind SF.split sub
    (SF.args (.ref x) (.str name tk) v) ?_)
  have hmr : PySem.W.Looks (model prog w) hp (mroOf (.ref C)) cd.mro := (PySem.W.looks_clsIn X hcd).andThen .now
  have L3 : PySem.W.Looks (model prog w) hp (storeTaker? none) none := .now
  have hcls : PySem.W.Looks (model prog w) hp (classData C) cd := PySem.W.looks_clsIn X hcd
  rw [PySem.W.osa_eq, refuse_eq]
  refine wpAny_bind (wpAny_bind (I.type.at (wpAny_bind (hmr.at ?_))))
  rw [hps]
  refine wpAny_pure (wpAny_bind (I.type.at (wpAny_bind ((PySem.W.looks_findIn X ha).at (wpAny_bind (L3.at ?_))))))
  show wpAny _ _ (storeInOwnDict (.ref x) (.ref C) (.str name tk) name v false) _ _ _
  obtain ⟨nm, bs, mro, ns, qn, hd, sn, sb, ab, col, del⟩ := cd
  obtain rfl : hd = true := hh
  unfold storeInOwnDict ownDictForStores
  repeat (first
    | with_reducible refine PySem.HandSPX.store_in_new ?_ ?_
    | with_reducible refine wpAny_loadPart_at hx ?_
    | with_reducible refine hcls.at ?_
    | wp_step)
  · exact ⟨_, #[], _, (Heap.get?_update_ne _ _ _ _ hxs.symm).trans (Heap.get?_push_at rfl rfl), rfl,
      fun e he => absurd he (by simp), fun _ => rfl⟩
  · intro h' tk' hn' hs
    have hx₁ : (hp.push { cls := .type "dict", data := .dict #[] }).get? x = some { cls := .ref C, data := .fields fv } :=
      Heap.get?_push_of_some _ hx
    refine hq h' tk' hp.objs.size (fun b o hb ho => ?_) (Nat.le_refl _) hxs.symm ?_ hn'
    · exact (hs.2 b (Nat.ne_of_lt (Heap.lt_size ho))).trans
        ((Heap.get?_update_ne _ _ _ _ hb).trans (Heap.get?_push_of_some _ ho))
    · exact (hs.2 x hxs).trans (Heap.get?_update_self _ hx₁ rfl)
theorem osa_more (X : K.In hp) (hx : hp.get? x = some { cls := .ref C, dict := some dx, data := .fields fv })
    (hns : hp.Ns1 dx m0) (hw : Within m0 nl) (hz : nl.length ≤ 1000)
    (hcd : PySem.W.clsIn K C = some cd) (hm : cd.mro.contains (.type "object") = true) (hne : cd.mro.isEmpty = false)
    (hps : refuseLoop (.ref x) "__setattr__" cd.mro = pure ()) (hh : cd.hasDict = true)
    (ha : PySem.W.findIn K (.ref C) name = some none)
    (hq : ∀ h' tk', (∀ b o, b ≠ dx → hp.get? b = some o → h'.get? b = some o) →
      h'.Ns1 dx (fun y => if y = name then some v else m0 y) → R (.ok (.ret .none)) ⟨h', g, d, tk', os⟩) :
    codeAny (model prog w) A (.call (.builtin "object.__setattr__") ⟨[.ref x, .str name tk, v], []⟩) R ⟨hp, g, d, t, os⟩ := by
  obtain ⟨oD, esD, epD, hoD, hdD, _⟩ := hns.count hw
  have I : PySem.W.InstAt hp x { cls := .ref C, dict := some dx, data := .fields fv } C (some oD) := ⟨hx, rfl, rfl, hoD⟩
  have SF := F.store_object
  have sub : PySem.W.Looks (model prog w) hp (isInstance (.ref x) (.type "object")) true :=
    I.type.andThen (PySem.W.looks_mroIn X (by
      unfold PySem.W.mroIn
      rw [hcd, Option.bind_some, if_neg (by rw [hne]; decide), hm]))
  refine codeAny_call_builtin SF.slot.plain SF.entry (@PySem.W.check_slot (model prog w) _ _ ⟨hp, g, d, t, os⟩
    "object.__setattr__" "object" "__setattr__" (.ref x) [.str name tk, v] [] _ SF.kind SF.split sub
    (SF.args (.ref x) (.str name tk) v) ?_)
  have hmr : PySem.W.Looks (model prog w) hp (mroOf (.ref C)) cd.mro := (PySem.W.looks_clsIn X hcd).andThen .now
  have L3 : PySem.W.Looks (model prog w) hp (storeTaker? none) none := .now
  have hcls : PySem.W.Looks (model prog w) hp (classData C) cd := PySem.W.looks_clsIn X hcd
  rw [PySem.W.osa_eq, refuse_eq]
  refine wpAny_bind (wpAny_bind (I.type.at (wpAny_bind (hmr.at ?_))))
  rw [hps]
  refine wpAny_pure (wpAny_bind (I.type.at (wpAny_bind ((PySem.W.looks_findIn X ha).at (wpAny_bind (L3.at ?_))))))
  show wpAny _ _ (storeInOwnDict (.ref x) (.ref C) (.str name tk) name v false) _ _ _
  obtain ⟨nm, bs, mro, ns, qn, hd, sn, sb, ab, col, del⟩ := cd
  obtain rfl : hd = true := hh
  unfold storeInOwnDict ownDictForStores
  repeat (first
    | with_reducible refine PySem.OEX.store_in_old hns hw hz ?_
    | with_reducible refine wpAny_loadPart_at hx ?_
    | with_reducible refine hcls.at ?_
    | wp_step)
  intro h' tk' hn' hs
  exact hq h' tk' (fun b o hb ho => (hs.2 b hb).trans ho) hn'
end
end JB
set_option Elab.async false
set_option linter.all false
set_option maxRecDepth 100000
set_option maxHeartbeats 4000000
namespace PySem
namespace JX
open Builtin Builtin.ObjectAttr PySem.HandSPX
section
variable {M : Model} {A : Around} {E : Value → Shared → Prop} {h : Heap} {g : Array GenState} {d : Drawn} {t : Nat}
variable {os : OsState} {nm q : Str} {C N : Addr} {bs bmB : List Value} {hdct : Bool} {sn : List Str}
variable {sub : List Value} {ab : Bool} {col : Option Bool} {dd : Option Addr} {k0 k1 k2 k3 k5 : Option Value}
variable {B newId initId : String} {kw : List (Str × Value)}
theorem check_newK (F : ExcBaseFacts B newId initId bmB) {rest : List Value} {Q : Unit → Shared → Prop}
    (hC : h.get? C = some (excClassObj nm q C N bs bmB hdct sn sub ab col dd k0 k1 k2 k3 k5 newId))
    (hq : Q () ⟨h, g, d, t, os⟩) : wpAny M A (checkBuiltinCall newId ⟨.ref C :: rest, kw⟩) Q E ⟨h, g, d, t, os⟩ := by
  have hcont : (Value.ref C :: bmB).contains (.type B) = true := by rw [List.contains_cons, F.hasB, Bool.or_true]
  have hstar := F.noStar
  simp only [checkBuiltinCall, F.newKind, F.newSplit, F.newRow]
  repeat (first
    | refine wpAny_loadPart_at hC ?_
    | (refine wpAny_isSubtype_exc hC ?_; rw [hcont])
    | refine wpAny_staticBase_exc hC ?_
    | refine wpAny_madeBy_exc hC ?_
    | simp only [bne_self_eq_false, Bool.false_eq_true, if_false]
    | wp_step)
  exact hq
end
section
variable {prog : Program} {w : World} {A : Around} {E : Value → Shared → Prop} {R : Result → Shared → Prop}
variable {h : Heap} {g : Array GenState} {d : Drawn} {t : Nat} {os : OsState} {nm q : Str} {C N : Addr}
variable {bs bmB : List Value} {hdct : Bool} {sn : List Str} {sub : List Value} {ab : Bool} {col : Option Bool}
variable {dd : Option Addr} {k0 k1 k2 k3 k5 : Option Value} {B newId initId : String} {kw : List (Str × Value)}
theorem newK (F : ExcBaseFacts B newId initId bmB) {rest : List Value}
    (hC : h.get? C = some (excClassObj nm q C N bs bmB hdct sn sub ab col dd k0 k1 k2 k3 k5 newId))
    (hq : R (.ok (.ret (.ref (h.objs.size + 1)))) ⟨(h.push { cls := .type "tuple", data := .seq rest.toArray }).push
      { cls := .ref C, data := .fields #[.ref h.objs.size, .none, .none, .none, .bool false, .none] }, g, d, t, os⟩)
    (hrest : rest.length ≤ sizeLine) :
    codeAny (model prog w) A (.builtin newId ⟨.ref C :: rest, kw⟩) R ⟨h, g, d, t, os⟩ := by
  have hends := F.ends
  have hcB : (Value.ref C :: bmB).contains (.type B) = true := by rw [List.contains_cons, F.hasB, Bool.or_true]
  have hcA : (Value.ref C :: bmB).contains (.type "AttributeError") = false := by rw [List.contains_cons, F.noAttr]; rfl
  have hcN : (Value.ref C :: bmB).contains (.type "NameError") = false := by rw [List.contains_cons, F.noName]; rfl
  refine codeAny_builtinAt F.entry ?_
  unfold Builtin.«BaseException.__new__»
  refine wpAt_bind ?_
  show wpAt _ _ _ (stack >>= _) _ _ _
  refine wpAt_bind (wpAt_stack fun p below => wpAt_of_wpAny ?_)
  wp_walk
  refine wpAt_of_wpAny ?_
  rw [F.owner]
  repeat (first
    | with_reducible refine wpAny_madeHere_exc F.canon hC ?_
    | with_reducible refine wpAny_loadPart_at hC ?_
    | (with_reducible refine wpAny_isSubtype_exc hC ?_; first | rw [hcB] | rw [hcA] | rw [hcN])
    | wp_step)
  show R _ _
  rw [Heap.size_push]
  exact hq
theorem type_callK (F : ExcBaseFacts B newId initId bmB) {rest : List Value} {fI : Addr} {Q : Fin → Shared → Prop}
    (hC : h.get? C = some (excClassObj nm q C N bs bmB hdct sn sub ab col dd k0 k1 k2 k3 k5 newId))
    (hi : W.Looks (model prog w) h (typeLookup (.ref C) "__init__") (some (.ref fI)))
    (hb : ∀ self, W.Looks (model prog w) h (bindSpecial (.ref fI) self) (.ref fI, [self])) (hrest : rest.length ≤ sizeLine)
    (hq : codeAny (model prog w) A (.call (.ref fI) ⟨.ref (h.objs.size + 1) :: rest, kw⟩)
      (fun r s' => match r with
        | .ok (.ret v) => v = .none ∧ Q (.done (.ret (.ref (h.objs.size + 1)))) s'
        | .ok _ => False
        | .error e => E e s')
      ⟨(h.push (W.kdv_tup rest)).push (excO C h.objs.size), g, d, t, os⟩) :
    wpAny (model prog w) A (Builtin.«type.__call__» ⟨.ref C :: rest, kw⟩) Q E ⟨h, g, d, t, os⟩ := by
  repeat (first
    | with_reducible refine wpAny_loadPart_at hC ?_
    | with_reducible refine wpAny_madeBy_exc hC ?_
    | wp_step)
  refine codeAny_call_builtin_code (Code.quiet_builtin _ F.quiet) (check_newK F hC ?_)
  refine newK F hC ?_ hrest
  show wpAny _ _ _ _ _ _
  have k : ∀ b o, h.get? b = some o → ((h.push (W.kdv_tup rest)).push (excO C h.objs.size)).get? b = some o :=
    fun b o e => Heap.get?_push_of_some _ (Heap.get?_push_of_some _ e)
  have hC₁ := k _ _ hC
  have hget : ((h.push (W.kdv_tup rest)).push (excO C h.objs.size)).get? (h.objs.size + 1) = some (excO C h.objs.size) := by
    heap_get
  have hcC : (Value.ref C :: bmB).contains (.ref C) = true := by simp
  have i1 := hi.keeps k
  have b1 := (hb (.ref (h.objs.size + 1))).keeps k
  unfold isInstance
  repeat (first
    | with_reducible refine wpAny_loadPart_at hget ?_
    | (with_reducible refine wpAny_isSubtype_exc hC₁ ?_; rw [hcC])
    | wp_step)
  show wpAny _ _ (typeLookup (.ref C) _) _ _ _
  refine i1.at ?_
  refine wpAny_holding (wpAny_bind (b1.at ?_))
  refine wpAny_bind (wpAny_call (codeAny_mono hq fun r s' z => ?_))
  rcases r with e | (v | _ | _ | _) <;> first | exact z | exact z.elim | skip
  obtain ⟨rfl, z⟩ := z
  first
    | exact wpAny_pure (wpAny_pure z)
    | (wp_walk; exact z)
theorem callK (F : ExcBaseFacts B newId initId bmB) {rest : List Value} {fI : Addr}
    (hC : h.get? C = some (excClassObj nm q C N bs bmB hdct sn sub ab col dd k0 k1 k2 k3 k5 newId))
    (hi : W.Looks (model prog w) h (typeLookup (.ref C) "__init__") (some (.ref fI)))
    (hb : ∀ self, W.Looks (model prog w) h (bindSpecial (.ref fI) self) (.ref fI, [self])) (hrest : rest.length ≤ sizeLine)
    (hq : codeAny (model prog w) (A.under (.builtin "type.__call__" ⟨.ref C :: rest, kw⟩))
      (.call (.ref fI) ⟨.ref (h.objs.size + 1) :: rest, kw⟩) (W.InitBack (h.objs.size + 1) R)
      ⟨(h.push (W.kdv_tup rest)).push (excO C h.objs.size), g, d, t, os⟩) :
    codeAny (model prog w) A (.call (.ref C) ⟨rest, kw⟩) R ⟨h, g, d, t, os⟩ := by
  have f1 := tc_lookup
  have f2 := tc_bind (.ref C)
  have hTy : (⟨h, g, d, t, os⟩ : Shared).TypeIs (.ref C) "type" := ⟨_, hC, rfl⟩
  refine codeAny_of_tree ?_
  show wpAny _ _ (callAny (.ref C) _) _ _ _
  repeat (any_goals (first | assumption | with_reducible refine wpAny_loadPart_at hC ?_ | wp_step))
  refine ⟨rfl, ?_⟩
  refine codeAny_call_builtin_at (Code.quiet_builtin _ (by decide +kernel)) entry_typeCall
    (wpAny_check_type_call_sub hC (type_callK F hC hi hb hrest ?_))
  refine codeAny_mono hq fun r s' z => ?_
  rcases r with e | (v | _ | _ | _) <;> exact z
end
end JX
end PySem
set_option Elab.async false
set_option linter.all false
set_option maxRecDepth 100000
set_option maxHeartbeats 4000000
namespace JB
open PySem PySem.Spec PyProof.Rows L2
section
variable {X : Cx} {pins : List (Addr × Obj)} {σ : L2.St} {H : Hp} {s : Shared} {a C dx : Addr} {f : Str} {y : V} {u : Value}
variable {fs : List (Str × V)} {E : Value → Shared → Prop} {A : Around} {B newId initId : String} {bm : List Value}
theorem ExK.pass (T : ExK X.K C newId bm) (F : Base B newId initId bm) {cd : ClassData} (e : cd.mro = .ref C :: bm) (x : Value) :
    refuseLoop x "__setattr__" cd.mro = pure () := by
  rw [e, refuseLoop_ref]; exact F.pass x
theorem set_first {Q : Unit → Shared → Prop} (F : Base B newId initId bm) (T : ExK X.K C newId bm) (I : Inv X pins σ H s)
    (e : H a = some (exo a C none)) (hno : PySem.W.findIn X.K (.ref C) f = some none) (ry : RelV y u)
    (h : ∀ dx s', H dx = none → dx ≠ a →
      Inv X pins σ (upd (upd H dx (exd dx [(f, y)])) a (exo a C (some dx))) s' → Q () s') :
    wpAny (model X.prog X.w) A (setAttr (.ref a) f u) Q E s := by
  obtain ⟨cd, hcl, hm, hh⟩ := T.cd
  obtain ⟨t1, ho⟩ := exo_at I.hok e
  obtain ⟨hp, g, d, t, os⟩ := s
  refine PySem.W.set_plain I.kIn (od := none) (C := C)
    (ox := { cls := .ref C, dict := none, data := .fields #[.ref t1, .none, .none, .none, .bool false, .none] })
    ⟨ho, rfl, rfl, trivial⟩ T.sa ?_
  refine osa_first I.kIn ho hcl (by rw [hm, has_ty]; exact F.obj) (by rw [hm]; rfl) (T.pass F hm _) hh hno
    (fun h' tk' dx k dn dne hx hn => ?_)
  have hnd : H dx = none := I.hok.fresh dn
  have nd : ∀ {b : Addr} {o : Obj}, hp.get? b = some o → b ≠ dx :=
    fun {b o} q => Nat.ne_of_lt (Nat.lt_of_lt_of_le (Heap.lt_size q) dn)
  have na : ∀ {b : Addr}, H b = none → b ≠ a := by
    rintro b n rfl
    rw [e] at n
    cases n
  have U : Un X.fs [] H (upd (upd H dx (exd dx [(f, y)])) a (exo a C (some dx))) hp h' := by
    constructor
    · exact fun b o q n _ _ => k b o (na n) q
    · exact fun b o q n _ _ => ⟨o.slots, k b o (na n) q⟩
    · intro b o q n _
      rw [upd_ne (na n), upd_ne (nd q)]; exact n
    · intro b o q _
      by_cases hb : b = a
      · subst hb; exact ⟨_, hx⟩
      · exact ⟨o, k b o hb q⟩
    · intro b xs q
      rw [upd_ne (at_ne e q exo_tup), upd_ne (ne_of_none q hnd)]; exact q
    · intro b o v q
      rw [upd_ne (at_ne e q exo_frz), upd_ne (ne_of_none q hnd)]; exact q
    · intro b ps q
      exact ⟨#[], by rw [upd_ne (at_ne e q exo_tbl), upd_ne (ne_of_none q hnd), q]; simp⟩
  refine h dx _ hnd dne (I.un (t' := tk') U fun b o q => ?_)
  by_cases hb : b = a
  · subst hb
    rw [upd_same] at q
    cases q
    exact exo_ok hx
  rw [upd_ne hb] at q
  by_cases hd : b = dx
  · subst hd
    rw [upd_same] at q
    cases q
    exact exd_ok hn (relO_put (fs := []) ry fun g => True.intro)
  rw [upd_ne hd] at q
  refine (I.hok b o q).stay (fun c v hc z => k c v ?_ z) (fun c hc => ?_) fun c xs hc => ?_
  · rcases hc with rfl | hc
    · exact hb
    · exact at_ne e hc exo_own
  · rw [upd_ne (at_ne e hc exo_own), upd_ne (ne_of_none hc hnd)]; exact hc
  · rw [upd_ne (at_ne e hc exo_tup), upd_ne (ne_of_none hc hnd)]; exact hc
theorem set_more {Q : Unit → Shared → Prop} (F : Base B newId initId bm) (T : ExK X.K C newId bm) (I : Inv X pins σ H s)
    (e : H a = some (exo a C (some dx))) (ed : H dx = some (exd dx fs)) (hl : fs.length ≤ 900)
    (hno : PySem.W.findIn X.K (.ref C) f = some none) (ry : RelV y u)
    (h : ∀ s', Inv X pins σ (upd H dx (exd dx ((f, y) :: fs))) s' → Q () s') :
    wpAny (model X.prog X.w) A (setAttr (.ref a) f u) Q E s := by
  obtain ⟨cd, hcl, hm, hh⟩ := T.cd
  obtain ⟨t1, ho⟩ := exo_at I.hok e
  obtain ⟨mA, hns, rel⟩ := exd_at I.hok ed
  have hw := within_of rel
  obtain ⟨hp, g, d, t, os⟩ := s
  obtain ⟨oD, _, _, hoD, _, _⟩ := hns.count hw
  refine PySem.W.set_plain I.kIn (od := some oD) (C := C)
    (ox := { cls := .ref C, dict := some dx, data := .fields #[.ref t1, .none, .none, .none, .bool false, .none] })
    ⟨ho, rfl, rfl, hoD⟩ T.sa ?_
  refine osa_more I.kIn ho hns hw (by rw [List.length_map]; omega) hcl (by rw [hm, has_ty]; exact F.obj) (by rw [hm]; rfl)
    (T.pass F hm _) hh hno (fun h' tk' k hn => ?_)
  have hd : ∃ o, h'.get? dx = some o := by
    obtain ⟨o, _, _, e', _⟩ := hn
    exact ⟨o, e'⟩
  exact h _ (I.write (t' := tk') (x := dx) (e := dx) (o := exd dx ((f, y) :: fs)) (by rw [ed]; exact True.intro)
    (.inl rfl) k hd (exd_ok hn (relO_put ry rel)))
theorem binit_ok {us : List Value} {Q : Value → Shared → Prop} (F : Base B newId initId bm) (T : ExK X.K C newId bm)
    (I : Inv X pins σ H s) (e : H a = some (exo a C none)) (hl : us.length ≤ sizeLine)
    (h : ∀ s', Inv X pins σ H s' → Q .none s') :
    wpAny (model X.prog X.w) A (call (.builtin initId) (.ref a :: us)) Q E s := by
  obtain ⟨nm, q, N, bs, sn, sub, ab, col, dd, k0, k1, k2, k3, k5, hC⟩ := T.cls
  obtain ⟨t1, ho⟩ := exo_at I.hok e
  obtain ⟨hp, g, d, t, os⟩ := s
  refine wpAny_call (PySem.HandSPX.init_base F.facts (fun _ => rfl) (I.kIn _ _ hC) ho hl fun h' t2 k hx => ?_)
  have J := I.write (t' := t) (x := a) (e := a) (o := exo a C none) (by rw [e]; exact True.intro) (.inl rfl) k ⟨_, hx⟩ (exo_ok hx)
  have eu : upd H a (exo a C none) = H := by
    funext b
    by_cases hb : b = a
    · rw [hb, upd_same, e]
    · rw [upd_ne hb]
  rw [eu] at J
  exact h _ J
end
def IsEx (K : PySem.W.Frag) (C : Addr) : Prop := ∃ B newId initId bm, Base B newId initId bm ∧ ExK K C newId bm
def tBin (K : PySem.W.Frag) (newId : String) (bm : List Value) (ta : TA) : TE := fun σ H Q => ta σ H fun vs H1 =>
  ∃ (a C : Addr) (ws : List V), vs = .ref a :: ws ∧ ws.length ≤ 1000 ∧ ExK K C newId bm ∧ H1 a = some (exo a C none) ∧ Q .non H1
def tSetE (K : PySem.W.Frag) (f : Str) (to te : TE) : TS := fun D σ H => te σ H fun y H1 => to σ H1 fun x H2 =>
  ∃ a C : Addr, x = .ref a ∧ IsEx K C ∧ PySem.W.findIn K (.ref C) f = some none ∧
    ((H2 a = some (exo a C none) ∧ ∀ dx, H2 dx = none → dx ≠ a →
        D.nx σ (upd (upd H2 dx (exd dx [(f, y)])) a (exo a C (some dx)))) ∨
      ∃ (dx : Addr) (fs : List (Str × V)), H2 a = some (exo a C (some dx)) ∧ H2 dx = some (exd dx fs) ∧ fs.length ≤ 900 ∧
        D.nx σ (upd H2 dx (exd dx ((f, y) :: fs))))
section
variable {X : Cx} {o e : Expr} {es : List Expr} {to te : TE} {ta : TA} {f : Str} {p p' p1 p2 pos : Pos}
variable {B newId initId : String} {bm : List Value}
theorem pe_bin {b : Str} {pl : Sem Bool} (F : Base B newId initId bm) (hg : Gl X b) (hm : X.mg b = none)
    (hv : bootBuiltins b = some (.type B)) (hty : typeOf (.type B) = pure (.type "type")) (hst : Manifest.isStub B = false)
    (vV : PySem.W.findCls X.K (.type B) (.type "type") "__init__" = some (.val (.builtin initId)))
    (hh : PySem.W.handedIn (.builtin initId) = true)
    (ha : PA X (e :: es) ta) (hn : b ≠ "__name__" := by decide) (hdb : (b == ("__debug__" : Str)) = false := by decide)
    (hc : eval (.Call (.Attribute (.Name b p1) "__init__" p2) (e :: es) [] pos) X.env = (do
      let ov ← eval (.Name b p1) X.env
      standAt p2.atName
      let (f, first) ← holding [ov] (getMethod ov "__init__" pl)
      callWith pos f first (backTo pos (starEach (e :: es) X.env)) (backToKw pos (keywordEach [] X.env))) := by rfl)
    (he : starEach (e :: es) X.env = (false, eval e X.env) :: starEach es X.env := by rfl)
    (hpl : (backTo pos (starEach es X.env)).any (·.1) = false := by rfl) :
    PE X (.Call (.Attribute (.Name b p1) "__init__" p2) (e :: es) [] pos) (tBin X.K newId bm ta) := by
  refine ⟨fun pins s σ H Q I h => ?_⟩
  refine PySem.W.methodCall_KW (ld_blt I hg hm hv ?_ hn hdb) hc
  obtain ⟨m, fr⟩ := I.fr
  refine PySem.W.method_type fr I.ok.mod.kin hty hst vV hh ?_
  show wpAny _ _ (callWith pos (Value.builtin initId) [] (backTo pos (starEach (e :: es) X.env)) []) _ _ _
  refine PyProof.Rows.callWith_method1 (thn (ha.run pos pins _ σ H _ (I.tok _) h)
    fun us s1 ⟨vs, H1, I1, r1, a, C, ws, ev, hl, T, ea, q⟩ => ?_) he hpl
  subst ev
  cases r1 with
  | @cons _ u0 _ ur ra rw' =>
    obtain rfl : u0 = Value.ref a := ra
    have hlen : ur.length ≤ sizeLine := by
      rw [← Paired.length rw', sizeLine_eq]
      omega
    exact binit_ok F T I1 ea hlen fun s' J => ⟨.non, H1, J, rfl, q⟩
theorem ps_setE (ho : PE X o to) (he : PE X e te)
    (hs : swapsWith e (some (.Attribute o f p')) pos.line X.env = pure false := by rfl) :
    PS X (.Assign [.Attribute o f p'] e pos) (tSetE X.K f to te) := by
  refine ⟨fun pins s σ H D I h => ?_⟩
  refine plainObj_wpAny_Assign_Attribute (thn (he.run pins s σ H _ I h) fun v s1 ⟨y, H1, I1, r1, q1⟩ =>
    thn (ho.run pins s1 σ H1 _ I1 q1) fun u s2 ⟨x, H2, I2, r2, a, C, ex, ⟨B, newId, initId, bm, F, T⟩, hno, q⟩ => ?_) hs
  subst ex
  obtain rfl : u = Value.ref a := r2
  rcases q with ⟨ea, q⟩ | ⟨dx, fs, ea, ed, hl, q⟩
  · exact set_first F T I2 ea hno r1 fun dx s' n ne J => ⟨σ, _, J, q dx n ne⟩
  · exact set_more F T I2 ea ed hl hno r1 fun s' J => ⟨σ, _, J, q⟩
structure ClsG (K : PySem.W.Frag) : Prop where
  get : PySem.W.specialIn K (.builtin "object.__class__") "__get__" = some (some (.builtin "getset_descriptor.__get__"))
  tk : PySem.W.takesIn K (.builtin "object.__class__") = some true
end
end JB
set_option Elab.async false
set_option linter.all false
set_option maxRecDepth 100000
set_option maxHeartbeats 4000000
namespace JB
open PySem PySem.Spec PyProof.Rows L2
section
variable {X : Cx} {pins : List (Addr × Obj)} {σ : L2.St} {H : Hp} {s : Shared} {C fI : Addr} {fd : FuncData} {ps ks : List Str}
variable {sp : Sp} {k : Nat} {B newId initId : String} {bm : List Value} {x : Str} {p pos : Pos} {e : Expr} {es : List Expr}
variable {ta : TA} {Q : VK}
end
end JB
set_option Elab.async false
set_option linter.all false
set_option maxRecDepth 100000
set_option maxHeartbeats 4000000
namespace MI
open PySem PySem.Spec PyProof.Rows L2 JB
section
variable {X : Cx} {pins : List (Addr × Obj)} {σ : L2.St} {H : Hp} {s : Shared}
def ownH (X : Cx) : Hp := fun b => match X.s_0.heap.get? b with
  | none => none
  | some _ => X.H_0 b
theorem ownH_at {b : Addr} {o : Obj} (h : X.s_0.heap.get? b = some o) : ownH X b = X.H_0 b := by
  unfold ownH
  rw [h]
theorem ownH_sub {b : Addr} {u : HO} (h : ownH X b = some u) : X.H_0 b = some u ∧ ∃ o, X.s_0.heap.get? b = some o := by
  unfold ownH at h
  cases e : X.s_0.heap.get? b with
  | none => rw [e] at h; cases h
  | some o => rw [e] at h; exact ⟨h, o, rfl⟩
theorem ownH_none {b : Addr} (h : X.H_0 b = none) : ownH X b = none := by
  unfold ownH
  split
  · rfl
  · exact h
abbrev ownX (X : Cx) : Cx := { X with H_0 := ownH X }
theorem own_ok (ok : X.Ok) : (ownX X).Ok :=
  ⟨ok.mod, ok.kind, ok.glob, ok.blt, ok.above, ok.inj, ok.has, ok.cab, ok.hd, ok.frames, ok.stk, ok.exf, fun b o e => ⟨(ok.bs b o e).1, ownH_none (ok.bs b o e).2⟩, ok.bsz, ok.noex, ok.exfs, ok.funs, fun b h => ownH_none (ok.frf b h)⟩
theorem own_inv (I : Inv X pins σ H s) : Inv (ownX X) pins σ H s :=
  ⟨own_ok I.ok, I.os, I.bare, ⟨fun b o e n hf hx => I.base.keep b o e ((ownH_at (X := X) e).symm.trans n) hf hx, fun b o e n hf hx => I.base.slot b o e ((ownH_at (X := X) e).symm.trans n) hf hx,
    fun b o e n hx => I.base.free b o e ((ownH_at (X := X) e).symm.trans n) hx, I.base.there, fun b xs e => I.base.tups b xs (ownH_sub e).1, fun b o u e => I.base.frzs b o u (ownH_sub e).1, fun b ps e => I.base.tbls b ps (ownH_sub e).1⟩,
    I.loc, I.cell, I.free, I.freeC, I.pin, I.hok, I.len⟩
theorem untrackN {a : Addr} {φ : Heap → Prop} (I : Inv X pins σ H s) (ha : H a = some (.ext φ)) (n0 : X.s_0.heap.get? a = none) (hx : X.ex = []) :
    ∃ G : Heap, (∀ b o, G.get? b = some o → s.heap.get? b = some o) ∧ G.get? a = none ∧ Inv X pins σ (delH H a) { s with heap := G } := by
  have f0 : Fr0 (ownX X).H_0 a := fun o e => by
    obtain ⟨_, o', e'⟩ := ownH_sub (show ownH X a = some o from e)
    rw [n0] at e'; cases e'
  obtain ⟨G, g1, g2, J⟩ := (own_inv I).untrack ha f0 hx
  have nt : ∀ {b u}, H b = some u → (∀ φ, u ≠ .ext φ) → delH H a b = some u := fun {b u} e d => by
    rw [delH_ne (fun z => by rw [z, ha] at e; cases e; exact d _ rfl)]; exact e
  refine ⟨G, g1, g2, ⟨I.ok, J.os, J.bare, ⟨fun b o e n hf hx => J.base.keep b o e (ownH_none n) hf hx, fun b o e n hf hx => J.base.slot b o e (ownH_none n) hf hx,
    fun b o e n hx => J.base.free b o e (ownH_none n) hx, J.base.there, fun b xs e => nt (I.base.tups b xs e) (fun _ z => by cases z), fun b o u e => nt (I.base.frzs b o u e) (fun _ z => by cases z), fun b ps e => ?_⟩,
    J.loc, J.cell, J.free, J.freeC, J.pin, J.hok, J.len⟩⟩
  obtain ⟨m, z⟩ := I.base.tbls b ps e
  exact ⟨m, nt z (fun _ z => by cases z)⟩
theorem not_there (I : Inv X pins σ H s) {a : Addr} (hx : X.ex = []) (h : s.heap.get? a = none) : X.s_0.heap.get? a = none := by
  cases e : X.s_0.heap.get? a with
  | none => rfl
  | some o =>
    obtain ⟨o', e'⟩ := I.base.there a o e (by rw [hx]; simp)
    rw [h] at e'; cases e'
end
def FinE (C a : Addr) (H : Hp) (Q : XK) : Prop := (H a = some (exo a C none) ∧ Q (.ref C) none (delH H a)) ∨
  ∃ d fs, H a = some (exo a C (some d)) ∧ H d = some (exd d fs) ∧ Q (.ref C) (some d) (delH (upd H d (.xd fs)) a)
def tMkX (C : Addr) (sp : Sp) (ta : TA) : L2.St → Hp → XK → Prop := fun σ H Q => ta σ H fun vs H1 => vs.length ≤ 1000 ∧ ∀ a, H1 a = none →
  sp (.ref a :: vs) (upd H1 a (exo a C none)) (fun v H2 => v = .non ∧ FinE C a H2 Q) (fun _ _ _ => False)
section
variable {X : Cx} {pins : List (Addr × Obj)} {σ : L2.St} {H : Hp} {s : Shared} {C fI : Addr} {fd : FuncData} {ps : List Str}
variable {sp : Sp} {k : Nat} {B newId initId : String} {bm : List Value} {x : Str} {p pos : Pos} {e : Expr} {es : List Expr}
variable {ta : TA} {Q : XK}
theorem exd_ne_exo {d a C : Addr} {o : Option Addr} {fs : List (Str × V)} {h : Heap} {P : Program} {w : World} {H : Hp} (hok : HOk P w H h) (ha : H a = some (exo a C o)) (hd : H d = some (exd d fs)) : d ≠ a := fun z => by
  obtain ⟨t0, hoe⟩ := exo_at hok ha
  obtain ⟨mA, hns, _⟩ := exd_at hok hd
  obtain ⟨o, es, ep, e1, e2, _⟩ := hns
  rw [z, hoe] at e1
  have z2 := Option.some.inj e1
  subst z2
  cases e2
theorem fin_E (F : Base B newId initId bm) (T : ExK X.K C newId bm) (hx : X.ex = []) {a : Addr} (I : Inv X pins σ H s) (n0 : X.s_0.heap.get? a = none) (h : FinE C a H Q) : MkP X pins σ Q (.ref a) s := by
  have R : Raises X (.ref C) := raises_own (T.bas F) T.ty
  rcases h with ⟨ha, q⟩ | ⟨d, fs, ha, hd, q⟩
  · obtain ⟨t0, ho⟩ := exo_at I.hok ha
    obtain ⟨G, g1, g2, J⟩ := untrackN I ha n0 hx
    exact ⟨a, _, _, _, _, .ref C, none, rfl, J, g1, g2, ho, ⟨rfl, rfl⟩, rfl, rfl, delH_same, rfl, I.bare, R, q⟩
  · have hne := exd_ne_exo I.hok ha hd
    obtain ⟨t0, ho⟩ := exo_at I.hok ha
    obtain ⟨mA, hns, rel⟩ := exd_at I.hok hd
    have hdo : ∃ o, s.heap.get? d = some o := by
      obtain ⟨o, _, _, e', _⟩ := hns
      exact ⟨o, e'⟩
    have J1 : Inv X pins σ (upd H d (.xd fs)) s := I.write (t' := s.toks) (h' := s.heap) (x := d) (e := d) (o := .xd fs) (by rw [hd]; exact True.intro) (.inl rfl) (fun b u _ e => e) hdo ⟨mA, hns, rel⟩
    obtain ⟨G, g1, g2, J⟩ := untrackN J1 (by rw [upd_ne (Ne.symm hne)]; exact ha) n0 hx
    exact ⟨a, _, _, _, _, .ref C, some d, rfl, J, g1, g2, ho, ⟨rfl, rfl⟩, rfl, rfl, delH_same, rfl, I.bare, R, q⟩
theorem run_mkX (F : Base B newId initId bm) (T : ExK X.K C newId bm) (hx : X.ex = [])
    (iC : PySem.W.findIn X.K (.ref C) "__init__" = some (some (.ref fI))) (tI : PySem.W.typeIn X.K (.ref fI) = some (.type "function"))
    (hs : JB.Still X.A) (F1 : FnG X.prog X.w X.K X.mg X.base CX0 k fI fd ps sp) (hr : Room (k + 1) X.A) {us ws : List Value}
    {vs : List V} (I : Inv X pins σ H s)
    (hb : ∀ (s' : Shared) (self : Value), X.K.In s'.heap → BindsTo s' fd ⟨self :: us, []⟩ (ps.zip (self :: ws)))
    (rv : Vals vs ws) (hus : us.length ≤ sizeLine)
    (h : ∀ a, H a = none → sp (.ref a :: vs) (upd H a (exo a C none)) (fun v H2 => v = .non ∧ FinE C a H2 Q) (fun _ _ _ => False)) :
    wpAny (model X.prog X.w) X.A (call (.ref C) us []) (MkP X pins σ Q) X.xe s := by
  obtain ⟨nm, q, N, bs, sn, sub, ab, col, dd, k0, k1, k2, k3, k5, hC⟩ := T.cls
  obtain ⟨hp, g, dr, tk, os⟩ := s
  have hsz : hp.objs.size ≤ hp.objs.size + 1 := Nat.le_succ _
  have hn : H (hp.objs.size + 1) = none := I.hok.fresh hsz
  have hq := h (hp.objs.size + 1) hn
  have n0 : X.s_0.heap.get? (hp.objs.size + 1) = none := not_there I hx (Heap.get?_none_of_le hsz)
  have kk : ∀ b o, hp.get? b = some o →
      ((hp.push (PySem.W.kdv_tup us)).push (PySem.HandSPX.excO C hp.objs.size)).get? b = some o :=
    fun b o e => Heap.get?_push_of_some _ (Heap.get?_push_of_some _ e)
  have hget : ((hp.push (PySem.W.kdv_tup us)).push (PySem.HandSPX.excO C hp.objs.size)).get? (hp.objs.size + 1)
      = some (PySem.HandSPX.excO C hp.objs.size) := by heap_get
  have I2 : Inv X pins σ (upd H (hp.objs.size + 1) (exo (hp.objs.size + 1) C none))
      ⟨(hp.push (PySem.W.kdv_tup us)).push (PySem.HandSPX.excO C hp.objs.size), g, dr, tk, os⟩ :=
    I.laid (t' := tk) (a := hp.objs.size + 1) (o := exo (hp.objs.size + 1) C none)
      (h' := (hp.push (PySem.W.kdv_tup us)).push (PySem.HandSPX.excO C hp.objs.size)) kk hsz (exo_ok hget)
  have r2 : Vals (V.ref (hp.objs.size + 1) :: vs) (Value.ref (hp.objs.size + 1) :: ws) := .cons rfl rv
  refine wpAny_call (PySem.JX.callK F.facts (I.kIn _ _ hC) (PySem.W.looks_findIn I.kIn iC)
    (fun self => PySem.W.bind_fn I.kIn self tI) hus
    (codeAny_mono (F1.goes _ X.stack _ _ ⟨Value.ref (hp.objs.size + 1) :: us, []⟩ (Value.ref (hp.objs.size + 1) :: ws) _ _
      (fun _ _ _ => False) (still_make hs) (hr.make C us []) (I2.env0.make C us []) (hb _ _ I2.kIn) r2 hq) fun r s' hq' => ?_))
  cases r with
  | error er => exact False.elim hq'
  | ok fl =>
    cases fl with
    | ret u =>
      obtain ⟨v, H', I3, rv', ev, q3⟩ := I2.after hq'
      subst ev
      exact ⟨rv', fin_E F T hx I3 n0 q3⟩
    | next => exact False.elim hq'
    | brk => exact False.elim hq'
    | cont => exact False.elim hq'
theorem pmk_mk (F : Base B newId initId bm) (T : ExK X.K C newId bm) (hx : X.ex = [])
    (iC : PySem.W.findIn X.K (.ref C) "__init__" = some (some (.ref fI))) (tI : PySem.W.typeIn X.K (.ref fI) = some (.type "function"))
    (hs : JB.Still X.A) (F1 : FnG X.prog X.w X.K X.mg X.base CX0 k fI fd ps sp) (hr : Room (k + 1) X.A)
    (hb : Binds X.K fd ps []) (hg : Gl X x) (hm : X.mg x = some (.ref C)) (ha : PA X (e :: es) ta)
    (hdb : (x == ("__debug__" : Str)) = false := by decide)
    (he : starEach (e :: es) X.env = (false, eval e X.env) :: starEach es X.env := by rfl)
    (hpl : (backTo pos (starEach es X.env)).any (·.1) = false := by rfl) :
    PMk X (.Call (.Name x p) (e :: es) [] pos) (tMkX C sp ta) := by
  intro pins s σ H Q I h
  refine wpAny_Call_Name_kw (ld_glob I hg hm ?_ hdb)
  refine PySem.W.callWith_K (h₀ := X.base) I.ok.mod.kin T.kp (thn (ha.run pos pins s σ H _ I h)
    fun us s1 ⟨vs, H1, I1, r, q⟩ => ⟨I1.kIn, ?_⟩) he hpl
  have hus : us.length ≤ sizeLine := by
    rw [← r.length, sizeLine_eq]
    have := q.1
    omega
  have hl : us.length + 1 = ps.length := by
    have z := F1.many _ _ _ _ (q.2 s1.heap.objs.size (I1.hok.fresh (Nat.le_refl _)))
    rw [List.length_cons, r.length] at z
    exact z
  refine run_mkX F T hx iC tI hs F1 hr (us := us) (ws := us) I1 (fun s' self X' => ?_) r hus q.2
  have z := hb s' (self :: us) X' (by rw [List.append_nil, List.length_cons]; exact hl)
  rw [List.append_nil] at z
  exact z
theorem pmk_mk0 (F : Base B newId initId bm) (T : ExK X.K C newId bm) (hx : X.ex = [])
    (iC : PySem.W.findIn X.K (.ref C) "__init__" = some (some (.ref fI))) (tI : PySem.W.typeIn X.K (.ref fI) = some (.type "function"))
    (hs : JB.Still X.A) (F1 : FnG X.prog X.w X.K X.mg X.base CX0 k fI fd ps sp) (hr : Room (k + 1) X.A)
    (hb : Binds X.K fd ps []) (hg : Gl X x) (hm : X.mg x = some (.ref C)) (hdb : (x == ("__debug__" : Str)) = false := by decide) :
    PMk X (.Call (.Name x p) [] [] pos) (tMkX C sp tNil) := by
  intro pins s σ H Q I q
  refine wpAny_Call_Name_kw (ld_glob I hg hm ?_ hdb)
  have hl : 0 + 1 = ps.length := F1.many _ _ _ _ (q.2 s.heap.objs.size (I.hok.fresh (Nat.le_refl _)))
  refine PySem.W.callWith_K0 I.kIn T.kp (run_mkX F T hx iC tI hs F1 hr (us := []) (ws := []) I (fun s' self X' => ?_) .nil
    (Nat.zero_le _) q.2)
  have z := hb s' [self] X' (by rw [List.append_nil]; exact hl)
  rw [List.append_nil] at z
  exact z
end
end MI
set_option Elab.async false
set_option linter.all false
set_option maxRecDepth 100000
set_option maxHeartbeats 4000000
namespace MI
open PySem PySem.Spec PyProof.Rows L2 JB
section
variable {X : Cx} {pins : List (Addr × Obj)} {σ : L2.St} {H : Hp} {s : Shared}
theorem flyZ_keeps {B : Heap} {l : List Env} {a : Addr} {Z : Obj → Prop} {h h' : Heap} (f : HandSPX.FlyingZ B l a Z h) (k : ∀ b o, h.get? b = some o → h'.get? b = some o) : HandSPX.FlyingZ B l a Z h' := by
  obtain ⟨f1, f2, f3, oe, vs, T, oT, ts, he, hz, hd, h1, hn, hne, hT, hdT, h3⟩ := f
  exact ⟨fun b o q => k b o (f1 b o q), f2, f3.of_keeps fun b o q _ => ⟨o, k b o q, rfl⟩, oe, vs, T, oT, ts, k _ _ he, hz, hd, h1, hn, hne, k _ _ hT, hdT, h3⟩
theorem trackN {a : Addr} {φ : Heap → Prop} {oe : Obj} {vs : Array Value} (I : Inv X pins σ H s) (he : s.heap.get? a = some oe) (hd : oe.data = .fields vs) (na : H a = none) (n0 : X.s_0.heap.get? a = none) (nL : a ≠ X.env.locals)
    (np : ∀ p ∈ X.pn ++ pins, p.1 ≠ a) (new : ObjOk X.prog X.w (upd H a (.ext φ)) s.heap a (.ext φ)) : Inv X pins σ (upd H a (.ext φ)) s := by
  have ne0 : ∀ {b o}, X.s_0.heap.get? b = some o → b ≠ a := fun {b o} e z => by rw [z, n0] at e; cases e
  have nc : ∀ x c, X.env.cells.lookup x = some c → c ≠ a := fun x c e z => by
    obtain ⟨v, o, h1, h2⟩ := I.cell x c e
    rw [z, he] at h1; cases h1
    rw [hd] at h2; cases h2
  refine ⟨I.ok, I.os, I.bare, ⟨I.base.keep, I.base.slot, fun b o e n hx => by rw [upd_ne (ne0 e)]; exact I.base.free b o e n hx, I.base.there, fun b xs e => ?_, fun b o u e => ?_, fun b ps e => ?_⟩, I.loc, I.cell, by rw [upd_ne (Ne.symm nL)]; exact I.free,
    fun x c e => by rw [upd_ne (nc x c e)]; exact I.freeC x c e, fun p hp => ?_, I.hok.laidN (fun _ _ e => e) na new, I.len⟩
  · have z := I.base.tups b xs e
    rw [upd_ne (ne_of_none z na)]; exact z
  · have z := I.base.frzs b o u e
    rw [upd_ne (ne_of_none z na)]; exact z
  · obtain ⟨m, z⟩ := I.base.tbls b ps e
    exact ⟨m, by rw [upd_ne (ne_of_none z na)]; exact z⟩
  · obtain ⟨h1, h2, h3⟩ := I.pin p hp
    exact ⟨h1, by rw [upd_ne (np p hp)]; exact h2, h3⟩
theorem suiteN (I : Inv X pins σ H s) (a : Addr) : Inv (X.suite a (X.pn ++ pins)) [] σ H s :=
  ⟨I.ok.suite _ _, I.os, I.bare, I.base, I.loc, I.cell, I.free, I.freeC, fun p hp => I.pin p (by rw [List.append_nil] at hp; exact hp), I.hok, I.len⟩
theorem unsuiteN {a : Addr} {pn' : List (Addr × Obj)} (I : Inv (X.suite a (X.pn ++ pins)) pn' σ H s) (ok : X.Ok) : Inv X pins σ H s :=
  ⟨ok, I.os, I.bare, I.base, I.loc, I.cell, I.free, I.freeC, fun p hp => I.pin p (List.mem_append_left _ hp), I.hok, I.len⟩
theorem exk_ok {P : Program} {w : World} {H : Hp} {h : Heap} {a C : Addr} {d : Option Addr} {oe : Obj} {vs : Array Value} (he : h.get? a = some oe) (hz : Zc (.ref C) d oe) (hd : oe.data = .fields vs) : ObjOk P w H h a (exk a C d) :=
  ⟨⟨oe, vs, he, hz.1, hz.2, hd⟩, ⟨_, he⟩, fun h1 h2 ⟨o, v, q, r⟩ k => ⟨o, v, k _ q, r⟩⟩
end
def TestX (X : Cx) (t : Expr) (tb : Value → Option Bool) : Prop :=
  ∀ (a : Addr) (oe : Obj) (pn pins : List (Addr × Obj)) (σ : L2.St) (H : Hp) (s : Shared) (cls : Value) (b : Bool) (Q : Bool → Shared → Prop) (E : Value → Shared → Prop),
    Inv (X.suite a ((a, oe) :: pn)) pins σ H s → PySem.W.Looks (model X.prog X.w) s.heap (typeOf (.ref a)) cls → tb cls = some b →
    (∀ h', (∀ q o, s.heap.get? q = some o → h'.get? q = some o) → Q b { s with heap := h' }) →
    wpAny (model X.prog X.w) (X.A.mark (some (.ref a))) (eval t X.env) (fun c s₁ => wpAny (model X.prog X.w) (X.A.mark (some (.ref a))) (excMatches (.ref a) c) Q E s₁) E s
section
variable {X : Cx} {x x1 x2 x3 x4 : Str} {c c1 c2 c3 c4 : Value} {np p1 p2 p3 p4 tpos : Pos} {kk : Nat}
end
def wX (tb : Value → Option Bool) (i : Nat) (ts : TS) (Wout : WX) (D : Ends) : WX := fun cls d σ H => ∃ b, tb cls = some b ∧
  (b = true → ∀ a, H a = none → ∃ C, cls = .ref C ∧ ts { nx := fun σ' H' => D.nx (σ'.set i none) H', rt := D.rt, bk := fun σ' H' => D.bk (σ'.set i none) H', ct := fun σ' H' => D.ct (σ'.set i none) H' } (σ.set i (some (.ref a))) (upd H a (exk a C d))) ∧
  (b = false → Wout cls d σ H)
section
variable {X : Cx} {n : Str} {t : Expr} {i : Nat} {body suite : List Stmt} {b₀ : Stmt} {pos pos' : Pos} {tb : WX → TS} {ts : TS} {Wout : WX} {tt : Value → Option Bool}
theorem ps_tryX (hs : X.stack = X.env :: X.outer) (hf : X.env.frame = some X.env.locals) (hex : X.ex = []) (hN : X.N.Nodup) (hi : X.N[i]? = some n) (hln : X.env.kindOf n = some .local) (ht : TestX X t tt) (tk : Takes X Wout)
    (hb : ∀ (W : WX) (pn : List (Addr × Obj)) (xe : Value → Shared → Prop), Takes (X.tr pn xe) W → PassesOwn (model X.prog X.w) X.A X.env xe → PSs (X.tr pn xe) body (tb W))
    (hsu : ∀ (a : Addr) (pn : List (Addr × Obj)), PSs (X.suite a pn) (b₀ :: suite) ts) :
    PS X (.Try body [.ExceptHandler (some t) (some n) (b₀ :: suite) pos'] [] [] pos) (fun D σ H => tb (wX tt i ts Wout D) D σ H) := by
  refine ⟨fun pins s σ H D I h => ?_⟩
  have ok := I.ok
  have hfr : X.A.frames = some (X.env :: X.outer) := by rw [ok.frames, hs]
  have hloc : Loc X.env.scope n := .inl hln
  refine wpAny_Try_except ?_
  refine wpAny_mono ((hb (wX tt i ts Wout D) (X.pn ++ pins) (fun e s₁ => wpAny (model X.prog X.w) X.A (noteFrame e X.env) (fun _ s₂ => wpAny (model X.prog X.w) X.A (setFlight e none) (fun _ s₃ =>
    wpAny (model X.prog X.w) X.A (handleBy e X.env [.ExceptHandler (some t) (some n) (b₀ :: suite) pos']) (SP X pins D) X.xe s₃) X.xe s₂) X.xe s₁) (fun u s' xx => ?_) PassesOwn.looking).run [] s σ H D (I.toTry _) h) (fun f s1 hsp => ?_) (fun e s1 he => he)
  · obtain ⟨a, B, sI, pins', σ', H', cls, d, rfl, J', nb, up, sky, na, os, ag, b, hb1, hyes, hno⟩ := xx
    have J : Inv X pins σ' H' sI := J'.ofTry ok
    have sky' : Sky B (X.env :: X.outer) a (Zc cls d) X.env.locals s'.heap := by rw [← hs]; exact sky
    refine Sky.land Zc.steady hfr hf sky' fun h3 fl3 up3 => ?_
    have J3 : Inv X pins σ' H' { s' with heap := h3 } := J.landed nb fl3.1 (up.trans up3) os ag
    obtain ⟨oe3, vs3, he3, hz3, hd3⟩ := fl3.there
    have nfr : a ∉ frs (X.env :: X.outer) := fun hm => by
      obtain ⟨_, o', e', hnf⟩ := fl3.2.2.1.mem hm
      rw [he3] at e'; cases e'
      exact hnf _ hd3
    have nL : a ≠ X.env.locals := fun z => nfr (List.mem_filterMap.mpr ⟨X.env, List.mem_cons_self, by rw [hf, z]⟩)
    have nF : a ∉ X.fs := fun hm => by
      obtain ⟨e, he, q⟩ := List.mem_filterMap.mp hm
      exact nfr (List.mem_filterMap.mpr ⟨e, List.mem_cons_of_mem _ he, q⟩)
    have nI : sI.heap.get? a = none := by
      cases e : sI.heap.get? a with
      | none => rfl
      | some o =>
        have z := nb a o e (by rw [hs]; exact nfr)
        rw [fl3.2.1] at z; cases z
    have n0 : X.s_0.heap.get? a = none := not_there J hex nI
    have np : ∀ p ∈ X.pn ++ pins, p.1 ≠ a := fun p hp z => by
      have := (J.pin p hp).1
      rw [z, nI] at this; cases this
    have S3 := J3.suite he3 hd3 na nL nF
    have LT : PySem.W.Looks (model X.prog X.w) h3 (typeOf (.ref a)) cls := fun A Q E s k q => wpAny_typeOf_ref (k _ _ he3) (by rw [hz3.1]; exact q)
    refine wpAny_handleBy_cons (codeAny_handlers_test (ht a oe3 (X.pn ++ pins) [] σ' H' _ cls b _ _ S3 LT hb1 fun h5 kp => ?_)) (by intro q; cases q)
    have fl5 := flyZ_keeps fl3 kp
    have up5 : s'.heap.UpToSlots h5 := up3.trans (Heap.UpToSlots.of_keeps kp)
    cases b with
    | true =>
      refine codeAny_handlers_suite_as ?_
      refine HandSPX.lands_againZ fl5 fun h4 fl4 up4 => ?_
      have J4 : Inv X pins σ' H' { s' with heap := h4 } := J.landed nb fl4.1 ((up.trans up5).trans up4) os ag
      obtain ⟨oe4, vs4, he4, hz4, hd4⟩ := fl4.there
      obtain ⟨C, rfl, hsuite⟩ := hyes rfl a na
      have T4 : Inv X pins σ' (upd H' a (exk a C d)) { s' with heap := h4 } := trackN J4 he4 hd4 na n0 nL np (exk_ok he4 hz4 hd4)
      refine store_ok (X := X.suite a (X.pn ++ pins)) (v := .ref a) (suiteN T4 a) hN hi hloc rfl (fun s5 S5 => ?_) (.inr hln)
      refine wpAny_mono ((hsu a (X.pn ++ pins)).run [] s5 _ _ _ S5 hsuite) (fun f s6 hsp => ?_) (fun _ _ z => False.elim z)
      have end_ : ∀ {σ6 : L2.St} {H6 : Hp} {Q : Shared → Prop}, Inv (X.suite a (X.pn ++ pins)) [] σ6 H6 s6 → (∀ s7, Inv X pins (σ6.set i none) H6 s7 → Q s7) →
          wpAny (model X.prog X.w) X.A (do bindName X.env n .none; unbindBehindTheSuite X.env n pos') (fun _ s7 => Q s7) X.xe s6 := fun {σ6 H6 Q} S6 hq => gone_ok (unsuiteN S6 ok) hN hi hln hq
      cases f with
      | next =>
        obtain ⟨σ6, H6, S6, q6⟩ := hsp
        exact end_ S6 fun s7 J7 => ⟨_, _, J7, q6⟩
      | brk =>
        obtain ⟨σ6, H6, S6, q6⟩ := hsp
        exact end_ S6 fun s7 J7 => ⟨_, _, J7, q6⟩
      | cont =>
        obtain ⟨σ6, H6, S6, q6⟩ := hsp
        exact end_ S6 fun s7 J7 => ⟨_, _, J7, q6⟩
      | ret u =>
        obtain ⟨v6, σ6, H6, S6, r6, q6⟩ := hsp
        exact end_ S6 fun s7 J7 => ⟨_, _, _, J7, r6, q6⟩
    | false =>
      show wpAny _ X.A (handleBy (.ref a) X.env []) _ _ _
      refine PySem.PX.no_clauseZ (L := X.env.locals) hf fl5 fun h6 hh6 up6 => tk _ _ ?_
      exact ⟨a, B, sI, pins, σ', H', cls, d, rfl, J, nb, (up.trans up5).trans up6, .inr (.inr (by rw [hs]; exact hh6)), na, os, ag, hno rfl⟩
  · cases f with
    | next =>
      obtain ⟨σ', H', J', q⟩ := hsp
      exact wpAny_execs_nil ⟨σ', H', J'.ofTry ok, q⟩
    | brk =>
      obtain ⟨σ', H', J', q⟩ := hsp
      exact ⟨σ', H', J'.ofTry ok, q⟩
    | cont =>
      obtain ⟨σ', H', J', q⟩ := hsp
      exact ⟨σ', H', J'.ofTry ok, q⟩
    | ret u =>
      obtain ⟨v, σ', H', J', r, q⟩ := hsp
      exact ⟨v, σ', H', J'.ofTry ok, r, q⟩
end
end MI
set_option Elab.async false
set_option linter.all false
set_option maxRecDepth 100000
set_option maxHeartbeats 4000000
namespace MI
open PySem PySem.Spec PyProof.Rows L2 JB
abbrev TakesE (X : Cx) (E : XK) : Prop := Takes X fun c d _ H => E c d H
def spE0 (C : Addr) : Sp := fun vs H Q _ => ∃ a, vs = [.ref a] ∧ H a = some (exo a C none) ∧ Q .non H
def spE1 (C : Addr) (f : Str) : Sp := fun vs H Q _ => ∃ (a : Addr) (v : V), vs = [.ref a, v] ∧ H a = some (exo a C none) ∧
  ((∃ y : Str, v = .str y ∧ y.length ≤ 400) ∨ ∃ i : Int, v = .int i ∧ i.natAbs.log2 < 1920 ∧ (Str.ofString (toString i)).length ≤ 400) ∧
  ∀ dx, H dx = none → dx ≠ a → Q .non (upd (upd H dx (exd dx [(f, v)])) a (exo a C (some dx)))
structure ErK (P : Program) (w : World) (K : PySem.W.Frag) (mg : Str → Option Value) (base : Heap) (x : Str) (C : Addr) (n : Nat) (sp : Sp) : Prop where
  ex : ∃ (B newId initId : String) (bm : List Value) (fI : Addr) (fd : FuncData) (ps : List Str), Base B newId initId bm ∧ ExK K C newId bm ∧ PySem.W.findIn K (.ref C) "__init__" = some (some (.ref fI)) ∧ PySem.W.typeIn K (.ref fI) = some (.type "function") ∧
    FnG P w K mg base CX0 1 fI fd ps sp ∧ Binds K fd ps [] ∧ ps.length = n + 1
  gl : mg x = some (.ref C)
def gRaise0 (c : Nat) : MS := fun _ h => .er (.own c [] []) h
def shortB : MV → Bool
  | .str s => decide (s.length ≤ 400)
  | .int i => decide (i.natAbs.log2 < 1920) && decide ((Str.ofString (toString i)).length ≤ 400)
  | _ => false
def gRaise1 (c f : Nat) (e : ME) : MS := fun m h => (e m h).bindS fun v h1 => if shortB v = true then .er (.own c [f] [v]) h1 else .bad
section
variable {X : Cx} {T : Nat → Addr} {E : XK} {x : Str} {p pos pos2 : Pos} {c : Nat} {e : Expr} {ge : ME}
theorem js_raise0 (tk : TakesE X E) (hc : X.calm = true) (hx : X.ex = []) (hs : JB.Still X.A) (hr : Room 2 X.A) (K : ErK X.prog X.w X.K X.mg X.base x (T c) 0 (spE0 (T c))) (hg : Gl X x)
    (hdb : (x == ("__debug__" : Str)) = false := by decide) : JS X T E (.Raise (some (.Call (.Name x p) [] [] pos2)) none pos) (gRaise0 c) := by
  obtain ⟨⟨B, newId, initId, bm, fI, fd, ps, F, Tk, iC, tI, F1, hb, hn⟩, gl⟩ := K
  refine PS.le (ps_raise hc tk (pmk_mk0 F Tk hx iC tI hs F1 hr hb hg gl hdb)) fun D σ H ⟨ρ, m, h, s, q⟩ => ?_
  refine ⟨by simp, fun a ha => ⟨a, rfl, upd_same, rfl, .inl ⟨upd_same, ?_⟩⟩⟩
  rw [delH_new ha]
  exact q ρ H .refl s.hr none [] (.inl ⟨rfl, rfl, rfl⟩) .nil
theorem short_V {ρ : List Addr} {H : Hp} {Z : Zt} {v : MV} {u : V} (r : RV Z ρ H v u) (h : shortB v = true) :
    (∃ y : Str, u = .str y ∧ y.length ≤ 400) ∨ ∃ i : Int, u = .int i ∧ i.natAbs.log2 < 1920 ∧ (Str.ofString (toString i)).length ≤ 400 := by
  cases r with
  | str s => exact .inl ⟨_, rfl, by show s.toArray.size ≤ 400; rw [List.size_toArray]; exact of_decide_eq_true h⟩
  | int i =>
    have h' := Bool.and_eq_true_iff.mp h
    exact .inr ⟨i, rfl, of_decide_eq_true h'.1, of_decide_eq_true h'.2⟩
  | _ => cases h
theorem del_two {H : Hp} {a d : Addr} {o1 o2 o3 : HO} (ha : H a = none) (hd : d ≠ a) : delH (upd (upd (upd H d o1) a o2) d o3) a = upd H d o3 := by
  funext b
  by_cases e : b = a
  · subst e; rw [delH_same, upd_ne (Ne.symm hd), ha]
  · rw [delH_ne e]
    by_cases e2 : b = d
    · subst e2; rw [upd_same, upd_same]
    · rw [upd_ne e2, upd_ne e, upd_ne e2, upd_ne e2]
theorem js_raise1 {f : Nat} {fs : Str} (hf : fs = nm f) (tk : TakesE X E) (hc : X.calm = true) (hx : X.ex = []) (hs : JB.Still X.A) (hr : Room 2 X.A) (K : ErK X.prog X.w X.K X.mg X.base x (T c) 1 (spE1 (T c) fs)) (hg : Gl X x) (he : JE X T E e ge)
    (hdb : (x == ("__debug__" : Str)) = false := by decide) (hst : starEach [e] X.env = (false, eval e X.env) :: starEach [] X.env := by rfl) :
    JS X T E (.Raise (some (.Call (.Name x p) [e] [] pos2)) none pos) (gRaise1 c f ge) := by
  obtain ⟨⟨B, newId, initId, bm, fI, fd, ps, F, Tk, iC, tI, F1, hb, hn⟩, gl⟩ := K
  refine PS.le (ps_raise hc tk (pmk_mk F Tk hx iC tI hs F1 hr hb hg gl (pa_cons he pa_nil hst) hdb hst)) fun D σ H ⟨ρ, m, h, s, q⟩ => ?_
  refine sE s q fun ρ1 h1 H1 v u s1 e1 r1 q1 => ?_
  by_cases z : shortB v = true
  · rw [if_pos z] at q1
    refine ⟨by simp, fun a ha => ⟨a, u, rfl, upd_same, short_V r1 z, fun dx n1 n2 => ⟨rfl, .inr ⟨dx, _, upd_same, by rw [upd_ne n2, upd_same], ?_⟩⟩⟩⟩
    have hdx : H1 dx = none := upd_none n1
    have e3 : (upd (upd (upd (upd H1 a (exo a (T c) none)) dx (exd dx [(fs, u)])) a (exo a (T c) (some dx))) dx (.xd [(fs, u)])) = upd (upd (upd H1 dx (exd dx [(fs, u)])) a (exo a (T c) (some dx))) dx (.xd [(fs, u)]) := by
      funext b
      by_cases e : b = dx
      · subst e; rw [upd_same, upd_same]
      · rw [upd_ne e, upd_ne e]
        by_cases e2 : b = a
        · subst e2; rw [upd_same, upd_same]
        · rw [upd_ne e2, upd_ne e2, upd_ne e, upd_ne e2, upd_ne e]
    rw [e3, del_two ha n2]
    exact q1 ρ1 _ (Ext.still1 hdx) (s1.hr.still1 hdx) (some dx) [u] (.inr ⟨dx, rfl, by rw [upd_same, hf]; rfl, rfl⟩) (.cons (r1.ext (Ext.still1 hdx)) .nil)
  · rw [if_neg z] at q1
    exact q1.elim
end
def aftS (i : Nat) : SO → SO
  | .nx m h => .nx (m.set i none) h
  | .bk m h => .bk (m.set i none) h
  | .ct m h => .ct (m.set i none) h
  | .rt v h => .rt v h
  | _ => .bad
theorem SR.drop {Z : Zt} {ρ : List Addr} {m : ML} {h : MH} {σ : L2.St} {H : Hp} (s : SR Z ρ m h σ H) (i : Nat) : SR Z ρ (m.set i none) h (σ.set i none) H := by
  refine ⟨s.hr, by simp [s.len], fun j y k => ?_⟩
  by_cases e : j = i
  · subst e
    rw [List.getElem?_set] at k
    rw [if_pos rfl] at k
    split at k <;> cases k
  · rw [List.getElem?_set_ne (Ne.symm e)] at k ⊢
    exact s.slot j y k
section
variable {X : Cx} {T : Nat → Addr} {E : XK} {n : Str} {t : Expr} {i : Nat} {body suite : List Stmt} {b₀ : Stmt} {pos pos' : Pos} {tt : Value → Option Bool} {tb : Nat → Option Bool} {gb gs : MS}
end
end MI
set_option Elab.async false
set_option linter.all false
set_option maxRecDepth 100000
set_option maxHeartbeats 4000000
namespace MI
open PySem PySem.Spec PyProof.Rows L2 JB
def ErrKAt (H : Hp) (a C : Addr) : Prop := ∃ d, H a = some (exk a C d) ∧ (d = none ∨ ∃ dx fs, d = some dx ∧ H dx = some (.xd fs))
theorem XdH.at {H : Hp} {d : Option Addr} {ks : List Nat} {vs : List V} (h : XdH H d ks vs) : d = none ∨ ∃ dx fs, d = some dx ∧ H dx = some (.xd fs) := by
  rcases h with ⟨h, _⟩ | ⟨dx, h1, h2, _⟩
  · exact .inl h
  · exact .inr ⟨dx, _, h1, h2⟩
section
variable {X : Cx} {pins : List (Addr × Obj)} {σ : L2.St} {H : Hp} {s : Shared} {a C : Addr}
theorem inst_K (I : Inv X pins σ H s) (h : ErrKAt H a C) : ∃ ox od, PySem.W.InstAt s.heap a ox C od := by
  obtain ⟨d, h1, h2⟩ := h
  obtain ⟨⟨oe, vs, he, hc, hd, hf⟩, _, _⟩ := I.hok a _ h1
  have nc : PySem.W.notCls oe = true := by unfold PySem.W.notCls; rw [hf] <;> rfl
  rcases h2 with rfl | ⟨dx, fs, rfl, hx⟩
  · exact ⟨oe, none, he, hc, nc, by rw [hd]; trivial⟩
  · have hx' : ObjOk X.prog X.w H s.heap dx (.xd fs) := I.hok dx _ hx
    obtain ⟨mA, hns, _⟩ := hx'
    obtain ⟨od, ho, _⟩ := lookIn_ns hns
    exact ⟨oe, some od, he, hc, nc, by rw [hd]; exact ho⟩
def rIsK (K : PySem.W.Frag) : List V → Hp → VK → Prop := fun xs H Q => ∃ (a C : Addr) (c : V) (u : Value) (b : Bool),
  xs = [.ref a, c] ∧ ClsV c u ∧ IsEx K C ∧ ErrKAt H a C ∧ PySem.W.kitOne K (.ref C) u = some b ∧ Q (.bl b) H
theorem call_isK (G : ClsG X.K) : CallR X (.builtin "isinstance") (rIsK X.K) := by
  intro pins s σ H xs us Q I r h
  obtain ⟨a, C, c, u, b, rfl, k, ⟨B, newId, initId, bm, F, T⟩, ea, e, q⟩ := h
  obtain ⟨u1, u2, rfl, r1, r2⟩ := vals2 r
  have e2 := k.eq r2
  subst e2
  obtain rfl : u1 = Value.ref a := r1
  obtain ⟨ox, od, J⟩ := inst_K I ea
  exact PySem.W.kia_one (PySem.W.kitx_exc (ox := ox) (od := od) T.some T.ga T.gg (T.bas F) T.ca G.get G.tk (T.obj F)) I.kIn J e
    (fun z => nomatch z) fun tk => ⟨.bl b, H, I.tok tk, rfl, q⟩
end
def mIsE (tb : Nat → Option Bool) (x : MV) (h : MH) : Out MV := match x with
  | .err c _ _ => (match tb c with
    | some b => .ok (.bl b) h
    | none => .bad)
  | _ => .bad
section
variable {X : Cx} {T : Nat → Addr} {E : XK} {a ec : Expr} {es : List Expr} {p1 p2 pos : Pos} {ga : ME} {tb : Nat → Option Bool} {cv : V} {u : Value} {cs : List V} {us : List Value} {kk : Nat}
theorem je_isE (G : ClsG X.K) (hg : Gl X "isinstance") (hm : X.mg "isinstance" = none) (ht : ∀ c b, tb c = some b → IsEx X.K (T c) ∧ PySem.W.kitOne X.K (.ref (T c)) u = some b) (ha : JE X T E a ga) (hc : PE X ec (tC cv)) (kc : ClsV cv u)
    (hs : starEach [a, ec] X.env = (false, eval a X.env) :: starEach [ec] X.env := by rfl) (hs2 : starEach [ec] X.env = (false, eval ec X.env) :: starEach [] X.env := by rfl) (hpl : (backTo pos (starEach [ec] X.env)).any (·.1) = false := by rfl) :
    JE X T E (.Call (.Name "isinstance" p1) [a, ec] [] pos) (gUn (mIsE tb) ga) :=
  PE.le (pe_callB (he := hs) (hpl := hpl) (call_isK G) hg hm (by decide +kernel) (pa_cons ha (pa_cons hc pa_nil hs2) hs)) fun σ H Q ⟨ρ, m, h, s, q⟩ => stepE s q fun ρ1 h1 H1 x v s1 e1 r1 q1 => by
    show rIsK X.K [v, cv] H1 Q
    cases r1 with
    | @err a' C d ks xs vs hk hx hv =>
      have q2 : Post ⟨X.K, T⟩ (rV ⟨X.K, T⟩) ρ1 H1 Q E (match tb C with
        | some b => .ok (.bl b) h1
        | none => .bad) := q1
      cases hb : tb C with
      | none => rw [hb] at q2; exact q2.elim
      | some b =>
        rw [hb] at q2
        obtain ⟨i1, i2⟩ := ht C b hb
        exact ⟨a', T C, cv, u, b, rfl, kc, i1, ⟨d, hk, hx.at⟩, i2, Post.ok (R := rV ⟨X.K, T⟩) q2 s1.hr (.bl b)⟩
    | _ => exact q1.elim
end
def bB : Nat → String × String × String × List Value
  | 0 => ("ValueError", "ValueError.__new__", "ValueError.__init__", [.type "ValueError", .type "Exception", .type "BaseException", .type "object"])
  | 1 => ("LookupError", "LookupError.__new__", "LookupError.__init__", [.type "LookupError", .type "Exception", .type "BaseException", .type "object"])
  | 2 => ("RuntimeError", "RuntimeError.__new__", "RuntimeError.__init__", [.type "RuntimeError", .type "Exception", .type "BaseException", .type "object"])
  | _ => ("OverflowError", "OverflowError.__new__", "OverflowError.__init__", [.type "OverflowError", .type "ArithmeticError", .type "Exception", .type "BaseException", .type "object"])
theorem bB_ok : ∀ k : Nat, Base (bB k).1 (bB k).2.1 (bB k).2.2.1 (bB k).2.2.2
  | 0 => base_V
  | 1 => base_L
  | 2 => base_R
  | _ + 3 => base_O
def exShape (K : PySem.W.Frag) (C : Addr) (newId : String) (bm : List Value) : Bool := match K.lookup C with
  | some ⟨.type t, _, .cls cd, sl⟩ => (match cd.mro, sl.toList with
    | .ref C' :: bm', [_, _, _, _, some (.builtin n), _] => decide (t = "type") && (decide (C' = C) && (decide (bm' = bm) && (decide (n = newId) && (cd.hasDict && !cd.hasDel))))
    | _, _ => false)
  | _ => false
def exkB (x : Str) (k : Nat) (K : PySem.W.Frag) : Bool :=
  exShape K (He.ga K x) (bB k).2.1 (bB k).2.2.2 && (decide (PySem.W.findIn K (.ref (He.ga K x)) "__setattr__" = some (some (.builtin "object.__setattr__"))) &&
  (decide (PySem.W.findIn K (.ref (He.ga K x)) "__getattribute__" = some (some (.builtin "BaseException.__getattribute__"))) && (decide (PySem.W.findIn K (.ref (He.ga K x)) "__getattr__" = some none) &&
  (decide (PySem.W.findIn K (.ref (He.ga K x)) "__class__" = some (some (.builtin "object.__class__"))) && (decide (PySem.W.typeIn K (.ref (He.ga K x)) = some (.type "type")) && PySem.W.keepIn K (.ref (He.ga K x)))))))
def cfIs (r : Option PySem.W.CFound) (n : String) : Bool := match r with
  | some (.val (.builtin m)) => decide (m = n)
  | _ => false
theorem cfIs_ok {r : Option PySem.W.CFound} {n : String} (h : cfIs r n = true) : r = some (.val (.builtin n)) := by
  unfold cfIs at h
  split at h
  · rw [of_decide_eq_true h]
  · cases h
def exiB (x : Str) (k : Nat) (K : PySem.W.Frag) : Bool :=
  decide (PySem.W.findIn K (.ref (He.ga K x)) "__init__" = some (some (.ref (He.ma K (He.ga K x) "__init__")))) && (decide (PySem.W.typeIn K (.ref (He.ma K (He.ga K x) "__init__")) = some (.type "function")) &&
  cfIs (PySem.W.findCls K (.type (bB k).1) (.type "type") "__init__") (bB k).2.2.1)
def clsV (K : PySem.W.Frag) : Str ⊕ String → Value
  | .inl x => .ref (He.ga K x)
  | .inr s => .type s
def exmB (x : Str) (ys : List Str) (b : Bool) (K : PySem.W.Frag) : Bool := decide (PySem.W.exmAny K (.ref (He.ga K x)) (ys.map fun y => .ref (He.ga K y)) = some b)
def kit1B (x : Str) (y : Str ⊕ String) (b : Bool) (K : PySem.W.Frag) : Bool := decide (PySem.W.kitOne K (.ref (He.ga K x)) (clsV K y) = some b)
def nofB (x f : Str) (K : PySem.W.Frag) : Bool := decide (PySem.W.findIn K (.ref (He.ga K x)) f = some none)
def clsGB (K : PySem.W.Frag) : Bool := decide (PySem.W.specialIn K (.builtin "object.__class__") "__get__" = some (some (.builtin "getset_descriptor.__get__"))) && decide (PySem.W.takesIn K (.builtin "object.__class__") = some true)
theorem clsG_ok {K : PySem.W.Frag} (h : clsGB K = true) : ClsG K := by
  have z := Bool.and_eq_true_iff.mp h
  exact ⟨of_decide_eq_true z.1, of_decide_eq_true z.2⟩
theorem exShape_ok {K : PySem.W.Frag} {C : Addr} {newId : String} {bm : List Value} (h : exShape K C newId bm = true) : ∃ nm q N bs sn sub ab col dd k0 k1 k2 k3 k5,
    K.lookup C = some (excClassObj nm q C N bs bm true sn sub ab col dd k0 k1 k2 k3 k5 newId) := by
  unfold exShape at h
  split at h
  · rename_i t dd cd sl ho
    split at h
    · rename_i C' bm' k0 k1 k2 k3 n k5 hm hs
      have h1 := Bool.and_eq_true_iff.mp h
      have h2 := Bool.and_eq_true_iff.mp h1.2
      have h3 := Bool.and_eq_true_iff.mp h2.2
      have h4 := Bool.and_eq_true_iff.mp h3.2
      have h5 := Bool.and_eq_true_iff.mp h4.2
      obtain rfl := of_decide_eq_true h1.1
      obtain rfl := of_decide_eq_true h2.1
      obtain rfl := of_decide_eq_true h3.1
      obtain rfl := of_decide_eq_true h4.1
      obtain ⟨nm, bs, mro, ns, qn, hd, sn, sub, ab, col, del⟩ := cd
      have h5a := h5.1
      have h5b := h5.2
      dsimp only at hm h5a h5b
      subst hm
      have hdel : del = false := by simpa using h5b
      subst h5a hdel
      obtain ⟨l⟩ := sl
      have hs' : l = [k0, k1, k2, k3, some (.builtin n), k5] := hs
      subst hs'
      exact ⟨nm, qn, ns, bs, sn, sub, ab, col, dd, k0, k1, k2, k3, k5, ho⟩
    · cases h
  · cases h
theorem exk_of {K : PySem.W.Frag} {x : Str} {k : Nat} (h : exkB x k K = true) : ExK K (He.ga K x) (bB k).2.1 (bB k).2.2.2 := by
  have h1 := Bool.and_eq_true_iff.mp h
  have h2 := Bool.and_eq_true_iff.mp h1.2
  have h3 := Bool.and_eq_true_iff.mp h2.2
  have h4 := Bool.and_eq_true_iff.mp h3.2
  have h5 := Bool.and_eq_true_iff.mp h4.2
  have h6 := Bool.and_eq_true_iff.mp h5.2
  exact ⟨exShape_ok h1.1, of_decide_eq_true h2.1, of_decide_eq_true h3.1, of_decide_eq_true h4.1, of_decide_eq_true h5.1, of_decide_eq_true h6.1, h6.2⟩
theorem isEx_of {K : PySem.W.Frag} {x : Str} {k : Nat} (h : exkB x k K = true) : IsEx K (He.ga K x) := ⟨_, _, _, _, bB_ok k, exk_of h⟩
theorem exi_of {K : PySem.W.Frag} {x : Str} {k : Nat} (h : exiB x k K = true) : PySem.W.findIn K (.ref (He.ga K x)) "__init__" = some (some (.ref (He.fAd K (x, some "__init__")))) ∧ PySem.W.typeIn K (.ref (He.fAd K (x, some "__init__"))) = some (.type "function") ∧
    PySem.W.findCls K (.type (bB k).1) (.type "type") "__init__" = some (.val (.builtin (bB k).2.2.1)) := by
  have h1 := Bool.and_eq_true_iff.mp h
  have h2 := Bool.and_eq_true_iff.mp h1.2
  exact ⟨of_decide_eq_true h1.1, of_decide_eq_true h2.1, cfIs_ok h2.2⟩
end MI
set_option Elab.async false
set_option linter.all false
set_option maxRecDepth 100000
set_option maxHeartbeats 4000000
namespace MI
open PySem PySem.Spec PyProof.Rows L2 JB
inductive Tab (P : Nat → Bool → Prop) : List (Nat × Bool) → Prop
  | nil : Tab P []
  | cons {c : Nat} {b : Bool} {l : List (Nat × Bool)} : P c b → Tab P l → Tab P ((c, b) :: l)
theorem Tab.at {P : Nat → Bool → Prop} {l : List (Nat × Bool)} (t : Tab P l) : ∀ c b, l.lookup c = some b → P c b := by
  induction t with
  | nil => intro c b h; cases h
  | @cons c' b' l p _ ih =>
    intro c b h
    rw [List.lookup_cons] at h
    by_cases e : c = c'
    · subst e
      simp only [beq_self_eq_true] at h
      cases h
      exact p
    · rw [beq_false_of_ne e] at h
      exact ih c b h
theorem exm_of {K : PySem.W.Frag} {x : Str} {ys : List Str} {b : Bool} (h : exmB x ys b K = true) : PySem.W.exmAny K (.ref (He.ga K x)) (ys.map fun y => .ref (He.ga K y)) = some b := of_decide_eq_true h
theorem kit1_of {K : PySem.W.Frag} {x : Str} {y : Str ⊕ String} {b : Bool} (h : kit1B x y b K = true) : PySem.W.kitOne K (.ref (He.ga K x)) (clsV K y) = some b := of_decide_eq_true h
theorem nof_of {K : PySem.W.Frag} {x f : Str} (h : nofB x f K = true) : PySem.W.findIn K (.ref (He.ga K x)) f = some none := of_decide_eq_true h
theorem tyErr (k : Nat) : typeOf (.type (bB k).1) = pure (.type "type") := by
  match k with
  | 0 => kernel_rfl
  | 1 => kernel_rfl
  | 2 => kernel_rfl
  | _ + 3 => kernel_rfl
theorem stErr (k : Nat) : Manifest.isStub (bB k).1 = false := by
  match k with
  | 0 => decide +kernel
  | 1 => decide +kernel
  | 2 => decide +kernel
  | _ + 3 => exact (show Manifest.isStub "OverflowError" = false by decide +kernel)
theorem hdErr (k : Nat) : PySem.W.handedIn (.builtin (bB k).2.2.1) = true := by
  match k with
  | 0 => decide +kernel
  | 1 => decide +kernel
  | 2 => decide +kernel
  | _ + 3 => exact (show PySem.W.handedIn (.builtin "OverflowError.__init__") = true by decide +kernel)
theorem lenPlus {a b : Str} {n m : Nat} (ha : a.length ≤ n) (hb : b.length ≤ m) : (a ++ b).length ≤ n + m := by
  rw [Str.length_append]; omega
theorem lenLine {a : Str} {n : Nat} (ha : a.length ≤ n) (hn : n ≤ 9000 := by decide) : a.length ≤ sizeLine := by
  rw [sizeLine_eq]; omega
theorem lenNone : Str.empty.length ≤ 0 := by decide +kernel
end MI
set_option Elab.async false
set_option linter.all false
set_option maxRecDepth 100000
set_option maxHeartbeats 4000000
namespace MI
open PySem PySem.Spec PyProof.Rows L2 JB
abbrev ShortV (v : V) : Prop := (∃ y : Str, v = .str y ∧ y.length ≤ 400) ∨ ∃ i : Int, v = .int i ∧ i.natAbs.log2 < 1920 ∧ (Str.ofString (toString i)).length ≤ 400
theorem show_shortV {v : V} {R : Str → Prop} (h : ShortV v) (k : ∀ y : Str, y.length ≤ 400 → R y) :
    (∃ y : Str, v = .str y ∧ y.length ≤ sizeLine ∧ R y) ∨ ∃ i : Int, v = .int i ∧ i.natAbs.log2 < 1920 ∧ R (toString i) := by
  rcases h with ⟨y, e, l⟩ | ⟨i, e, l, z⟩
  · exact .inl ⟨y, e, lenLine l, k y l⟩
  · exact .inr ⟨i, e, l, k _ z⟩
end MI
set_option Elab.async false
set_option linter.all false
set_option maxRecDepth 100000
set_option maxHeartbeats 4000000
namespace MI
open PySem PySem.Spec PyProof.Rows L2 JB
def lDPop (x : MV) (xs : List MV) (h : MH) : Out MV := match x, xs with
  | .ref i, [y] => match h.get i, mkey y with
    | some (.dic kvs), some k => (match dval keq kvs k with
      | some v => .ok v (h.set i (.dic (ddrop keq k kvs)))
      | none => .bad)
    | _, _ => .bad
  | _, _ => .bad
section
variable {X : Cx}
end
def tins (x : List Nat) : List (List Nat) → List (List Nat)
  | [] => [x]
  | y :: l => if ltCps y x = true then y :: tins x l else x :: y :: l
def tsort : List (List Nat) → List (List Nat)
  | [] => []
  | x :: l => tins x (tsort l)
abbrev tle (a b : List Nat) : Prop := ltCps b a = false
theorem tle_iff {a b : List Nat} : tle a b ↔ a ≤ b := by
  unfold tle
  rw [ltCps_eq, decide_eq_false_iff_not]
  exact List.not_lt
theorem tle_trans {a b c : List Nat} (h1 : tle a b) (h2 : tle b c) : tle a c := tle_iff.mpr (List.le_trans (tle_iff.mp h1) (tle_iff.mp h2))
theorem tle_of_lt {a b : List Nat} (h : ltCps a b = true) : tle a b := by
  rw [ltCps_eq] at h
  exact tle_iff.mpr (List.le_of_lt (of_decide_eq_true h))
theorem tle_anti {a b : List Nat} (h1 : tle a b) (h2 : tle b a) : a = b := List.le_antisymm (tle_iff.mp h1) (tle_iff.mp h2)
theorem tins_perm (x : List Nat) : ∀ l, (tins x l).Perm (x :: l)
  | [] => .refl _
  | y :: l => by
    unfold tins
    split
    · exact ((tins_perm x l).cons y).trans (.swap x y l)
    · exact .refl _
theorem tsort_perm : ∀ l, (tsort l).Perm l
  | [] => .refl _
  | x :: l => (tins_perm x _).trans ((tsort_perm l).cons x)
theorem tins_pw (x : List Nat) : ∀ l : List (List Nat), l.Pairwise tle → (tins x l).Pairwise tle
  | [], _ => by simp [tins]
  | y :: l, h => by
    obtain ⟨h1, h2⟩ := List.pairwise_cons.mp h
    unfold tins
    split
    · rename_i c
      refine List.pairwise_cons.mpr ⟨fun z hz => ?_, tins_pw x l h2⟩
      rcases List.mem_cons.mp ((tins_perm x l).mem_iff.mp hz) with rfl | hz
      · exact tle_of_lt c
      · exact h1 z hz
    · rename_i c
      have c' : tle x y := by simpa using c
      refine List.pairwise_cons.mpr ⟨fun z hz => ?_, h⟩
      rcases List.mem_cons.mp hz with rfl | hz
      · exact c'
      · exact tle_trans c' (h1 z hz)
theorem tsort_pw : ∀ l, (tsort l).Pairwise tle
  | [] => .nil
  | x :: l => tins_pw x _ (tsort_pw l)
theorem rising_pw : ∀ (l : List Str) (p : Str), risingS p l = true → (∀ y ∈ l, tle p.cps.toList y.cps.toList) ∧ (l.map fun y => y.cps.toList).Pairwise tle
  | [], _, _ => ⟨fun _ h => (by cases h), .nil⟩
  | x :: l, p, h => by
    have h' := Bool.and_eq_true_iff.mp (show (!ltCps x.cps.toList p.cps.toList && risingS x l) = true from h)
    have hx : tle p.cps.toList x.cps.toList := by simpa using h'.1
    obtain ⟨i1, i2⟩ := rising_pw l x h'.2
    refine ⟨fun y hy => ?_, List.pairwise_cons.mpr ⟨fun z hz => ?_, i2⟩⟩
    · rcases List.mem_cons.mp hy with rfl | hy
      · exact hx
      · exact tle_trans hx (i1 y hy)
    · obtain ⟨y, hy, rfl⟩ := List.mem_map.mp hz
      exact i1 y hy
theorem sortedS_pw {l : List Str} (h : sortedS l = true) : (l.map fun y => y.cps.toList).Pairwise tle := by
  cases l with
  | nil => exact .nil
  | cons x l =>
    obtain ⟨i1, i2⟩ := rising_pw l x h
    refine List.pairwise_cons.mpr ⟨fun z hz => ?_, i2⟩
    obtain ⟨y, hy, rfl⟩ := List.mem_map.mp hz
    exact i1 y hy
def toS (s : List Nat) : Str := ⟨s.toArray⟩
theorem tsort_uniq {ys : List Str} {ks : List (List Nat)} (p : ys.Perm (ks.map toS)) (s : sortedS ys = true) : ys = (tsort ks).map toS := by
  have e : (ys.map fun y => y.cps.toList) = tsort ks := by
    refine List.Perm.eq_of_pairwise (le := tle) (fun a b _ _ => tle_anti) (sortedS_pw s) (tsort_pw ks) (((p.map fun y => y.cps.toList).trans ?_).trans (tsort_perm ks).symm)
    rw [List.map_map]
    have : (ks.map ((fun y : Str => y.cps.toList) ∘ toS)) = ks := by
      conv => rhs; rw [← List.map_id ks]
      exact List.map_congr_left fun a _ => rfl
    rw [this]
  rw [← e, List.map_map]
  conv => lhs; rw [← List.map_id ys]
  exact List.map_congr_left fun a _ => rfl
def textsOf : List MV → Option (List (List Nat))
  | [] => some []
  | .str s :: r => (textsOf r).map fun l => s :: l
  | _ => none
theorem textsOf_ok {Z : Zt} {ρ : List Addr} {H : Hp} : ∀ {xs : List MV} {vs : List V} {l : List (List Nat)}, RVs Z ρ H xs vs → textsOf xs = some l → vs = (l.map toS).map V.str
  | _, _, l, .nil, e => by cases e; rfl
  | _, _, l, .cons (x := x) (xs := xs) a r, e => by
    cases a with
    | str s =>
      obtain ⟨l', e1, rfl⟩ := Option.map_eq_some_iff.mp (show (textsOf xs).map (fun l => s :: l) = some l from e)
      rw [textsOf_ok r e1]; rfl
    | _ => cases e
theorem RVs.texts {Z : Zt} {ρ : List Addr} {H : Hp} : ∀ l : List (List Nat), RVs Z ρ H (l.map MV.str) ((l.map toS).map V.str)
  | [] => .nil
  | x :: l => .cons (.str x) (RVs.texts l)
def mSortedT (x : MV) (h : MH) : Out MV := match x with
  | .ref i => match h.get i with
    | some (.lst xs) => match textsOf xs with
      | some l => if l.length < 64 then .ok (.ref h.n) (h.push (.lst ((tsort l).map MV.str))) else .bad
      | none => .bad
    | _ => .bad
  | _ => .bad
theorem mc_sortedT {Z : Zt} {E : XK} : CallM Z E (f1 mSortedT) (rSortedS Z.K) := .one fun ρ h H x v Q R r q => by
  cases r with
  | @ref i a hi =>
    have q' : Post Z (rV Z) ρ H Q E (match h.get i with
      | some (.lst xs) => match textsOf xs with
        | some l => if l.length < 64 then .ok (.ref h.n) (h.push (.lst ((tsort l).map MV.str))) else .bad
        | none => .bad
      | _ => .bad) := q
    cases g : h.get i with
    | none => rw [g] at q'; exact q'.elim
    | some ob =>
      rw [g] at q'
      cases ob with
      | lst xs =>
        dsimp only at q'
        obtain ⟨ws, h3, h4⟩ := R.obj g hi
        cases k : textsOf xs with
        | none => rw [k] at q'; exact q'.elim
        | some l =>
          rw [k] at q'
          dsimp only at q'
          by_cases z : l.length < 64
          · rw [if_pos z] at q'
            have e := textsOf_ok h4 k
            subst e
            refine ⟨a, l.map toS, rfl, .inl (.inl h3), by simpa using z, fun ys p p1 p2 hp => ?_⟩
            rw [tsort_uniq p1 p2]
            exact q' (ρ ++ [p]) _ _ (Ext.push hp) (R.push hp ⟨_, upd_same, RVs.texts _⟩) (.ref (by rw [← R.len]; simp))
          · rw [if_neg z] at q'; exact q'.elim
      | _ => exact q'.elim
  | _ => exact q.elim
end MI
set_option Elab.async false
set_option linter.all false
set_option maxRecDepth 100000
set_option maxHeartbeats 4000000
namespace MI
open PySem PySem.Spec PyProof.Rows L2 JB
theorem strs_each : ∀ {us : List Value} {ks : List Str}, us.length = ks.length → (∀ (j : Nat) (v : Value), us[j]? = some v → ∃ (x : Str) (t : Tok), ks[j]? = some x ∧ v = Value.str x t) → StrsAre us ks
  | [], [], _, _ => .nil
  | u :: us, k :: ks, hl, h => by
    obtain ⟨x, t, e1, e2⟩ := h 0 u rfl
    have e3 : k = x := Option.some.inj e1
    subst e3
    subst e2
    refine .cons _ _ (strs_each (by simpa using hl) fun j v e => ?_)
    obtain ⟨x, t, a, b⟩ := h (j + 1) v (by simpa using e)
    exact ⟨x, t, by simpa using a, b⟩
  | [], _ :: _, hl, _ => by simp at hl
  | _ :: _, [], hl, _ => by simp at hl
def rSortedDS : List V → Hp → VK → Prop := fun xs H Q => ∃ (a : Addr) (kvs : List (Key × V)) (ks : List Str), xs = [.ref a] ∧ Rd H a (.dK kvs) ∧ kvs.map (·.1) = ks.map Sum.inr ∧ ks.length < 64 ∧
    ∀ (ys : List Str) (p : Addr), ys.Perm ks → sortedS ys = true → H p = none → Q (.ref p) (upd H p (.lst (ys.map V.str)))
theorem call_sortedDS {X : Cx} (hcalm : X.calm = true) : CallR X (.builtin "sorted") rSortedDS := by
  intro pins s σ H xs us Q I r q
  obtain ⟨a, kvs, ks, rfl, hd, hks, h64, q⟩ := q
  obtain ⟨u, rfl, rx⟩ := vals1 r
  cases rx
  obtain ⟨z, lo, vs, rel, dd⟩ := dk_rd I.hok hd
  obtain ⟨ep, hat⟩ := dd.dictAt
  have hkeys : vs.map (·.1) = ks.map Sum.inr := rel.keys.symm.trans hks
  have hl : vs.length = ks.length := by
    have e := congrArg List.length hkeys
    rw [List.length_map, List.length_map] at e
    exact e
  have h16 : vs.length ≤ sizeLine := by rw [hl, sizeLine_eq]; omega
  refine Calls.call_function_entry PyProof.Rows.kind_sorted PyProof.Rows.plain_sorted PyProof.Rows.entry_sorted (PyProof.Rows.args_sorted1 _) ?_
  unfold Builtin.«sorted»
  refine wpAny_bind (m := checkCount "sorted" 1 1 _) (wpAny_pure ?_)
  refine wpAny_bind (PySem.W.kdu_collect (A := X.A.in1) (PySem.W.kdl_dict (knd := mixKind X.prog X.w) (kvs := vs) (ep := ep) lo) (I.ok.hd hcalm) hat h16 fun h' tk acc hk hacc => ?_)
  have hal : acc.toList.length = ks.length := by rw [Array.length_toList, hacc.1, hl]
  have hS : StrsAre acc.toList ks := strs_each hal fun j v e => by
    obtain ⟨k, x, e1, e2⟩ := hacc.2 j v (by rw [← Array.getElem?_toList]; exact e)
    have e3 : (vs.map (·.1))[j]? = some k := by rw [List.getElem?_map, e1]; rfl
    rw [hkeys, List.getElem?_map] at e3
    cases e4 : ks[j]? with
    | none => rw [e4] at e3; cases e3
    | some y =>
      rw [e4] at e3
      have e5 : Sum.inr y = k := Option.some.inj e3
      subst e5
      rcases keyIs_shape (show keyIs (Sum.inr y) v = true from e2) with ⟨i, t, ek, ev⟩ | ⟨z, t, ek, ev⟩
      · cases ek
      · cases ek
        exact ⟨y, t, rfl, ev⟩
  have I1 : Inv X pins σ H { s with heap := h', toks := tk } := I.kept hk
  refine wpAny_bind (wpAny_newList ?_ (by rw [hal, sizeLine_eq]; omega))
  have hoL : (h'.push (seqObj "list" acc.toList.toArray 0)).get? h'.objs.size = some (seqObj "list" acc.toList.toArray 0) := Heap.get?_push_size _ rfl
  show wpAny _ _ _ _ _ { s with heap := h'.push (seqObj "list" acc.toList.toArray 0), toks := tk }
  refine wpAny_bind (wpAny_holding (wpAny_call_entry PyProof.Rows.slot_list_sort ⟨_, hoL, rfl⟩ PyProof.Rows.entry_list_sort
    (PyProof.Rows.list_sort_treeK (s := { s with heap := h'.push (seqObj "list" acc.toList.toArray 0), toks := tk }) PyProof.Rows.strKind_oneLt hoL hS.keysOf (fun v₁ v₂ rest e => PyProof.Rows.keyKind_strs (by rw [← e]; exact hS)) (by rw [hal]; exact h64) fun st' hp hs => ⟨_, rfl, ?_⟩) (PyProof.Rows.args_list_sort _)))
  obtain ⟨ys, g1, g2, g3⟩ := PyProof.Rows.sorted_out_str hS hp hs
  obtain ⟨e', he'⟩ := PyProof.Rows.sortedHeap_at (vs := acc.toList) (out := (PyProof.Rows.arrOf st').map (·.2)) hoL
  have hlen : (ys.map V.str).length ≤ sizeLine := by
    rw [List.length_map, g2.length_eq]
    exact Nat.le_trans (Nat.le_of_lt h64) (by decide)
  refine wpAny_pure ⟨_, rfl, .ref h'.objs.size, upd H h'.objs.size (.lst (ys.map V.str)), I1.laid (t' := tk) (fun b u e => ?_) (Nat.le_refl _)
    (show ObjOk X.prog X.w _ _ _ (.lst (ys.map V.str)) from ⟨hlen, ((PyProof.Rows.arrOf st').map (·.2)).toList, e', vals_of_strs g1, by rw [Array.toArray_toList]; exact he'⟩), rfl, q ys _ g2 g3 (I1.hok.fresh (Nat.le_refl _))⟩
  have hb : b < h'.objs.size := Heap.lt_size e
  rw [PyProof.Rows.sortedHeap_old (Nat.ne_of_lt hb) (by rw [size_push']; exact Nat.lt_succ_of_lt hb)]
  exact Heap.get?_push_of_some _ e
end MI
set_option Elab.async false
set_option linter.all false
set_option maxRecDepth 100000
set_option maxHeartbeats 4000000
namespace MI
open PySem PySem.Spec PyProof.Rows L2 JB
def tkeysOf : List (MK × MV) → Option (List (List Nat))
  | [] => some []
  | (.inr s, _) :: r => (tkeysOf r).map fun l => s :: l
  | _ => none
theorem tkeysOf_ok {Z : Zt} {ρ : List Addr} {H : Hp} {xs : List (MK × MV)} {vs : List (Key × V)} (r : RKs kOf Z ρ H xs vs) : ∀ {l : List (List Nat)}, tkeysOf xs = some l → vs.map (·.1) = (l.map toS).map Sum.inr := by
  induction r with
  | nil => intro l e; cases e; rfl
  | @cons k x v xs vs a r ih =>
    intro l e
    cases k with
    | inl i => cases e
    | inr s =>
      obtain ⟨l', e1, rfl⟩ := Option.map_eq_some_iff.mp (show (tkeysOf xs).map (fun l => s :: l) = some l from e)
      rw [List.map_cons, ih e1]; rfl
def mSortedD (x : MV) (h : MH) : Out MV := match x with
  | .ref i => match h.get i with
    | some (.dic kvs) => match tkeysOf kvs with
      | some l => if l.length < 64 then .ok (.ref h.n) (h.push (.lst ((tsort l).map MV.str))) else .bad
      | none => .bad
    | _ => .bad
  | _ => .bad
theorem mc_sortedD {Z : Zt} {E : XK} : CallM Z E (f1 mSortedD) rSortedDS := .one fun ρ h H x v Q R r q => by
  cases r with
  | @ref i a hi =>
    have q' : Post Z (rV Z) ρ H Q E (match h.get i with
      | some (.dic kvs) => match tkeysOf kvs with
        | some l => if l.length < 64 then .ok (.ref h.n) (h.push (.lst ((tsort l).map MV.str))) else .bad
        | none => .bad
      | _ => .bad) := q
    cases g : h.get i with
    | none => rw [g] at q'; exact q'.elim
    | some ob =>
      rw [g] at q'
      cases ob with
      | dic kvs =>
        dsimp only at q'
        obtain ⟨ws, h3, h4⟩ := R.obj g hi
        cases k : tkeysOf kvs with
        | none => rw [k] at q'; exact q'.elim
        | some l =>
          rw [k] at q'
          dsimp only at q'
          by_cases z : l.length < 64
          · rw [if_pos z] at q'
            refine ⟨a, ws, l.map toS, rfl, .inl h3, tkeysOf_ok h4 k, by simpa using z, fun ys p p1 p2 hp => ?_⟩
            rw [tsort_uniq p1 p2]
            exact q' (ρ ++ [p]) _ _ (Ext.push hp) (R.push hp ⟨_, upd_same, RVs.texts _⟩) (.ref (by rw [← R.len]; simp))
          · rw [if_neg z] at q'; exact q'.elim
      | _ => exact q'.elim
  | _ => exact q.elim
def mSortedA (x : MV) (h : MH) : Out MV := match x with
  | .ref i => match h.get i with
    | some (.lst xs) => if (intsOf xs).isSome = true then mSorted x h else mSortedT x h
    | some (.dic kvs) => if (keysOf kvs).isSome = true then mSorted x h else mSortedD x h
    | _ => .bad
  | _ => .bad
theorem sortedA_or (x : MV) (h : MH) : mSortedA x h = mSorted x h ∨ mSortedA x h = mSortedT x h ∨ mSortedA x h = mSortedD x h ∨ mSortedA x h = .bad := by
  unfold mSortedA
  split
  · split
    · split
      · exact .inl rfl
      · exact .inr (.inl rfl)
    · split
      · exact .inl rfl
      · exact .inr (.inr (.inl rfl))
    · exact .inr (.inr (.inr rfl))
  · exact .inr (.inr (.inr rfl))
abbrev rSortA (K : PySem.W.Frag) : List V → Hp → VK → Prop := fun xs H Q => rSortM K xs H Q ∨ rSortedS K xs H Q ∨ rSortedDS xs H Q
theorem call_sortA {X : Cx} (hc : X.calm = true) : CallR X (.builtin "sorted") (rSortA X.K) := CallR.or (call_sortM hc) (CallR.or cr_sortedS (call_sortedDS hc))
theorem mc_sortedA {Z : Zt} {E : XK} : CallM Z E (f1 mSortedA) (rSortA Z.K) := .one fun ρ h H x v Q R r q => by
  have q1 : Post Z (rV Z) ρ H Q E (mSortedA x h) := q
  rcases sortedA_or x h with e | e | e | e
  · rw [e] at q1; exact .inl (mc_sorted ρ h H [x] [v] Q R (.cons r .nil) q1)
  · rw [e] at q1; exact .inr (.inl (mc_sortedT ρ h H [x] [v] Q R (.cons r .nil) q1))
  · rw [e] at q1; exact .inr (.inr (mc_sortedD ρ h H [x] [v] Q R (.cons r .nil) q1))
  · rw [e] at q1; exact q1.elim
end MI
set_option Elab.async false
set_option linter.all false
set_option maxRecDepth 100000
set_option maxHeartbeats 4000000
namespace MI
open PySem PySem.Spec PyProof.Rows L2 JB
section
variable {M : Model} {K : PySem.W.Frag}
theorem loop_all {A : Around} {E : Value → Shared → Prop} {s : Shared} {f : Value → PUnit → Sem (ForInStep PUnit)} {Q : Shared → Prop} : ∀ {cs : List Value}, (∀ c ∈ cs, ∀ Q' : ForInStep PUnit → Shared → Prop, Q' (.yield ⟨⟩) s → wpAny M A (f c ⟨⟩) Q' E s) → Q s →
    wpAny M A (forIn cs PUnit.unit f) (fun _ s' => Q s') E s
  | [], _, q => wpAny_pure q
  | c :: r, h, q => by
    rw [List.forIn_cons]
    exact wpAny_bind (h c List.mem_cons_self _ (loop_all (fun c' hc => h c' (List.mem_cons_of_mem _ hc)) q))
theorem loop_any {A : Around} {E : Value → Shared → Prop} {s : Shared} {f : Value → Option Bool × Unit → Sem (ForInStep (Option Bool × Unit))} {Q : Option Bool × Unit → Shared → Prop} : ∀ {cs : List (Value × Bool)},
    (∀ c ∈ cs, ∀ r Q', Q' (if c.2 = true then ForInStep.done (some true, ()) else .yield (none, ())) s → wpAny M A (f c.1 r) Q' E s) → Q (if cs.any (·.2) = true then some true else none, ()) s →
    wpAny M A (forIn (cs.map (·.1)) (none, ()) f) Q E s
  | [], _, q => wpAny_pure q
  | (c, true) :: r, h, q => by
    rw [List.map_cons, List.forIn_cons]
    refine wpAny_bind (h _ List.mem_cons_self _ _ ?_)
    rw [if_pos rfl]
    exact wpAny_pure q
  | (c, false) :: r, h, q => by
    rw [List.map_cons, List.forIn_cons]
    refine wpAny_bind (h _ List.mem_cons_self _ _ ?_)
    rw [if_neg Bool.false_ne_true]
    exact loop_any (fun c' hc => h c' (List.mem_cons_of_mem _ hc)) q
theorem exmAny_list {cls : Value} : ∀ {cs : List Value} {b : Bool}, PySem.W.exmAny K cls cs = some b → ∃ bs : List (Value × Bool), bs.map (·.1) = cs ∧ bs.any (·.2) = b ∧ ∀ c ∈ bs, PySem.W.exmOne K cls c.1 = some c.2
  | [], b, h => ⟨[], rfl, by cases h; rfl, fun _ hc => by cases hc⟩
  | c :: r, b, h => by
    obtain ⟨b1, d1, x1, y1, z1⟩ := PySem.W.exmAny_cons h
    obtain ⟨bs, h1, h2, h3⟩ := exmAny_list y1
    refine ⟨(c, b1) :: bs, by rw [List.map_cons, h1], by rw [List.any_cons, h2, z1], fun p hp => ?_⟩
    rcases List.mem_cons.mp hp with rfl | hp
    · exact x1
    · exact h3 p hp
theorem exm_tupN {cs : List Value} {cls : Value} {tp e : Addr} {b : Bool} {h : Heap} (X : K.In h) (LT : PySem.W.Looks M h (typeOf (.ref e)) cls) (hp : h.get? tp = some { cls := .type "tuple", data := .seq cs.toArray }) (hx : PySem.W.exmAny K cls cs = some b) :
    PySem.W.Looks M h (excMatches (.ref e) (.ref tp)) b := by
  intro A Q E s k q
  have L0 : PySem.W.Looks M h (isInstance (.ref tp) (.type "tuple")) true := ((PySem.W.Looks.ld hp).andThen .now).andThen (PySem.W.Looks.of_pure isSubtype_tuple_tuple)
  obtain ⟨bs, h1, h2, h3⟩ := exmAny_list hx
  unfold excMatches
  refine wpAny_bind ((L0.keeps k).here ?_)
  rw [if_pos rfl]
  refine wpAny_bind (wpAny_seqItems (k _ _ hp) rfl ?_)
  refine wpAny_bind (wpAny_pure ?_)
  show wpAny M A (forIn cs PUnit.unit _ >>= _) Q E s
  refine wpAny_bind (loop_all (fun c hc Q' q' => ?_) ?_)
  · rw [← h1] at hc
    obtain ⟨p, hp, rfl⟩ := List.mem_map.mp hc
    exact wpAny_bind ((((PySem.W.exm_cls (M := M) X (h3 p hp)).1).keeps k).here (wpAny_pure q'))
  · refine wpAny_bind ((LT.keeps k).here ?_)
    rw [← h1]
    refine wpAny_bind (loop_any (fun c hc r Q' q' => ?_) ?_)
    · refine wpAny_bind ((((PySem.W.exm_cls (M := M) X (h3 c hc)).2).keeps k).here ?_)
      cases e : c.2 <;> (rw [e] at q'; exact wpAny_pure q')
    · rw [h2]
      cases b <;> exact wpAny_pure q
end
theorem test_t5 {X : Cx} {x1 x2 x3 x4 x5 : Str} {c1 c2 c3 c4 c5 : Value} {p1 p2 p3 p4 p5 tpos : Pos} {kk : Nat} (g1 : Gl X x1) (m1 : X.mg x1 = some c1) (g2 : Gl X x2) (m2 : X.mg x2 = some c2) (g3 : Gl X x3) (m3 : X.mg x3 = some c3) (g4 : Gl X x4) (m4 : X.mg x4 = some c4) (g5 : Gl X x5) (m5 : X.mg x5 = some c5)
    (d1 : (x1 == ("__debug__" : Str)) = false := by decide) (d2 : (x2 == ("__debug__" : Str)) = false := by decide) (d3 : (x3 == ("__debug__" : Str)) = false := by decide) (d4 : (x4 == ("__debug__" : Str)) = false := by decide) (d5 : (x5 == ("__debug__" : Str)) = false := by decide) :
    TestX X (.Tuple [.Name x1 p1, .Name x2 p2, .Name x3 p3, .Name x4 p4, .Name x5 p5] kk tpos) (fun cls => PySem.W.exmAny X.K cls [c1, c2, c3, c4, c5]) := by
  intro a oe pn pins σ H s cls b Q E I LT hb q
  refine wpAny_Tuple ?_
  refine wpAny_items_cons (ld_glob (X := X.suite a ((a, oe) :: pn)) I g1 m1 ?_ d1)
  refine wpAny_items_cons (ld_glob (X := X.suite a ((a, oe) :: pn)) I g2 m2 ?_ d2)
  refine wpAny_items_cons (ld_glob (X := X.suite a ((a, oe) :: pn)) I g3 m3 ?_ d3)
  refine wpAny_items_cons (ld_glob (X := X.suite a ((a, oe) :: pn)) I g4 m4 ?_ d4)
  refine wpAny_items_cons (ld_glob (X := X.suite a ((a, oe) :: pn)) I g5 m5 ?_ d5)
  refine wpAny_items_nil ⟨by size_fits, ?_⟩
  have kp : ∀ q o, s.heap.get? q = some o → (s.heap.push { cls := .type "tuple", data := .seq [c1, c2, c3, c4, c5].toArray }).get? q = some o := fun _ _ z => Heap.get?_push_of_some _ z
  exact (exm_tupN (M := model X.prog X.w) (I.kIn.keeps kp) (LT.keeps kp) (Heap.get?_push_size s.heap rfl) hb).here (q _ kp)
section
variable {X : Cx} {T : Nat → Addr} {E : XK} {a b c : Expr} {ga gb gc : ME} {pos : Pos}
end
def it1VL (j n : Nat) : It1 := ⟨fun _ => n, fun i h => match h.get j with
  | some (.lst xs) => if i < n then (match xs[n - 1 - i]? with
    | some x => some (some x)
    | none => none) else some none
  | _ => none⟩
def gRev (a : ME) : MI1 := fun m h => (a m h).bind fun x h1 => match x with
  | .tup xs => .ok (it1 xs.reverse) h1
  | .ktp xs => .ok (it1 xs.reverse) h1
  | .ref j => match h1.get j with
    | some (.lst xs) => .ok (it1VL j xs.length) h1
    | _ => .bad
  | _ => .bad
section
variable {Z : Zt} {ρ : List Addr} {h : MH} {H : Hp}
theorem rI_revT {a : Addr} {xs : List MV} {vs : List V} (r : RVs Z ρ H xs vs) (k : ∀ ρ' H', Ext ρ H ρ' H' → SqT Z.K H' a vs) : rI Z ρ H (it1 xs.reverse) (RT.ItvT Z.K a vs.length) := by
  intro i ρ' h' H' e R
  show match some xs.reverse[i]? with
    | none => True
    | some none => (RT.ItvT Z.K a vs.length).stop i H'
    | some (some x) => (RT.ItvT Z.K a vs.length).go i H' ∧ ∀ v H'', (RT.ItvT Z.K a vs.length).yld i H' v H'' → ∃ ρ'', Ext ρ' H' ρ'' H'' ∧ HR Z ρ'' h' H'' ∧ RV Z ρ'' H'' x v
  have hl := r.length
  by_cases hi : i < xs.length
  · rw [List.getElem?_reverse hi]
    cases g : xs[xs.length - 1 - i]? with
    | none => have := List.getElem?_eq_none_iff.mp g; omega
    | some x =>
      obtain ⟨v, h1, h2⟩ := r.get g
      rw [hl] at h1
      refine ⟨⟨by omega, vs, v, k _ _ e, h1⟩, fun w H'' y => ?_⟩
      obtain ⟨rfl, y⟩ := y
      have := y vs (k _ _ e)
      rw [h1] at this
      cases this
      exact ⟨ρ', .refl, R, h2.ext e⟩
  · rw [List.getElem?_eq_none (by rw [List.length_reverse]; omega)]
    show vs.length ≤ i
    omega
theorem rI_revL {j n : Nat} {a : Addr} (hj : ρ[j]? = some a) : rI Z ρ H (it1VL j n) (Itv Z.K a n) := by
  intro i ρ' h' H' e R
  show match (match h'.get j with
    | some (.lst xs) => if i < n then (match xs[n - 1 - i]? with
      | some x => some (some x)
      | none => none) else some none
    | _ => none : Option (Option MV)) with
    | none => True
    | some none => (Itv Z.K a n).stop i H'
    | some (some x) => (Itv Z.K a n).go i H' ∧ ∀ v H'', (Itv Z.K a n).yld i H' v H'' → ∃ ρ'', Ext ρ' H' ρ'' H'' ∧ HR Z ρ'' h' H'' ∧ RV Z ρ'' H'' x v
  cases g : h'.get j with
  | none => trivial
  | some o =>
    cases o with
    | lst xs =>
      obtain ⟨vs, h1, h2⟩ := R.obj g (e.at hj)
      have sq : SqL Z.K H' a vs := .inl (.inl h1)
      dsimp only
      by_cases hi : i < n
      · rw [if_pos hi]
        cases g2 : xs[n - 1 - i]? with
        | none => trivial
        | some x =>
          obtain ⟨v, h3, h4⟩ := h2.get g2
          refine ⟨⟨hi, vs, v, sq, h3⟩, fun w H'' y => ?_⟩
          obtain ⟨rfl, y⟩ := y
          have := y vs sq
          rw [h3] at this
          cases this
          exact ⟨ρ', .refl, R, h4⟩
      · rw [if_neg hi]
        show n ≤ i
        omega
    | _ => trivial
end
section
variable {X : Cx} {T : Nat → Addr} {E : XK} {e a tg : Expr} {ga : ME} {pos p : Pos}
theorem ji_rev (hg : Gl X "reversed") (hm : X.mg "reversed" = none) (ha : JE X T E a ga) (hs : starEach [a] X.env = (false, eval a X.env) :: starEach [] X.env := by rfl) : JI X T E tg (.Call (.Name "reversed" p) [a] [] pos) (gRev ga) :=
  PI.le (RT.pi_revA hg hm ha hs) fun σ H R ⟨ρ, m, h, s, q⟩ => stepI s q fun ρ1 h1 H1 x v s1 e1 r1 q1 => by
    cases r1 with
    | @tup a xs vs h2 r2 => exact ⟨a, vs, rfl, .inr ⟨.inl (.inl h2), Post.ok (R := rI ⟨X.K, T⟩) q1 s1.hr (rI_revT r2 fun ρ' H' e => (.inl (.inl (e.still _ _ h2 trivial))))⟩⟩
    | @ktp a xs vs h2 r2 => exact ⟨a, vs, rfl, .inr ⟨ktp_sq h2, Post.ok (R := rI ⟨X.K, T⟩) q1 s1.hr (rI_revT r2 fun ρ' H' e => ktp_sq h2)⟩⟩
    | @ref j a hj =>
      have q2 : Post ⟨X.K, T⟩ (rI ⟨X.K, T⟩) ρ1 H1 R E (match h1.get j with
        | some (.lst xs) => .ok (it1VL j xs.length) h1
        | _ => .bad) := q1
      cases g1 : h1.get j with
      | none => rw [g1] at q2; exact q2.elim
      | some ob =>
        rw [g1] at q2
        cases ob with
        | lst xs =>
          obtain ⟨vs, h3, h4⟩ := s1.hr.obj g1 hj
          refine ⟨a, vs, rfl, .inl ⟨.inl (.inl h3), ?_⟩⟩
          rw [← h4.length]
          exact Post.ok (R := rI ⟨X.K, T⟩) q2 s1.hr (rI_revL hj)
        | _ => exact q2.elim
    | _ => exact q1.elim
end
def tyN (h : MH) : MV → Option String
  | .non => some "NoneType"
  | .bl _ => some "bool"
  | .int _ => some "int"
  | .str _ => some "str"
  | .tup _ => some "tuple"
  | .ktp _ => some "tuple"
  | .ref j => match h.get j with
    | some (.lst _) => some "list"
    | some (.dic _) => some "dict"
    | _ => none
  | _ => none
theorem tyN_ok {Z : Zt} {ρ : List Addr} {h : MH} {H : Hp} {x : MV} {v : V} {t : String} (R : HR Z ρ h H) (r : RV Z ρ H x v) (e : tyN h x = some t) : TyX Z.K H v (.type t) := by
  cases r with
  | non => cases e; exact .base .non
  | bl b => cases e; exact .base (.bl b)
  | int i => cases e; exact .base (.int i)
  | str s => cases e; exact .base (.str _)
  | tup h2 r2 => cases e; exact .base (.tup h2)
  | ktp h2 r2 =>
    cases e
    rcases h2 with h2 | ⟨o, its, n, hk, hc, _⟩
    · rcases h2 with h2 | ⟨o, h2⟩ <;> cases h2
    · exact .kTuple hk hc
  | @ref j a hj =>
    have e' : (match h.get j with
      | some (.lst _) => some "list"
      | some (.dic _) => some "dict"
      | _ => none) = some t := e
    cases g : h.get j with
    | none => rw [g] at e'; cases e'
    | some ob =>
      rw [g] at e'
      cases ob with
      | lst xs => cases e'; obtain ⟨vs, h3, _⟩ := R.obj g hj; exact .base (.lst h3)
      | dic xs => cases e'; obtain ⟨vs, h3, _⟩ := R.obj g hj; exact .base (.dK h3)
      | _ => cases e'
  | _ => cases e
def mIsTy (tb : List (String × Bool)) (x : MV) (h : MH) : Out MV := match tyN h x with
  | some t => (match tb.lookup t with
    | some b => .ok (.bl b) h
    | none => .bad)
  | none => .bad
def anyB (t : String) : List String → Option Bool
  | [] => some false
  | c :: r => match L2.kitB t c with
    | some true => some true
    | some false => anyB t r
    | none => none
theorem anyB_ok {K : PySem.W.Frag} {t : String} : ∀ {cs : List String} {b : Bool}, anyB t cs = some b → PySem.W.kitAny K (.type t) (cs.map Value.type) = some b
  | [], b, h => h
  | c :: r, b, h => by
    unfold anyB at h
    rw [List.map_cons]
    unfold PySem.W.kitAny
    cases k : L2.kitB t c with
    | none => rw [k] at h; cases h
    | some d =>
      rw [k] at h
      rw [kit_ty k]
      cases d with
      | true => exact h
      | false => exact anyB_ok h
theorem look_all {f : String → Bool → Bool} : ∀ {tb : List (String × Bool)} {t : String} {b : Bool}, (tb.all fun p => f p.1 p.2) = true → tb.lookup t = some b → f t b = true
  | [], _, _, _, h => by cases h
  | (t', b') :: r, t, b, ha, h => by
    rw [List.all_cons, Bool.and_eq_true] at ha
    rw [List.lookup_cons] at h
    by_cases z : t = t'
    · subst z
      rw [beq_self_eq_true] at h
      cases h
      exact ha.1
    · rw [beq_false_of_ne z] at h
      exact look_all ha.2 h
theorem clsTy : ∀ {cs : List String}, Paired ClsV (cs.map V.ty) (cs.map Value.type)
  | [] => .nil
  | c :: r => .cons (.ty c) clsTy
section
variable {X : Cx} {T : Nat → Addr} {E : XK} {a ec : Expr} {es : List Expr} {p1 p2 pos : Pos} {ga : ME} {kk : Nat}
theorem je_isTy {c : String} {tb : List (String × Bool)} (hg : Gl X "isinstance") (hm : X.mg "isinstance" = none) (hk : (tb.all fun p => L2.kitB p.1 c == some p.2) = true) (ha : JE X T E a ga) (hc : PE X ec (tC (.ty c)))
    (hs : starEach [a, ec] X.env = (false, eval a X.env) :: starEach [ec] X.env := by rfl) (hs2 : starEach [ec] X.env = (false, eval ec X.env) :: starEach [] X.env := by rfl) (hpl : (backTo pos (starEach [ec] X.env)).any (·.1) = false := by rfl) :
    JE X T E (.Call (.Name "isinstance" p1) [a, ec] [] pos) (gUn (mIsTy tb) ga) :=
  PE.le (pe_callB (he := hs) (hpl := hpl) call_isi hg hm (by decide +kernel) (pa_cons ha (pa_cons hc pa_nil hs2) hs)) fun σ H Q ⟨ρ, m, h, s, q⟩ => stepE s q fun ρ1 h1 H1 x v s1 e1 r1 q1 => by
    show rIsi X.K [v, .ty c] H1 Q
    unfold mIsTy at q1
    cases e : tyN h1 x with
    | none => rw [e] at q1; exact q1.elim
    | some t =>
      rw [e] at q1
      dsimp only at q1
      cases k : tb.lookup t with
      | none => rw [k] at q1; exact q1.elim
      | some b =>
        rw [k] at q1
        exact ⟨v, .ty c, _, _, b, rfl, .ty _, tyN_ok s1.hr r1 e, kit_ty (by simpa using look_all (f := fun t b => L2.kitB t c == some b) hk k), Post.ok (R := rV ⟨X.K, T⟩) q1 s1.hr (.bl b)⟩
theorem je_isTyT {cs : List String} {tb : List (String × Bool)} (hg : Gl X "isinstance") (hm : X.mg "isinstance" = none) (hk : (tb.all fun p => anyB p.1 cs == some p.2) = true) (ha : JE X T E a ga) (hc : PA X es (fun _ H Q => Q (cs.map V.ty) H)) (hl : cs.length ≤ 1000)
    (hs : starEach [a, .Tuple es kk p2] X.env = (false, eval a X.env) :: starEach [.Tuple es kk p2] X.env := by rfl) (hs2 : starEach [.Tuple es kk p2] X.env = (false, eval (.Tuple es kk p2) X.env) :: starEach [] X.env := by rfl) (hpl : (backTo pos (starEach [.Tuple es kk p2] X.env)).any (·.1) = false := by rfl) :
    JE X T E (.Call (.Name "isinstance" p1) [a, .Tuple es kk p2] [] pos) (gUn (mIsTy tb) ga) :=
  PE.le (pe_callB (he := hs) (hpl := hpl) call_isiT hg hm (by decide +kernel) (pa_cons ha (pa_cons (pe_tup hc) pa_nil hs2) hs)) fun σ H Q ⟨ρ, m, h, s, q⟩ => stepE s q fun ρ1 h1 H1 x v s1 e1 r1 q1 => by
    refine ⟨by rw [sizeLine_eq, List.length_map]; omega, fun p hp => ?_⟩
    show rIsiT X.K [v, .ref p] (upd H1 p (.tup (cs.map V.ty))) Q
    have e2 : Ext ρ1 H1 ρ1 (upd H1 p (.tup (cs.map V.ty))) := Ext.still1 hp
    unfold mIsTy at q1
    cases e : tyN h1 x with
    | none => rw [e] at q1; exact q1.elim
    | some t =>
      rw [e] at q1
      dsimp only at q1
      cases k : tb.lookup t with
      | none => rw [k] at q1; exact q1.elim
      | some b =>
        rw [k] at q1
        exact ⟨v, p, cs.map V.ty, _, _, b, rfl, upd_same, clsTy, tyN_ok (s1.hr.still1 hp) (r1.ext e2) e, anyB_ok (by simpa using look_all (f := fun t b => anyB t cs == some b) hk k), Post.ok (R := rV ⟨X.K, T⟩) (q1.ext e2) (s1.hr.still1 hp) (.bl b)⟩
end
end MI
set_option Elab.async false
set_option linter.all false
set_option maxRecDepth 100000
set_option maxHeartbeats 4000000
namespace MI
open PySem PySem.Spec PyProof.Rows L2 JB
theorem bounds_tail {a n : Nat} (h : a ≤ n) : sliceBounds (some (a : Int)) none none n = ((a : Int), (n : Int), 1) := by
  unfold sliceBounds
  have : ¬ ((a : Int) < 0) := by omega
  simp only [Option.getD_none, this, if_false, show (1 : Int) > 0 from by decide, if_true]
  refine congrArg (·, _) ?_
  omega
section
variable {prog : Program} {w : World} {A : Around} {E : Value → Shared → Prop} {s : Shared}
theorem tailSet {p q sl : Addr} {xs ys : Array Value} {n n2 a : Nat} {vl : Value} {Q : Unit → Shared → Prop} (e : s.heap.get? p = some { cls := .type "list", data := .seq xs n }) (e2 : s.heap.get? q = some { cls := .type "list", data := .seq ys n2 })
    (hne : p ≠ q) (hs : s.heap.IsSliceOf sl vl .none .none) (pl : IsPart vl (some (a : Int))) (ha : a ≤ xs.size) (hz : xs.size + ys.size ≤ sizeLine)
    (h : Q () { s with heap := s.heap.update p (Obj.mapSeq fun zs => zs.extract 0 a ++ ys ++ zs.extract (max (a : Int) (xs.size : Int)).toNat zs.size) }) : wpAny (model prog w) A (setItem (.ref p) (.ref sl) (.ref q)) Q E s := by
  have lp : s.heap.IsList p xs := PySem.IsL.isList e
  have lq : s.heap.IsList q ys := PySem.IsL.isList e2
  obtain ⟨os, h1, h2, h3⟩ := id hs
  have ty : s.TypeIs (.ref sl) "slice" := ⟨os, h1, h2⟩
  have ns : ¬ ((rawPart none == rawInt 0) = true) := Bool.false_ne_true
  have df : Builtin.List.listSameRef (.ref p) (.ref q) = false := beq_eq_false_iff_ne.mpr hne
  have fz : ((fun zs : Array Value => zs.extract 0 a ++ ys ++ zs.extract (max (a : Int) (xs.size : Int)).toNat zs.size) xs).size ≤ sizeLine + 1 := by simp only [Array.size_append, Array.size_extract] <;> omega
  unfold setItem
  refine wpAny_holding (wpAny_bind (wpAny_sequenceKey lp.typeIs (by decide) ?_))
  refine wpAny_bind (wpAny_callSpecial?_slot (name := Str.ofString "__setitem__") lp.typeIs slot_list_setitem (wpAny_call_entry slot_list_setitem lp.typeIs entry_list_setitem ?_ (args_list_setitem _ _ _)))
  show wpAny _ _ (Builtin.List.listSubscript? (.ref sl) >>= _) _ _ s
  unfold Builtin.List.listSubscript?
  refine wpAny_bind (wpAny_bind (wpAny_specialOf ty slice_no_index ?_))
  simp only [Option.isNone_none, if_true]
  refine wpAny_pure ?_
  show wpAny _ _ (typeOf (.ref sl) >>= _) _ _ s
  refine wpAny_bind (wpAny_typeOf ty ?_)
  rw [if_neg (by decide), listSliceParts_eq]
  refine wpAny_bind (wpAny_bind (wpAny_field h1 h3 (x := .none) rfl (wpAny_bind (wpAny_listPart .none ?_))))
  rw [if_neg ns]
  refine wpAny_bind (wpAny_field h1 h3 (x := vl) rfl (wpAny_bind (wpAny_listPart pl (wpAny_bind (wpAny_field h1 h3 (x := .none) rfl (wpAny_bind (wpAny_listPart .none (wpAny_pure ?_))))))))
  simp only [df, Bool.false_eq_true, if_false]
  refine wpAny_bind (m := Builtin.List.listAllItems (.ref q) "must assign iterable to extended slice") ?_
  unfold Builtin.List.listAllItems
  refine wpAny_bind (wpAny_typeOf lq.typeIs ?_)
  simp only [beq_self_eq_true, Bool.true_or, if_true]
  unfold Builtin.List.listItems
  refine wpAny_bind (wpAny_seqItems e2 rfl (wpAny_pure ?_))
  refine wpAny_bind (wpAny_bind (wpAny_seqItems e rfl (wpAny_pure ?_)))
  refine wpAny_bind (wpAny_of_eq ((sliceIndices_raw (some (a : Int)) none none xs.size (by simp)).trans (congrArg (pure : Int × Int × Int → Sem (Int × Int × Int)) (bounds_tail ha))) ?_)
  show wpAny _ _ (if ((1 : Int) == 1) = true then _ else _) _ _ s
  rw [if_pos (by decide)]
  refine wpAny_bind (wpAny_rule ?_)
  simp only [notLongL hz, Bool.false_eq_true, if_false]
  show wpAny _ _ (updateSeq p (fun zs => zs.extract 0 ((a : Int)).toNat ++ ys ++ zs.extract (max (a : Int) (xs.size : Int)).toNat zs.size) >>= _) _ _ s
  rw [Int.toNat_natCast]
  refine wpAny_bind (wpAny_updateSeq (hz := Nat.le_trans (Nat.le_add_right _ _) hz) (_hz' := fz) e rfl (wpAny_bind (wpAny_letGo ?_)))
  exact wpAny_pure ⟨.none, rfl, wpAny_pure h⟩
end
def rTail : V → V → V → Hp → (Hp → Prop) → Prop := fun o i v H Q => ∃ (a b : Addr) (xs ys : List V) (k : Int), o = .ref a ∧ i = .int k ∧ v = .ref b ∧ H a = some (.lst xs) ∧ H b = some (.lst ys) ∧ a ≠ b ∧ 0 ≤ k ∧ k ≤ xs.length ∧ xs.length + ys.length ≤ sizeLine ∧ Q (upd H a (.lst (xs.take k.toNat ++ ys)))
section
variable {X : Cx} {T : Nat → Addr} {E : XK} {o lo : Expr} {to tl : TE} {go gl : ME} {pos p2 : Pos}
theorem pg_tail (ho : PE X o to) (hi : PE X lo tl) (ha : ∀ v, assign (.Subscript o (.Slice (some lo) none none p2) pos) X.env v = (do
      let x ← holding [v] (eval o X.env)
      let y ← holding [v, x] (eval (.Slice (some lo) none none p2) X.env)
      standAt pos
      holding [v, x, y] (setItem x y v)
      release [y, v, x] []) := by intro _; rfl) : PG X (.Subscript o (.Slice (some lo) none none p2) pos) (fun v σ H Q => to σ H fun x H1 => tl σ H1 fun y H2 => rTail x y v H2 fun H3 => Q σ H3) := by
  refine ⟨fun pins s σ H v u Q I r h => ?_⟩
  rw [ha]
  refine wpAny_bind (wpAny_holding (thn (ho.run pins s σ H _ I h) fun vx s1 ⟨x, H1, I1, r1, q1⟩ => ?_))
  refine wpAny_bind (wpAny_holding (wpAny_Slice (thn (hi.run pins s1 σ H1 _ I1 q1) fun vl s2 ⟨y, H2, I2, r2, q2⟩ => ?_)))
  rw [evalPart_none]
  refine wpAny_pure (wpAny_pure ?_)
  obtain ⟨a, b, xs, ys, k, rfl, rfl, rfl, ea, eb, hab, k0, k1, hz, q⟩ := q2
  obtain rfl : vx = Value.ref a := r1
  obtain rfl : u = Value.ref b := r
  obtain ⟨tk, rfl⟩ := r2
  obtain ⟨k', rfl⟩ := Int.eq_ofNat_of_zero_le k0
  have I3 : Inv X pins σ H2 { s2 with heap := s2.heap.push { cls := .type "slice", data := .fields #[.int k' tk, .none, .none] } } := I2.kept (t' := s2.toks) fun _ _ z => Heap.get?_push_of_some _ z
  obtain ⟨z1, is1, n1, v1, l1, e1⟩ := I3.lstM ea
  obtain ⟨z2, is2, n2, v2, l2, e2⟩ := I3.lstM eb
  refine wpAny_bind (wpAny_standAt (wpAny_bind (wpAny_holding (tailSet (a := k') e1 e2 hab (Heap.IsSliceOf.new ..) (.int _ _) (by rw [List.size_toArray]; omega) (by rw [List.size_toArray, List.size_toArray]; omega) ?_))))
  refine wpAny_release ⟨σ, _, ?_, q⟩
  refine I3.lset (its' := is1.take k' ++ is2) (t' := s2.toks) ea e1 ?_ (Vals.append (v1.take _) v2) (by rw [List.length_append, List.length_take]; omega)
  have mx : (max (k' : Int) (is1.toArray.size : Int)).toNat = is1.toArray.size := by
    have l : xs.length = is1.length := v1.length
    have : k' ≤ is1.toArray.size := by rw [List.size_toArray]; omega
    omega
  rw [mx, splice_eq is1 is2 k' is1.toArray.size, List.drop_eq_nil_of_le (by rw [List.size_toArray]; omega), List.append_nil]
def tgTail (o lo : ME) : MG := fun z m h => (o m h).bindS fun x h1 => (lo m h1).bindS fun y h2 => match x, y, z with
  | .ref i, .int k, .ref j => if i = j then .bad else match h2.get i, h2.get j with
    | some (.lst xs), some (.lst ys) => if 0 ≤ k ∧ k ≤ xs.length ∧ xs.length + ys.length ≤ 1000000 then .nx m (h2.set i (.lst (xs.take k.toNat ++ ys))) else .bad
    | _, _ => .bad
  | _, _, _ => .bad
theorem RVs.append' {Z : Zt} {ρ : List Addr} {H : Hp} : ∀ {xs ys : List MV} {vs ws : List V}, RVs Z ρ H xs vs → RVs Z ρ H ys ws → RVs Z ρ H (xs ++ ys) (vs ++ ws)
  | _, _, _, _, .nil, q => q
  | _, _, _, _, .cons a r, q => .cons a (RVs.append' r q)
theorem RVs.take' {Z : Zt} {ρ : List Addr} {H : Hp} : ∀ {xs : List MV} {vs : List V} (n : Nat), RVs Z ρ H xs vs → RVs Z ρ H (xs.take n) (vs.take n)
  | _, _, 0, _ => by rw [List.take_zero, List.take_zero]; exact .nil
  | _, _, n + 1, .nil => .nil
  | _, _, n + 1, .cons a r => .cons a (RVs.take' n r)
theorem jg_tail (ho : JE X T E o go) (hi : JE X T E lo gl) (ha : ∀ v, assign (.Subscript o (.Slice (some lo) none none p2) pos) X.env v = (do
      let x ← holding [v] (eval o X.env)
      let y ← holding [v, x] (eval (.Slice (some lo) none none p2) X.env)
      standAt pos
      holding [v, x, y] (setItem x y v)
      release [y, v, x] []) := by intro _; rfl) : JG X T E (.Subscript o (.Slice (some lo) none none p2) pos) (tgTail go gl) :=
  PG.le (pg_tail ho hi ha) fun v σ H Q ⟨ρ, m, h, z, s, r, q⟩ => sE s q fun ρ1 h1 H1 x vx s1 e1 r1 q1 => sE s1 q1 fun ρ2 h2 H2 y vy s2 e2 r2 q2 => by
    have rx := r1.ext e2
    have rz := (r.ext e1).ext e2
    show rTail vx vy v H2 fun H3 => Q σ H3
    cases rx with
    | @ref i a hi =>
      cases r2 with
      | int k =>
        cases rz with
        | @ref j b hj =>
          dsimp only at q2
          by_cases hij : i = j
          · rw [if_pos hij] at q2; exact q2.elim
          · rw [if_neg hij] at q2
            cases g1 : h2.get i with
            | none => rw [g1] at q2; exact q2.elim
            | some ob =>
              cases ob with
              | lst xs =>
                cases g2 : h2.get j with
                | none => rw [g1, g2] at q2; exact q2.elim
                | some oc =>
                  cases oc with
                  | lst ys =>
                    rw [g1, g2] at q2
                    dsimp only at q2
                    by_cases z1 : 0 ≤ k ∧ k ≤ xs.length ∧ xs.length + ys.length ≤ 1000000
                    · rw [if_pos z1] at q2
                      obtain ⟨vs, a1, a2⟩ := s2.hr.obj g1 hi
                      obtain ⟨ws, b1, b2⟩ := s2.hr.obj g2 hj
                      have x1 : Ext ρ2 H2 ρ2 (upd H2 a (.lst (vs.take k.toNat ++ ws))) := s2.hr.grow g1 hi _
                      have ab : a ≠ b := fun z => hij ((List.getElem?_inj (List.getElem?_eq_some_iff.mp hi).1 s2.hr.nodup).mp (hi.trans (by rw [z]; exact hj.symm)))
                      have l1 := a2.length
                      have l2 := b2.length
                      have R3 := s2.hr.set g1 hi (o' := .lst (xs.take k.toNat ++ ys)) (u := .lst (vs.take k.toNat ++ ws)) ⟨_, upd_same, ((RVs.take' k.toNat a2).append' b2).ext x1⟩
                      exact ⟨a, b, vs, ws, k, rfl, rfl, rfl, a1, b1, ab, z1.1, by omega, by rw [sizeLine_eq]; omega, q2 ρ2 _ σ x1 (s2.to x1 R3)⟩
                    · rw [if_neg z1] at q2; exact q2.elim
                  | _ => rw [g1, g2] at q2; exact q2.elim
              | _ => rw [g1] at q2; exact q2.elim
        | _ => exact q2.elim
      | _ => exact q2.elim
    | _ => exact q2.elim
end
end MI
set_option Elab.async false
set_option linter.all false
set_option maxRecDepth 100000
set_option maxHeartbeats 4000000
namespace MI
open PySem PySem.Spec PyProof.Rows L2 JB
section
variable {X : Cx} {T : Nat → Addr} {E : XK} {a b c : Expr} {ga : MA} {pos : Pos}
end
end MI
set_option Elab.async false
set_option linter.all false
set_option maxRecDepth 100000
set_option maxHeartbeats 4000000
namespace MI
open PySem PySem.Spec PyProof.Rows L2 JB
end MI
set_option Elab.async false
set_option linter.all false
set_option maxRecDepth 100000
set_option maxHeartbeats 4000000
namespace MI
open PySem PySem.Spec PyProof.Rows L2 JB
end MI
set_option Elab.async false
set_option linter.all false
set_option maxRecDepth 100000
set_option maxHeartbeats 4000000
namespace MI
open PySem PySem.Spec PyProof.Rows L2 JB
end MI
set_option Elab.async false
set_option linter.all false
set_option maxRecDepth 100000
set_option maxHeartbeats 4000000
namespace MI
open PySem PySem.Spec PyProof.Rows L2 JB
section
variable {X : Cx} {a b c d : Expr} {ta tb tc td : TE} {pos : Pos}
end
section
variable {X : Cx} {T : Nat → Addr} {E : XK} {a b c d : Expr} {ga gb gc gd : ME} {pos : Pos}
end
end MI
set_option Elab.async false
set_option linter.all false
set_option maxRecDepth 100000
set_option maxHeartbeats 4000000
namespace MI
open PySem PySem.Spec PyProof.Rows L2
section
variable {X : Cx} {T : Nat → Addr} {E : XK} {pos : Pos} {k v : Expr} {ks : List (Option Expr)} {vs : List Expr} {ps : List (ME × ME)} {ga gb : ME}
end
end MI
set_option Elab.async false
set_option linter.all false
set_option maxRecDepth 100000
set_option maxHeartbeats 4000000
namespace MI
open PySem PySem.Spec PyProof.Rows L2 JB
def gTryK (tb : Nat → Option Bool) (i : Nat) (e : ME) (s : MS) : MS := fun m h => match e m h with
  | .ok _ h1 => .nx m h1
  | .er (.own c ks xs) h1 => (match tb c with
    | some true => aftS i (s (m.set i (some (.err c ks xs))) h1)
    | some false => .er (.own c ks xs) h1
    | none => .bad)
  | .er (.typ _) _ => .bad
  | .bad => .bad
abbrev EW (W : WX) (σ : L2.St) : XK := fun c d H' => W c d σ H'
def JEW (X : Cx) (T : Nat → Addr) (e : Expr) (g : ME) : Prop := ∀ W : WX, Takes X W → PE X e (fun σ H Q => ∃ ρ m h, SR ⟨X.K, T⟩ ρ m h σ H ∧ Post ⟨X.K, T⟩ (rV ⟨X.K, T⟩) ρ H Q (EW W σ) (g m h))
section
variable {X : Cx} {T : Nat → Addr} {k : Nat} {f : Addr} {dm : List MV} {g : MF} {n : Nat} {me : Str} {mi : Nat} {pos apos : Pos} {o : Expr} {go : ME} {W : WX}
theorem run_gL {CX : CXT} {fd : FuncData} {ps : List Str} {sp : Sp} {dvs : List V} {ds : List Value} {E : XK} {pins : List (Addr × Obj)} {σ : L2.St} {H : Hp} {s : Shared} {Q : VK} {us : List Value}
    {vs : List V} (hs : JB.Still X.A) (F : FnG X.prog X.w X.K X.mg X.base CX k f fd ps sp)
    (hr : Room k X.A) (hb : Binds X.K fd ps ds) (hd : Vals dvs ds) (hx : ∀ er s', CX X.stack H s E er s' → X.xe er s')
    (I : Inv X pins σ H s) (r : Vals vs us) (h : sp (vs ++ dvs) H Q E) :
    wpAny (model X.prog X.w) X.A (call (.ref f) us) (EP X pins σ Q) X.xe s := by
  have rr := r.append hd
  have hl : (us ++ ds).length = ps.length := by
    rw [← rr.length]; exact F.many _ _ _ _ h
  refine wpAny_call (codeAny_mono (F.goes X.A X.stack s H ⟨us, []⟩ (us ++ ds) (vs ++ dvs) Q E hs hr
    I.env0 (hb s us I.kIn hl) rr h) fun z s' hq => ?_)
  cases z with
  | error er => exact hx er s' hq
  | ok fl => cases fl <;> first | exact I.after hq | exact False.elim hq
end
section
variable {X : Cx} {T : Nat → Addr} {E : XK} {n : Str} {t e : Expr} {i : Nat} {suite : List Stmt} {b₀ : Stmt} {pos pos' pos2 : Pos} {tt : Value → Option Bool} {tb : Nat → Option Bool} {ge : ME} {gs : MS}
theorem js_tryK (hs : X.stack = X.env :: X.outer) (hf : X.env.frame = some X.env.locals) (hex : X.ex = []) (hN : X.N.Nodup) (hi : X.N[i]? = some n) (hln : X.env.kindOf n = some .local) (ht : TestX X t tt) (htb : ∀ c b, tb c = some b → tt (.ref (T c)) = some b) (tk : TakesE X E)
    (hb : ∀ (pn : List (Addr × Obj)) (xe : Value → Shared → Prop), JEW (X.tr pn xe) T e ge)
    (hsu : ∀ (a : Addr) (pn : List (Addr × Obj)), JSs (X.suite a pn) T (fun _ _ _ => False) (b₀ :: suite) gs)
    (hsw : ∀ (pn : List (Addr × Obj)) (xe : Value → Shared → Prop), swapsWith e none pos2.line (X.tr pn xe).env = pure false := by intro pn xe; rfl) :
    JS X T E (.Try [.Expr e pos2] [.ExceptHandler (some t) (some n) (b₀ :: suite) pos'] [] [] pos) (gTryK tb i ge gs) := by
  have R := ps_tryX (pos := pos) (pos' := pos') (body := [.Expr e pos2]) (tb := fun W D σ H => ∃ ρ m h, SR ⟨X.K, T⟩ ρ m h σ H ∧ Post ⟨X.K, T⟩ (rV ⟨X.K, T⟩) ρ H (fun _ H' => D.nx σ H') (EW W σ) (ge m h)) (ts := tS ⟨X.K, T⟩ (fun _ _ _ => False) gs) hs hf hex hN hi hln ht tk
    (fun W pn xe tkW own => pss_one (ps_expr (hb pn xe W tkW) (hsw pn xe))) hsu
  refine ⟨fun pins s σ H D I ⟨ρ, m, h, sr, q⟩ => R.run pins s σ H D I ⟨ρ, m, h, sr, ?_⟩⟩
  have hml : m.length = X.N.length := sr.len.trans I.len
  have q' : PostS ⟨X.K, T⟩ ρ H D E (match ge m h with
    | .ok _ h1 => .nx m h1
    | .er (.own c ks xs) h1 => (match tb c with
      | some true => aftS i (gs (m.set i (some (.err c ks xs))) h1)
      | some false => .er (.own c ks xs) h1
      | none => .bad)
    | .er (.typ _) _ => .bad
    | .bad => .bad) := q
  revert q'
  cases ge m h with
  | bad => exact fun q => q
  | ok v h1 => exact fun q ρ' H' b ex r rv => q ρ' H' σ ex (sr.to ex r)
  | er x h1 =>
    cases x with
    | typ s => exact fun q => q.elim
    | own c ks xs =>
      intro q ρ' H' ex r d vs hx hv
      dsimp only at q
      cases hc : tb c with
      | none => rw [hc] at q; exact q.elim
      | some b =>
        rw [hc] at q
        refine ⟨b, htb c b hc, fun hb1 a na => ?_, fun hb0 => ?_⟩
        · subst hb1
          dsimp only at q
          have e1 : Ext ρ' H' ρ' (upd H' a (exk a (T c) d)) := Ext.still1 na
          have s1 := (sr.to ex r).to e1 (r.still1 na)
          have s2 := s1.set (x := .err c ks xs) (v := .ref a) i (.err upd_same (e1.xdH hx) (hv.ext e1))
          refine ⟨T c, rfl, ρ', m.set i (some (.err c ks xs)), h1, s2, ?_⟩
          have q2 := PostS.ext q (ex.trans e1)
          revert q2
          cases gs (m.set i (some (.err c ks xs))) h1 with
          | bad => exact fun q => q
          | nx m' h' => exact fun q ρ2 H2 σ2 e2 s2 => q ρ2 H2 _ e2 (s2.drop i)
          | bk m' h' => exact fun q ρ2 H2 σ2 e2 s2 => q ρ2 H2 _ e2 (s2.drop i)
          | ct m' h' => exact fun q ρ2 H2 σ2 e2 s2 => q ρ2 H2 _ e2 (s2.drop i)
          | rt v h' => exact fun q => q
          | er x h' => exact fun q => q.elim
        · subst hb0
          exact q ρ' H' ex r d vs hx hv
end
end MI
set_option Elab.async false
set_option linter.all false
set_option maxRecDepth 100000
set_option maxHeartbeats 4000000
namespace MI
open PySem PySem.Spec PyProof.Rows L2 JB
def gDcN (it : It1) (c : CT) (t : MT) (ek ev : ME) (D : Nat) (mw : ML) : Nat → Nat → MH → Out MV
  | 0, _, _ => .bad
  | n + 1, i, h => match it.at_ i h with
    | none => .bad
    | some none => .ok (.ref D) h
    | some (some x) => match c.set x mw h with
      | .nx m1 h1 => match t m1 h1 with
        | .ok true h2 => match ek m1 h2 with
          | .ok y h3 => match ev m1 h3 with
            | .ok z h4 => match h4.get D with
              | some (.dic kvs) => match mkey y with
                | some k => if kvs.length < 1000000 then gDcN it c t ek ev D mw n (i + 1) (h4.set D (.dic (dput keq kvs k z))) else .bad
                | none => .bad
              | _ => .bad
            | _ => .bad
          | _ => .bad
        | .ok false h2 => gDcN it c t ek ev D mw n (i + 1) h2
        | _ => .bad
      | _ => .bad
def gDc (i : MI1) (c : CT) (t : MT) (ek ev : ME) (own : List Nat) : ME := fun m h => (i m h).bind fun it h1 => gDcN it c t ek ev h1.n (mwipe m own) (it.size h1 + 1) 0 (h1.push (.dic []))
section
variable {X : Cx} {T : Nat → Addr} {E : XK} {kx vx tg iter : Expr} {ifs : List Expr} {scope : Scope} {own : List (Str × Nat)} {pos : Pos} {gi : MI1} {c : CT} {gt : MT} {gk gv : ME}
theorem dc_le {ow : List Nat} (hv : ∀ i ∈ c.slots, i ∈ ow) : ∀ σ H Q, tE ⟨X.K, T⟩ E (gDc gi c gt gk gv ow) σ H Q → tDc (tI ⟨X.K, T⟩ E gi) (tCT X.K c) (tT ⟨X.K, T⟩ E00 gt) (tE ⟨X.K, T⟩ E00 gk) (tE ⟨X.K, T⟩ E00 gv) ow σ H Q := by
  intro σ H Q ⟨ρ, m, h, s, q⟩
  refine ⟨ρ, m, h, s, ?_⟩
  refine (Post.bind (R := rI ⟨X.K, T⟩) q).mono fun J H1 ⟨ρ1, h1, it, e1, r1, w1, q1⟩ D hD => ?_
  have s1 := s.to e1 r1
  have x0 : Ext ρ1 H1 (ρ1 ++ [D]) (upd H1 D (.dK [])) := Ext.push hD
  have s0 : SR ⟨X.K, T⟩ (ρ1 ++ [D]) m (h1.push (.dic [])) σ (upd H1 D (.dK [])) := s1.to x0 (r1.push hD ⟨[], upd_same, .nil⟩)
  have a0 : (ρ1 ++ [D])[h1.n]? = some D := by rw [← r1.len]; simp
  generalize hD' : h1.n = d at q1 a0
  refine ⟨fun i n H2 => ∃ ρ2 h2, Ext (ρ1 ++ [D]) (upd H1 D (.dK [])) ρ2 H2 ∧ SR ⟨X.K, T⟩ ρ2 m h2 σ H2 ∧ Post ⟨X.K, T⟩ (rV ⟨X.K, T⟩) ρ2 H2 Q E (gDcN it c gt gk gv d (mwipe m ow) n i h2),
    ⟨_, ρ1 ++ [D], _, .refl, s0, q1.ext x0⟩, fun i n H2 ⟨ρ2, h2, e2, s2, q2⟩ => ?_⟩
  cases n with
  | zero => exact q2.elim
  | succ n =>
    have w2 := w1 i ρ2 h2 H2 (x0.trans e2) s2.hr
    unfold gDcN at q2
    cases k : it.at_ i h2 with
    | none => rw [k] at q2; exact q2.elim
    | some o =>
      rw [k] at q2 w2
      cases o with
      | none => exact .inl ⟨w2, q2.ok s2.hr (.ref (e2.at a0))⟩
      | some x =>
        refine .inr ⟨w2.1, fun H3 => ∃ ρ3 h3, Ext (ρ1 ++ [D]) (upd H1 D (.dK [])) ρ3 H3 ∧ SR ⟨X.K, T⟩ ρ3 m h3 σ H3 ∧ Post ⟨X.K, T⟩ (rV ⟨X.K, T⟩) ρ3 H3 Q E (gDcN it c gt gk gv d (mwipe m ow) n (i + 1) h3),
          fun H3 z => ⟨n, Nat.lt_succ_self _, z⟩, fun v H3 y => ?_⟩
        obtain ⟨ρ3, e3, r3, rv3⟩ := w2.2 v H3 y
        dsimp only at q2
        have s3 := s2.to e3 r3
        have sw := s3.wipe ow
        cases g : c.set x (mwipe m ow) h2 with
        | nx m4 h4 =>
          rw [g] at q2
          dsimp only at q2
          refine ct_ok sw rv3 g hv fun σ4 s4 hw => ⟨by rw [hw, wipe_wipe], ?_⟩
          refine ⟨ρ3, m4, h4, s4, ?_⟩
          have q3 := q2.ext e3
          generalize gt m4 h4 = ot at q3 ⊢
          cases ot with
          | bad => exact q3.elim
          | er _ _ => exact q3.elim
          | ok b h5 =>
            intro ρ5 H5 b' e5 r5 hb
            have hb' : b = b' := hb
            subst hb'
            have s5 := s4.to e5 r5
            cases b with
            | false =>
              rw [if_neg Bool.false_ne_true]
              exact ⟨ρ5, h5, (e2.trans e3).trans e5, (s3.to e5 r5), q3.ext e5⟩
            | true =>
              rw [if_pos rfl]
              dsimp only at q3
              refine ⟨ρ5, m4, h5, s5, ?_⟩
              have q4 := q3.ext e5
              generalize gk m4 h5 = oe at q4 ⊢
              cases oe with
              | bad => exact q4.elim
              | er _ _ => exact q4.elim
              | ok y6 h6 =>
                intro ρ6 H6 v6 e6 r6 rv6
                dsimp only at q4
                have s6 := s5.to e6 r6
                refine ⟨ρ6, m4, h6, s6, ?_⟩
                have q5 := q4.ext e6
                generalize gv m4 h6 = oz at q5 ⊢
                cases oz with
                | bad => exact q5.elim
                | er _ _ => exact q5.elim
                | ok z7 h7 =>
                  intro ρ7 H7 v7 e7 r7 rv7
                  dsimp only at q5
                  have q6 := q5.ext e7
                  have a7 := e7.at (e6.at (e5.at (e3.at (e2.at a0))))
                  cases gd : h7.get d with
                  | none => rw [gd] at q6; exact q6.elim
                  | some od =>
                    rw [gd] at q6
                    cases od with
                    | dic kvs =>
                      dsimp only at q6
                      obtain ⟨ws, h8, h9⟩ := r7.obj gd a7
                      cases kk : mkey y6 with
                      | none => rw [kk] at q6; exact q6.elim
                      | some k' =>
                        rw [kk] at q6
                        dsimp only at q6
                        by_cases z : kvs.length < 1000000
                        · rw [if_pos z] at q6
                          have x8 : Ext ρ7 H7 ρ7 (upd H7 D (.dK (putK ws (kOf k') v7))) := r7.grow gd a7 _
                          have r9 : RKs kOf ⟨X.K, T⟩ ρ7 (upd H7 D (.dK (putK ws (kOf k') v7))) (dput keq kvs k' z7) (putK ws (kOf k') v7) := dput_ok (e := keq) (f := kOf) (fun a b => keq_iff) (h9.ext x8) (rv7.ext x8)
                          have r8 : HR ⟨X.K, T⟩ ρ7 (h7.set d (.dic (dput keq kvs k' z7))) (upd H7 D (.dK (putK ws (kOf k') v7))) := r7.set gd a7 ⟨_, upd_same, r9⟩
                          have s8 := (((s3.to e5 r5).to e6 r6).to e7 r7).to x8 r8
                          have e8 := ((((e2.trans e3).trans e5).trans e6).trans e7).trans x8
                          exact ⟨ws, kOf k', mkey_ok rv6 kk, h8, by rw [← h9.length, sizeLine_eq]; omega, ρ7, _, e8, s8, q6.ext x8⟩
                        · rw [if_neg z] at q6; exact q6.elim
                    | _ => exact q6.elim
        | _ => rw [g] at q2; exact q2.elim
theorem je_dc (hc : X.calm = true) (hN : X.N.Nodup) (hi : JI X T E tg iter gi) (ok : BlkOk X.N X.env.scope scope own)
    (hg : ∀ (s : Shared) (H : Hp) (C : Addr) (cl : List (Str × Addr)) (fp : List Addr), PG (X.blk s H scope (compEnvC scope cl C X.env) fp) tg (tCT X.K c))
    (ht : ∀ (s : Shared) (H : Hp) (C : Addr) (cl : List (Str × Addr)) (fp : List Addr), PTs (X.blk s H scope (compEnvC scope cl C X.env) fp) ifs (tT ⟨X.K, T⟩ E00 gt))
    (hk : ∀ (s : Shared) (H : Hp) (C : Addr) (cl : List (Str × Addr)) (fp : List Addr), JE (X.blk s H scope (compEnvC scope cl C X.env) fp) T E00 kx gk)
    (he : ∀ (s : Shared) (H : Hp) (C : Addr) (cl : List (Str × Addr)) (fp : List Addr), JE (X.blk s H scope (compEnvC scope cl C X.env) fp) T E00 vx gv)
    (hv : ∀ i ∈ c.slots, i ∈ own.map (·.2)) (hs : ∀ x, foldedSetIterable iter X.env x = pure x := by intro _; rfl) :
    JE X T E (.DictComp kx vx [⟨tg, iter, ifs, 0⟩] scope pos) (gDc gi c gt gk gv (own.map (·.2))) := by
  exact PE.le (pe_dc (tk := tE ⟨X.K, T⟩ E00 gk) (tv := tE ⟨X.K, T⟩ E00 gv) hc hN hi ok hg ht hk he hs) (dc_le hv)
end
section
variable {X : Cx} {T : Nat → Addr} {E : XK} {kx vx tg iter : Expr} {ifs : List Expr} {scope : Scope} {pos : Pos} {gi : MI1} {c : CT} {gt : MT} {gk gv : ME} {ow : List Nat}
theorem je_dcA (own : List (Str × Nat)) (how : own.map (·.2) = ow) (hc : X.calm = true) (hN : X.N.Nodup) (hi : JI X T E tg iter gi) (ok : BlkOk X.N X.env.scope scope own)
    (hg : ∀ (s : Shared) (H : Hp) (C : Addr) (cl : List (Str × Addr)) (fp : List Addr), PG (X.blk s H scope (compEnvC scope cl C X.env) fp) tg (tCT X.K c))
    (ht : ∀ (s : Shared) (H : Hp) (C : Addr) (cl : List (Str × Addr)) (fp : List Addr), PTs (X.blk s H scope (compEnvC scope cl C X.env) fp) ifs (tT ⟨X.K, T⟩ E00 gt))
    (hk : ∀ (s : Shared) (H : Hp) (C : Addr) (cl : List (Str × Addr)) (fp : List Addr), JE (X.blk s H scope (compEnvC scope cl C X.env) fp) T E00 kx gk)
    (he : ∀ (s : Shared) (H : Hp) (C : Addr) (cl : List (Str × Addr)) (fp : List Addr), JE (X.blk s H scope (compEnvC scope cl C X.env) fp) T E00 vx gv)
    (hv : ∀ i ∈ c.slots, i ∈ ow) (hs : ∀ x, foldedSetIterable iter X.env x = pure x := by intro _; rfl) :
    JE X T E (.DictComp kx vx [⟨tg, iter, ifs, 0⟩] scope pos) (gDc gi c gt gk gv ow) := by
  subst how
  exact je_dc hc hN hi ok hg ht hk he hv hs
end
section
variable {X : Cx} {T : Nat → Addr} {E : XK} {a b : Expr} {ga gb : ME} {pos : Pos}
end
end MI
set_option Elab.async false
set_option linter.all false
set_option maxRecDepth 100000
set_option maxHeartbeats 4000000
namespace MI
open PySem PySem.Spec PyProof.Rows L2 JB
section
variable {X : Cx}
end
section
variable {X : Cx} {T : Nat → Addr} {E : XK} {a b : Expr} {ga gb : ME} {pos : Pos}
end
end MI
namespace MI
open PySem PySem.Spec PyProof.Rows L2 JB
section
variable {X : Cx}
end
end MI
set_option Elab.async false
set_option linter.all false
set_option maxRecDepth 100000
set_option maxHeartbeats 4000000
namespace MI
open PySem PySem.Spec PyProof.Rows L2 JB
section
variable {X : Cx}
end
section
variable {X : Cx} {T : Nat → Addr} {E : XK} {a b : Expr} {ga gb : ME} {pos : Pos}
end
end MI
set_option Elab.async false
set_option linter.all false
set_option maxRecDepth 100000
set_option maxHeartbeats 4000000
namespace MI
open PySem PySem.Spec PyProof.Rows L2 JB
def lRev (x : MV) (xs : List MV) (h : MH) : Out MV := match x, xs with
  | .ref i, [] => match h.get i with
    | some (.lst l) => .ok .non (h.set i (.lst l.reverse))
    | _ => .bad
  | _, _ => .bad
theorem RVs.rev {Z : Zt} {ρ : List Addr} {H : Hp} : ∀ {xs : List MV} {vs : List V}, RVs Z ρ H xs vs → RVs Z ρ H xs.reverse vs.reverse
  | _, _, .nil => .nil
  | _, _, .cons a r => by
    rw [List.reverse_cons, List.reverse_cons]
    exact RVs.app (.cons a .nil) (RVs.rev r)
theorem mm_rev {Z : Zt} {E : XK} : MethM Z E lRev rReverse := fun ρ h H x v xs vs Q R r rs q => by
  cases r with
  | @ref i a hi =>
    cases rs with
    | cons _ _ => exact q.elim
    | nil =>
      have q' : Post Z (rV Z) ρ H Q E (match h.get i with
        | some (.lst l) => .ok .non (h.set i (.lst l.reverse))
        | _ => .bad) := q
      cases g : h.get i with
      | none => rw [g] at q'; exact q'.elim
      | some ob =>
        rw [g] at q'
        cases ob with
        | lst l =>
          dsimp only at q'
          obtain ⟨ws, h1, h2⟩ := R.obj g hi
          have x1 : Ext ρ H ρ (upd H a (.lst ws.reverse)) := R.grow g hi _
          exact ⟨a, ws, rfl, rfl, h1, q' ρ _ .non x1 (R.set g hi ⟨_, upd_same, (RVs.rev h2).ext x1⟩) .non⟩
        | _ => exact q'.elim
  | _ => cases rs <;> exact q.elim
end MI
set_option Elab.async false
set_option linter.all false
set_option maxRecDepth 100000
set_option maxHeartbeats 4000000
namespace MI
open PySem PySem.Spec PyProof.Rows L2 JB
section
variable {X : Cx}
end
section
variable {X : Cx} {T : Nat → Addr} {E : XK} {a b : Expr} {ga gb : ME} {pos : Pos}
end
end MI
set_option Elab.async false
set_option linter.all false
set_option maxRecDepth 100000
set_option maxHeartbeats 4000000
namespace MI
open PySem PySem.Spec PyProof.Rows L2 JB
section
variable {X : Cx} {T : Nat → Addr} {E : XK} {e : Expr} {pk : ML → MH → Option Nat} {g1 g2 : ME}
end
end MI
set_option Elab.async false
set_option linter.all false
set_option maxRecDepth 100000
set_option maxHeartbeats 4000000
namespace MI
open PySem PySem.Spec PyProof.Rows L2 JB
section
variable {X : Cx} {body : List Stmt} {h₀ : ExceptHandler} {hds : List ExceptHandler} {pos : Pos} {tb : TS}
end
section
variable {X : Cx} {T : Nat → Addr} {E : XK} {body : List Stmt} {h₀ : ExceptHandler} {hds : List ExceptHandler} {pos : Pos} {gb : MS}
end
end MI
set_option Elab.async false
set_option linter.all false
set_option maxRecDepth 100000
set_option maxHeartbeats 4000000
namespace MI
open PySem PySem.Spec PyProof.Rows L2 JB
def gAugM (i : Nat) (f : MV → MV → MH → Out MV) (a : ME) : MS := fun m h => match m[i]? with
  | some (some x) => (a m h).bindS fun y h1 => (f x y h1).bindS fun z h2 => .nx (m.set i (some z)) h2
  | _ => .bad
section
variable {X : Cx} {T : Nat → Addr} {E : XK} {e : Expr} {ge : ME} {pos pos' : Pos} {x : Str} {i : Nat}
theorem js_augM {op : Operator} {r : R2} {f : MV → MV → MH → Out MV} (ho : OpR X (inplaceOp op) r) (o : OpM ⟨X.K, T⟩ E f r) (hN : X.N.Nodup) (hi : X.N[i]? = some x) (hx : Loc X.env.scope x) (he : JE X T E e ge)
    (hf : X.fn x = true ∨ X.env.scope.names.lookup x = some .local := by first | exact .inl rfl | exact .inr rfl | assumption) : JS X T E (.AugAssign (.Name x pos') op e pos) (gAugM i f ge) :=
  PS.le (ps_aug (ti := r) hN hi hx he ho hf) fun D σ H ⟨ρ, m, h, s, q⟩ => by
    unfold gAugM at q
    cases k : m[i]? with
    | none => rw [k] at q; exact q.elim
    | some ov =>
      cases ov with
      | none => rw [k] at q; exact q.elim
      | some xv =>
        rw [k] at q
        obtain ⟨v, k1, k2⟩ := s.slot i xv k
        refine ⟨v, k1, sE s q fun ρ1 h1 H1 y w s1 e1 r1 q1 => ?_⟩
        refine o ρ1 h1 H1 xv y v w _ s1.hr (k2.ext e1) r1 ?_
        exact (PostS.bind (R := rV _) q1).mono fun b H' ⟨ρ2, h2, a, e2, r2, q2, z⟩ => z ρ2 H' _ .refl ((s1.to e2 r2).set i q2)
end
end MI
set_option Elab.async false
set_option linter.all false
set_option maxRecDepth 100000
set_option maxHeartbeats 4000000
namespace MI
open PySem PySem.Spec PyProof.Rows L2 JB
def aField (K : PySem.W.Frag) (to : TE) (f : Str) : TG := fun v σ H Q => to σ H fun x H1 => ∃ a C dx fs, x = .ref a ∧ H1 a = some (.ins C dx fs) ∧ Cls K C ∧ NoAttr K C f ∧ fs.length < 1000 ∧ Q σ (upd H1 a (.ins C dx (putF f v fs)))
abbrev MGs := List MV → ML → MH → SO
def gtNil : MGs := fun xs m h => match xs with
  | [] => .nx m h
  | _ => .bad
def gtCons (g : MG) (r : MGs) : MGs := fun xs m h => match xs with
  | x :: ys => (g x m h).only.next (r ys)
  | [] => .bad
def tgMany (n : Nat) (gs : MGs) : MG := fun x m h => match seqOf h x with
  | some xs => if xs.length = n then gs xs m h else .bad
  | none => .bad
def tgField (cs : List Nat) (f : Nat) (o : ME) : MG := fun y m h => (o m h).bindS fun x h1 => match x with
  | .ref i => match h1.get i with
    | some (.ins c fs) => if cs.contains c = true ∧ fs.length < 900 then .nx m (h1.set i (.ins c (mput f y fs))) else .bad
    | _ => .bad
  | _ => .bad
def tGs (Z : Zt) (E : XK) (g : MGs) : TGs := fun vs σ H Q => ∃ ρ m h xs, SR Z ρ m h σ H ∧ RVs Z ρ H xs vs ∧ PostS Z ρ H { nx := Q, rt := fun _ _ => False } E (g xs m h)
abbrev JGs (X : Cx) (T : Nat → Addr) (E : XK) (es : List Expr) (g : MGs) : Prop := PGs X es (tGs ⟨X.K, T⟩ E g)
theorem PGs.le {X : Cx} {es : List Expr} {t t' : TGs} (p : PGs X es t) (k : ∀ v σ H Q, t' v σ H Q → t v σ H Q) : PGs X es t' := ⟨fun pins s σ H v u Q I r h => p.run pins s σ H v u Q I r (k v σ H Q h)⟩
section
variable {X : Cx} {T : Nat → Addr} {E : XK} {e o : Expr} {es : List Expr} {pos : Pos} {g : MG} {gs : MGs} {go : ME} {f : Str} {fi : Nat} {cs : List Nat} {to : TE}
theorem pg_field (ho : PE X o to) : PG X (.Attribute o f pos) (aField X.K to f) := by
  refine ⟨fun pins s σ H v u Q I r h => PySem.W.kas_attr ?_⟩
  refine thn (ho.run pins s σ H _ I h) fun w s1 ⟨x, H1, I1, rx, a, C, dx, fs, ex, ea, c, n, l, q⟩ => ?_
  subst ex
  obtain rfl : w = Value.ref a := rx
  exact setattr_ok I1 ea c n l r fun s2 I2 => ⟨σ, _, I2, q⟩
theorem jgs_nil : JGs X T E [] gtNil := PGs.le pgs_nil fun vs σ H Q ⟨ρ, m, h, xs, s, r, q⟩ => by
  cases r with
  | nil => exact ⟨rfl, q ρ H σ .refl s⟩
  | cons _ _ => exact q.elim
theorem jgs_cons (h1 : JG X T E e g) (h2 : JGs X T E es gs) (hs : (assignEach (e :: es) X.env).map (·.2) = assign e X.env :: (assignEach es X.env).map (·.2) := by rfl) : JGs X T E (e :: es) (gtCons g gs) :=
  PGs.le (pgs_cons h1 h2 hs) fun vs σ H Q ⟨ρ, m, h, xs, s, r, q⟩ => by
    cases r with
    | nil => exact q.elim
    | @cons x v ys ws a r =>
      refine ⟨v, ws, rfl, ρ, m, h, x, s, a, ?_⟩
      have q' : PostS ⟨X.K, T⟩ ρ H { nx := Q, rt := fun _ _ => False } E ((g x m h).only.next (gs ys)) := q
      revert q'
      cases g x m h with
      | nx m' h' => exact fun q ρ1 H1 σ1 e1 s1 => ⟨ρ1, m', h', ys, s1, r.ext e1, PostS.ext q e1⟩
      | er x' h' => exact fun q => q
      | bad => exact fun q => q.elim
      | rt _ _ => exact fun q => q.elim
      | bk _ _ => exact fun q => q.elim
      | ct _ _ => exact fun q => q.elim
theorem jg_many {k n : Nat} (hc : X.calm = true) (h : JGs X T E es gs) (hn : (assignEach es X.env).length = n := by rfl) (hst : (assignEach es X.env).findIdx? (·.1) = none := by rfl) : JG X T E (.Tuple es k pos) (tgMany n gs) :=
  PG.le (PG.or (pg_tup hc h hn hst) (pg_unl hc h hn hst)) fun v σ H Q ⟨ρ, m, h, x, s, r, q⟩ => by
    unfold tgMany at q
    cases g : seqOf h x with
    | none => rw [g] at q; exact q.elim
    | some xs =>
      rw [g] at q
      dsimp only at q
      by_cases z : xs.length = n
      · rw [if_pos z] at q
        obtain ⟨a, vs, rfl, r2, hq⟩ := seqOf_or s.hr r g
        have hl : vs.length = n := by rw [← r2.length]; exact z
        have fin : tGs ⟨X.K, T⟩ E gs vs σ H Q := ⟨ρ, m, h, xs, s, r2, q⟩
        rcases hq with hq | hq
        · exact .inr ⟨a, vs, rfl, hq, hl, fin⟩
        · exact .inl ⟨a, vs, rfl, hq, hl, fin⟩
      · rw [if_neg z] at q; exact q.elim
theorem jg_field (ho : JE X T E o go) (k : FldOk X.K T cs fi) (hf : f = nm fi := by rfl) : JG X T E (.Attribute o f pos) (tgField cs fi go) :=
  PG.le (pg_field ho) fun v σ H Q ⟨ρ, m, h, y, s, r, q⟩ => by
    unfold tgField at q
    refine sE s q fun ρ2 h2 H2 x w s2 e2 r2 q2 => ?_
    cases r2 with
    | @ref i a hi =>
      dsimp only at q2
      cases g : h2.get i with
      | none => rw [g] at q2; exact q2.elim
      | some ob =>
        rw [g] at q2
        cases ob with
        | ins c fs =>
          dsimp only at q2
          by_cases z : cs.contains c = true ∧ fs.length < 900
          · rw [if_pos z] at q2
            obtain ⟨dx, vs, h3, h4⟩ := s2.hr.obj g hi
            obtain ⟨k1, k2⟩ := k c (by simpa using z.1)
            subst hf
            refine ⟨a, T c, dx, vs, rfl, h3, k1, k2, by rw [← h4.length]; omega, ?_⟩
            have x1 := s2.hr.grow g hi (.ins (T c) dx (putF (nm fi) v vs))
            exact q2 ρ2 _ _ x1 (s2.to x1 (s2.hr.set g hi ⟨dx, _, upd_same, (h4.ext x1).put ((r.ext e2).ext x1)⟩))
          · rw [if_neg z] at q2; exact q2.elim
        | _ => exact q2.elim
    | _ => exact q2.elim
end
def gLItems (a : ME) : ME := fun m h => (a m h).bind fun x h1 => match x with
  | .ref j => match h1.get j with
    | some (.dic kvs) => .ok (.ref h1.n) (h1.push (.lst (kvs.map fun p => .tup [mOfK p.1, p.2])))
    | _ => .bad
  | _ => .bad
end MI
set_option Elab.async false
set_option linter.all false
set_option maxRecDepth 100000
set_option maxHeartbeats 4000000
namespace MI
open PySem PySem.Spec PyProof.Rows L2 JB
section
variable {Z : Zt} {ρ : List Addr} {h : MH} {H H' : Hp}
theorem Ext.pushK {p : Addr} (hk : ∀ b o, H b = some o → H' b = some o) (hp : H p = none) : Ext ρ H (ρ ++ [p]) H' :=
  ⟨⟨[p], rfl, fun a ha => by rw [List.mem_singleton.mp ha]; exact hp⟩, fun a o e _ => hk a o e, fun a e => by
    cases g : H a with
    | none => rfl
    | some o => rw [hk a o g] at e; cases e⟩
theorem HR.pushK (R : HR Z ρ h H) {p : Addr} {o : MO} (hk : ∀ b o, H b = some o → H' b = some o) (hp : H p = none) (ho : OR Z (ρ ++ [p]) H' p o) : HR Z (ρ ++ [p]) (h.push o) H' := by
  refine ⟨?_, ?_, fun i o' e => ?_, fun i hi => ?_⟩
  · refine List.nodup_append.mpr ⟨R.nodup, by simp, fun a ha b hb => ?_⟩
    obtain ⟨i, hi, rfl⟩ := List.getElem_of_mem ha
    obtain rfl : b = p := by simpa using hb
    obtain ⟨o', e⟩ := Option.isSome_iff_exists.mp (R.has i (by rw [← R.len]; exact hi))
    obtain ⟨a', h1, h2⟩ := R.all i o' e
    obtain ⟨u', h3⟩ := h2.some
    rw [List.getElem?_eq_getElem hi] at h1
    cases h1
    exact ne_of_none h3 hp
  · show (ρ ++ [p]).length = h.n + 1
    rw [List.length_append, R.len]; rfl
  · rw [MH.get_push] at e
    by_cases hi : i = h.n
    · rw [if_pos hi] at e
      cases e
      subst hi
      exact ⟨p, by rw [← R.len]; simp, ho⟩
    · rw [if_neg hi] at e
      obtain ⟨a, h1, h2⟩ := R.all i o' e
      obtain ⟨u', h3⟩ := h2.some
      exact ⟨a, (Ext.pushK hk hp).at h1, h2.ext (Ext.pushK hk hp) ((hk a u' h3).trans h3.symm)⟩
  · rw [MH.get_push]
    by_cases e : i = h.n
    · rw [if_pos e]; rfl
    · rw [if_neg e]; exact R.has i (by have : i < h.n + 1 := hi; omega)
theorem rvs_items {ρ : List Addr} {H : Hp} : ∀ {ts : List Addr} {vs : List (Key × V)} {kvs : List (MK × MV)}, Paired (fun (t : Addr) (q : Key × V) => H t = some (.tup [kV q.1, q.2])) ts vs → RKs kOf Z ρ H kvs vs → RVs Z ρ H (kvs.map fun p => .tup [mOfK p.1, p.2]) (ts.map V.ref)
  | _, _, _, .nil, r => by cases r; exact .nil
  | _, _, _, .cons a t, r => by
    cases r with
    | cons b r => exact .cons (.tup a (.cons (RV.key _) (.cons b .nil))) (rvs_items t r)
end
section
variable {X : Cx} {T : Nat → Addr} {E : XK} {e : Expr} {ge : ME} {p p2 apos cpos pos pos2 : Pos}
theorem je_lItems (hc : X.calm = true) (he : JE X T E e ge) (hg : Gl X "list") (hm : X.mg "list" = none) (hbase : attributeBase e "items" X.env (eval e X.env) = eval e X.env := by rfl) (hline : (apos.endLine == cpos.line) = true := by rfl)
    (hs : starEach [.Call (.Attribute e "items" apos) [] [] cpos] X.env = (false, eval (.Call (.Attribute e "items" apos) [] [] cpos) X.env) :: starEach [] X.env := by rfl) :
    JE X T E (.Call (.Name "list" p) [.Call (.Attribute e "items" apos) [] [] cpos] [] pos) (gLItems ge) :=
  PE.le (LiI.pe_listItems hc he hg hm (by decide +kernel) hbase hline hs) fun σ H Q ⟨ρ, m, h, s, q⟩ => stepE s q fun ρ1 h1 H1 x v s1 e1 r1 q1 => by
    cases r1 with
    | @ref j a hj =>
      dsimp only at q1
      cases g : h1.get j with
      | none => rw [g] at q1; exact q1.elim
      | some ob =>
        rw [g] at q1
        cases ob with
        | dic kvs =>
          obtain ⟨vs, h3, h4⟩ := s1.hr.obj g hj
          refine ⟨a, vs, rfl, h3, fun H' pp ts k0 k1 k2 k3 k4 k5 => ?_⟩
          have x1 : Ext ρ1 H1 (ρ1 ++ [pp]) H' := Ext.pushK k0 k1
          have R2 : HR ⟨X.K, T⟩ (ρ1 ++ [pp]) (h1.push (.lst (kvs.map fun p => .tup [mOfK p.1, p.2]))) H' := s1.hr.pushK k0 k1 ⟨_, k4, rvs_items k5 (h4.ext x1)⟩
          have q2 := Post.ext q1 x1
          refine Post.ok q2 R2 (.ref ?_)
          rw [← s1.hr.len]; simp
        | _ => exact q1.elim
    | _ => exact q1.elim
end
end MI
namespace RL
open PySem PySem.Spec PyProof.Rows L2 RT
section
variable {prog : Program} {w : World} {A : Around} {E : Value → Shared → Prop} {s : Shared}
theorem call_list_rev {it l : Addr} {items : Array Value} {Q : Value → Shared → Prop} (hh : A.handled = none) (hit : s.heap.IsRevIter it l ((items.size : Int) - 1)) (hl : s.heap.IsList l items) (hne : l ≠ it) (hn : items.size ≤ sizeLine)
    (hQ : ∀ (h' : Heap) (tk : Nat) (acc : Array Value) (c : Nat), (∀ b o, b ≠ it → s.heap.get? b = some o → h'.get? b = some o) → h'.get? s.heap.objs.size = some { cls := .type "list", dict := none, data := .seq acc c, slots := #[] } → ItemsOf (fun i v => items[items.size - 1 - i]? = some v) acc items.size →
      Q (.ref s.heap.objs.size) { s with heap := h', toks := tk }) :
    wpAny (model prog w) A (call (.type "list") [.ref it]) Q E s := by
  refine callType_codes (Q₁ := fun obj s₁ => obj = .ref s.heap.objs.size ∧ s₁ = { s with heap := s.heap.push { cls := .type "list", data := .seq #[] } }) F.called_list (F.typeCall_list_1 _) F.entry_list_init
    (code_list_new _ ⟨rfl, rfl⟩) fun obj s₁ h₁ => ?_
  obtain ⟨rfl, rfl⟩ := h₁
  have W := (Walks.listRev (prog := prog) (w := w) (A := A.in1.in1) hh it l hne items).toS
  obtain ⟨oi, hoi, _⟩ := id hit
  obtain ⟨ol, hol, _⟩ := id hl
  have hSi : s.heap.objs.size ≠ it := Nat.ne_of_gt (Heap.lt_size hoi)
  have hSl : s.heap.objs.size ≠ l := Nat.ne_of_gt (Heap.lt_size hol)
  have hSf : s.heap.objs.size ∉ [it, l] := by simp only [List.mem_cons, List.not_mem_nil, or_false, not_or]; exact ⟨hSi, hSl⟩
  have hS₁ : (s.heap.push { cls := .type "list", data := .seq #[] }).get? s.heap.objs.size = some { cls := .type "list", data := .seq #[] } := Heap.get?_push_size _ rfl
  generalize hh2 : s.heap.push { cls := .type "list", data := .seq #[] } = h2 at hS₁ ⊢
  have k2 : ∀ b o, s.heap.get? b = some o → h2.get? b = some o := fun b o e => by rw [← hh2]; exact Heap.get?_push_of_some _ e
  have hit1 : h2.IsRevIter it l ((items.size : Int) - 1) := hit.at fun o e => k2 _ o e
  have hl1 : h2.IsList l items := by rw [← hh2]; exact hl.push _
  refine ⟨⟨_, hS₁, rfl⟩, F.args_list_init_2 _ _, ?_⟩
  show wpAny _ A.in1.in1 (do let old ← Builtin.List.listItems (.ref s.heap.objs.size); Builtin.List.listUpdate (.ref s.heap.objs.size) (fun _ => #[]); letGo old.toList.reverse; Builtin.List.listExtendWith (.ref s.heap.objs.size) (.ref it) .none) _ _ _
  refine wpAny_bind ?_
  unfold Builtin.List.listItems
  refine wpAny_bind (wpAny_seqItems hS₁ rfl (wpAny_pure ?_))
  show wpAny _ _ (updateSeq s.heap.objs.size (fun _ => #[]) >>= fun _ => letGo (#[] : Array Value).toList.reverse >>= fun _ => Builtin.List.listExtendWith (.ref s.heap.objs.size) (.ref it) .none) _ _ _
  refine wpAny_bind (wpAny_updateSeq hS₁ rfl ?_)
  have hS₂ := Heap.get?_update_self (Obj.mapSeq (fun _ => (#[] : Array Value))) hS₁ rfl
  have oth : ∀ b o, b ≠ s.heap.objs.size → h2.get? b = some o → (h2.update s.heap.objs.size (Obj.mapSeq (fun _ => (#[] : Array Value)))).get? b = some o :=
    fun b o hb e => (Heap.get?_update_other _ _ (Ne.symm hb)).trans e
  refine wpAny_bind (wpAny_letGo ?_)
  generalize hh3 : h2.update s.heap.objs.size (Obj.mapSeq (fun _ => (#[] : Array Value))) = h3 at hS₂ oth ⊢
  have hit2 : h3.IsRevIter it l ((items.size : Int) - 1) := hit1.at fun o e => oth _ o (Ne.symm hSi) e
  have hl2 : h3.IsList l items := by
    obtain ⟨o, ho, x⟩ := hl1
    exact ⟨o, oth _ o (Ne.symm hSl) ho, x⟩
  have hT : ({ s with heap := h3 } : Shared).TypeIs (.ref it) "list_reverseiterator" := Heap.IsRevIter.typeIs (s := { s with heap := h3 }) hit2
  have h1 : Builtin.List.listSameRef (.ref s.heap.objs.size) (.ref it) = false := by simp [Builtin.List.listSameRef, hSi]
  unfold Builtin.List.listExtendWith
  refine wpAny_bind (wpAny_typeOf hT ?_)
  rw [if_neg (by rw [h1]; decide)]
  refine wpAny_bind (wpAny_pyIter_revIter (s := { s with heap := h3 }) hit2 ?_)
  refine wpAny_bind (wpAny_holding ?_)
  unfold Builtin.List.listLengthHint
  refine wpAny_bind (wpAny_specialOf hT nolen_lri ?_)
  show wpAny _ A.in1.in1 (specialOf (Value.ref it) (Str.ofString "__length_hint__") >>= _) _ _ _
  refine wpAny_bind (wpAny_specialOf hT hint_lri ?_)
  generalize hid : ("list_reverseiterator.__length_hint__" : String) = id0
  wp_delta
  rw [show splitId id0 = some ("list_reverseiterator", "__length_hint__") from by subst hid; decide +kernel]
  subst hid
  refine wpAny_bind (wpAny_isInstance (b := true) hT (by rw [isSubtype_type]; kernel_rfl) ?_)
  refine wpAny_pure ?_
  rw [if_neg (by decide)]
  have e0 : ((items.size : Nat) : Int) - 1 - ((0 : Nat) : Int) = (items.size : Int) - 1 := by omega
  refine wpAny_pure ⟨plainId_quiet F.plain_extend_loop _, codeAny_extend_loopS W hn _ hSf _ items.size 0 _ _ _ rfl (Nat.zero_le _) ⟨Nat.zero_le _, by rw [e0]; exact hit2, hl2⟩ hS₂ (ItemsOf.nil _) fun s' acc' c' hm hS' hacc => ?_⟩
  refine ⟨rfl, ?_⟩
  rw [Moved.eq_with hm]
  refine hQ s'.heap s'.toks acc' c' (fun b o hb e => hm.heap b o (fun hmem => ?_) (oth b o (Nat.ne_of_lt (Heap.lt_size e)) (k2 b o e))) hS' hacc
  rcases List.mem_cons.mp hmem with e' | hmem
  · exact absurd (Heap.lt_size e) (by rw [e']; exact Nat.lt_irrefl _)
  · exact hb (List.mem_singleton.mp hmem)
end
def tLRev (K : PySem.W.Frag) (te : TE) : TE := fun σ H Q => te σ H fun v H1 => ∃ (a : Addr) (xs : List V), v = .ref a ∧ SqL K H1 a xs ∧ ∀ q, H1 q = none → Q (.ref q) (upd H1 q (.lst xs.reverse))
section
variable {X : Cx}
theorem pe_lRev {e : Expr} {te : TE} {p p2 pos pos2 : Pos} (hc : X.calm = true) (hg : Gl X "list") (hm : X.mg "list" = none) (hv : bootBuiltins "list" = some (.type "list")) (hg2 : Gl X "reversed") (hm2 : X.mg "reversed" = none) (he : PE X e te)
    (hs : starEach [e] X.env = (false, eval e X.env) :: starEach [] X.env := by rfl)
    (hs2 : starEach [.Call (.Name "reversed" p2) [e] [] pos2] X.env = (false, eval (.Call (.Name "reversed" p2) [e] [] pos2) X.env) :: starEach [] X.env := by rfl) :
    PE X (.Call (.Name "list" p) [.Call (.Name "reversed" p2) [e] [] pos2] [] pos) (tLRev X.K te) := by
  refine ⟨fun pins s σ H Q I h => ?_⟩
  refine Call_ (ld_blt I hg hm hv (PyProof.Rows.callWith_type1 (args_cons (Call_ (ld_blt I hg2 hm2 PyProof.Rows.boot_reversed (PyProof.Rows.callWith_type1 (args_cons (thn (he.run pins s σ H _ I h) fun u s1 ⟨v, H1, I1, r1, q1⟩ => args_nil ?_) hs) hs rfl))) hs2) hs2 rfl))
  obtain ⟨a, xs, ev, hq, q⟩ := q1
  subst ev
  obtain rfl : u = Value.ref a := r1
  obtain ⟨its, rv, p', hz⟩ := I1.list hq
  refine call_reversed_list p'.isList (args_nil ?_)
  have k0 : ∀ b o, s1.heap.get? b = some o → (s1.heap.push (revObj a ((its.toArray.size : Int) - 1))).get? b = some o := fun b o e => Heap.get?_push_of_some _ e
  have I2 : Inv X pins σ H1 { s1 with heap := s1.heap.push (revObj a ((its.toArray.size : Int) - 1)) } := I1.kept (t' := s1.toks) k0
  have f0 : FpOk X pins H1 s1.heap.objs.size := I1.fpOk (H' := H1) (b := s1.heap.objs.size) (Nat.le_refl _) (I1.hok.fresh (Nat.le_refl _))
  have hl := p'.isList
  obtain ⟨ol, hol, _⟩ := id hl
  have hne : a ≠ s1.heap.objs.size := Nat.ne_of_lt (Heap.lt_size hol)
  have hn : its.toArray.size ≤ sizeLine := by rw [List.size_toArray, ← rv.length]; exact hz
  refine call_list_rev (s := { s1 with heap := s1.heap.push (revObj a ((its.toArray.size : Int) - 1)) }) (I1.ok.hd hc) ⟨_, Heap.get?_push_size _ rfl, rfl, rfl⟩ (hl.push _) hne hn fun h' tk acc c hk hS hi => ?_
  have hsz : (s1.heap.push (revObj a ((its.toArray.size : Int) - 1))).objs.size = s1.heap.objs.size + 1 := Heap.size_push ..
  refine ⟨.ref _, upd H1 _ (.lst xs.reverse), I2.turnedNew (t' := tk) (ch := [s1.heap.objs.size]) (fun b o hb e => hk b o (fun z => hb (by rw [z]; simp)) e) (fun b hb => ?_) (Nat.le_refl _) (show ObjOk X.prog X.w _ _ _ (.lst xs.reverse) from ⟨by rw [List.length_reverse]; exact hz, acc.toList, c, vals_rev rv hi, ?_⟩), rfl, q _ (I2.hok.fresh (Nat.le_refl _))⟩
  · rw [List.mem_singleton.mp hb]; exact f0
  · rw [Array.toArray_toList]
    exact hS
end
end RL
namespace MI
open PySem PySem.Spec PyProof.Rows L2 JB
def gLRev (a : ME) : ME := fun m h => (a m h).bind fun x h1 => match x with
  | .ref j => match h1.get j with
    | some (.lst xs) => .ok (.ref h1.n) (h1.push (.lst xs.reverse))
    | _ => .bad
  | _ => .bad
section
variable {X : Cx} {T : Nat → Addr} {E : XK} {e : Expr} {ge : ME} {p p2 apos cpos pos pos2 : Pos}
theorem je_lRev (hc : X.calm = true) (hg : Gl X "list") (hm : X.mg "list" = none) (hg2 : Gl X "reversed") (hm2 : X.mg "reversed" = none) (he : JE X T E e ge)
    (hs : starEach [e] X.env = (false, eval e X.env) :: starEach [] X.env := by rfl)
    (hs2 : starEach [.Call (.Name "reversed" p2) [e] [] pos2] X.env = (false, eval (.Call (.Name "reversed" p2) [e] [] pos2) X.env) :: starEach [] X.env := by rfl) :
    JE X T E (.Call (.Name "list" p) [.Call (.Name "reversed" p2) [e] [] pos2] [] pos) (gLRev ge) :=
  PE.le (RL.pe_lRev hc hg hm (by decide +kernel) hg2 hm2 he hs hs2) fun σ H Q ⟨ρ, m, h, s, q⟩ => stepE s q fun ρ1 h1 H1 x v s1 e1 r1 q1 => by
    cases r1 with
    | @ref j a hj =>
      dsimp only at q1
      cases g : h1.get j with
      | none => rw [g] at q1; exact q1.elim
      | some ob =>
        rw [g] at q1
        cases ob with
        | lst xs =>
          obtain ⟨vs, h3, h4⟩ := s1.hr.obj g hj
          refine ⟨a, vs, rfl, .inl (.inl h3), fun pp hp => ?_⟩
          have x1 : Ext ρ1 H1 (ρ1 ++ [pp]) (upd H1 pp (.lst vs.reverse)) := Ext.push hp
          refine Post.ok (Post.ext q1 x1) (s1.hr.push hp ⟨_, upd_same, h4.rev.ext x1⟩) (.ref ?_)
          rw [← s1.hr.len]; simp
        | _ => exact q1.elim
    | _ => exact q1.elim
end
end MI
set_option Elab.async false
set_option linter.all false
set_option maxRecDepth 100000
set_option maxHeartbeats 4000000
namespace MI
open PySem PySem.Spec PyProof.Rows L2 JB
section
variable {X : Cx}
abbrev SetK1 (w : World) (D : Addr) (F : Hp → (Int → Bool) → Nat → Prop) (H : Hp) (k : Int) : Prop :=
  ∃ (S : Int → Bool) (n : Nat), H D = some (SetO w D S n) ∧ n + 1 < scanBound ∧ F (upd H D (SetO w D (fun j => S j || decide (j = k)) (if S k = true then n else n + 1))) (fun j => S j || decide (j = k)) (if S k = true then n else n + 1)
def tSi (w : World) (wi : TI) (g : TG) (tt : TT) (te : TE) (vs : List Nat) : TE := fun σ H Q => wi σ H fun J H1 => ∀ D, H1 D = none → ∃ W : Nat → Nat → Hp → Prop, (∃ m, W 0 m (upd H1 D (SetO w D (fun _ => false) 0))) ∧
  ∀ i m H, W i m H → (J.stop i H ∧ Q (.ref D) H) ∨ (J.go i H ∧ ∀ x H', J.yld i H x H' → g x (wipe σ vs) H' fun σ2 H2 => wipe σ2 vs = wipe σ vs ∧ tt σ2 H2 fun b H3 =>
    if b = true then te σ2 H3 fun y H4 => ∃ k, y = .int k ∧ SetK1 w D (fun H5 _ _ => ∃ m', m' < m ∧ W (i + 1) m' H5) H4 k else ∃ m', m' < m ∧ W (i + 1) m' H3)
theorem addI_ok {pins : List (Addr × Obj)} {σ : L2.St} {H : Hp} {s : Shared} {E : Value → Shared → Prop} {D : Addr} {k : Int} {u : Value} {F : Hp → Prop} {Q : Value → Shared → Prop} (I : Inv X pins σ H s) (hu : RelV (.int k) u) (h : SetK1 X.w D (fun H5 _ _ => F H5) H k)
    (hq : ∀ H' s', Inv X pins σ H' s' → F H' → Q .none s') : wpAny (model X.prog X.w) X.A (call (.builtin "set.add") [.ref D, u]) Q E s := by
  obtain ⟨S, n, hD, room, hf⟩ := h
  obtain ⟨tk, rfl⟩ := hu
  refine setR_add (setO_get I hD) room fun h' sb new => ?_
  have he : ∃ o, h'.get? D = some o := by
    obtain ⟨o, _, _, _, ho, _⟩ := new
    exact ⟨o, ho⟩
  exact hq _ _ (I.write (e := D) (t' := s.toks + 1) (by rw [hD]; trivial) (.inl rfl) (fun b u hb hu => (sb.2 b hb).trans hu) he (setO_new new)) hf
theorem pe_si {elt tg iter : Expr} {ifs : List Expr} {scope : Scope} {own : List (PySem.Str × Nat)} {pos : Pos} {wi : TI} {g : TG} {tt : TT} {te : TE} (hc : X.calm = true) (hN : X.N.Nodup) (hi : PI X tg iter wi) (ok : BlkOk X.N X.env.scope scope own)
    (hg : ∀ (s : Shared) (H : Hp) (C : Addr) (cl : List (PySem.Str × Addr)) (fp : List Addr), PG (X.blk s H scope (compEnvC scope cl C X.env) fp) tg g)
    (ht : ∀ (s : Shared) (H : Hp) (C : Addr) (cl : List (PySem.Str × Addr)) (fp : List Addr), PTs (X.blk s H scope (compEnvC scope cl C X.env) fp) ifs tt)
    (he : ∀ (s : Shared) (H : Hp) (C : Addr) (cl : List (PySem.Str × Addr)) (fp : List Addr), PE (X.blk s H scope (compEnvC scope cl C X.env) fp) elt te) (hs : ∀ x, foldedSetIterable iter X.env x = pure x := by intro _; rfl) :
    PE X (.SetComp elt [⟨tg, iter, ifs, 0⟩] scope pos) (tSi X.w wi g tt te (own.map (·.2))) := by
  refine ⟨fun pins s σ H Q I h => ?_⟩
  rw [PpSet.eval_SetComp]
  have hfree : ∀ y ∈ scope.names, y.2 = .free → ∃ c, X.env.cells.lookup y.1 = some c := fun y hy e => (ok.free y hy e).elim (fun k => I.ok.has _ (.inl k)) fun k => I.ok.has _ (.inr k)
  refine wpAny_comprehension_free rfl hs (closure_ok hfree) ok.kind (fun y hy e => by rw [ok.uniq y hy, e]) (thn (hi.run pins s σ H _ I h) fun xv s1 hx => thn hx fun itv s2 h2 => ?_)
  obtain ⟨it, fp, tn, J, H2, rfl, I2, T, st2, f2, q⟩ := h2
  refine PpSet.newSet_ok (newEnv_comp ?_)
  generalize hD : s2.heap.objs.size = D
  obtain ⟨W, ⟨m0, w0⟩, turn⟩ := q D (I2.hok.fresh (Nat.le_of_eq hD))
  -- the new set is laid, then the block begins
  generalize hs3 : ({ s2 with heap := s2.heap.push { cls := .type "set", dict := none, data := .set #[] 0 (.fresh 0 0 (!X.w.params.followText "set-order")) } } : Shared) = s3
  generalize hH3 : upd H2 D (SetO X.w D (fun _ => false) 0) = H3 at w0
  have k3 : ∀ b o, s2.heap.get? b = some o → s3.heap.get? b = some o := fun b o e => by rw [← hs3]; exact Heap.get?_push_of_some _ e
  have z3 : s3.heap.objs.size = s2.heap.objs.size + 1 := by rw [← hs3]; exact Heap.size_push ..
  have I3 : Inv X pins σ H3 s3 := by
    rw [← hs3, ← hH3]
    refine I2.laid (t' := s2.toks) (fun b o e => Heap.get?_push_of_some _ e) (Nat.le_of_eq hD) ?_
    rw [← hD]
    exact setO_new (setR_fresh X.w)
  have f3 : ∀ b ∈ fp, FpOk X pins H3 b ∧ b < s3.heap.objs.size := fun b hb => by
    obtain ⟨o, e, _⟩ := T.obj _ _ st2 b hb
    have lt := Heap.lt_size e
    exact ⟨⟨by rw [← hH3, upd_ne (by rw [← hD]; exact Nat.ne_of_lt lt)]; exact (f2 b hb).1, (f2 b hb).2⟩, by rw [z3]; exact Nat.lt_succ_of_lt lt⟩
  have st3 : tn 0 s3.heap := T.keep _ _ _ st2 fun b _ o e => k3 b o e
  have I4 := block_start I3 ok hN f3
  generalize hcl : cellsFrom (s3.heap.objs.size + 1) scope.names (cloFrom X.env.cells scope.names []) = cl at I4 ⊢
  generalize hC : s3.heap.objs.size = C at I4 ⊢
  have pg := hg s3 H3 C cl fp
  have pt := ht s3 H3 C cl fp
  have pe := he s3 H3 C cl fp
  have cL : (compEnvC scope cl C X.env).locals = C := rfl
  show codeAny _ _ (.compStart (.SetComp elt [⟨tg, iter, ifs, 0⟩] scope pos) 0 (.ref it) (.ref D) (compEnvC scope cl C X.env)) (compPost (model X.prog X.w) X.A X.xe none _ (.ref D) C) { s3 with heap := pushCells (s3.heap.push { cls := .type "dict", data := .dict #[] }) scope.names }
  generalize compEnvC scope cl C X.env = ce at I4 pg pt pe cL ⊢
  generalize hs4 : ({ s3 with heap := pushCells (s3.heap.push { cls := .type "dict", data := .dict #[] }) scope.names } : Shared) = s4 at I4 ⊢
  have st4 : tn 0 s4.heap := T.keep _ _ _ st3 fun b _ o e => by rw [← hs4]; exact pushCells_keeps _ _ _ _ (Heap.get?_push_of_some _ e)
  have stat : ∀ {σ' : L2.St} {H' : Hp} {s' : Shared}, Inv (X.blk s3 H3 scope ce fp) [] σ' H' s' → (∀ b ∈ fp, H' b = none) → ∀ b ∈ fp, FpOk (X.blk s3 H3 scope ce fp) [] H' b := fun {σ' H' s'} I' hn b hb =>
    ⟨hn b hb, (I'.ok.exf b hb).1, I'.ok.exfs b hb, .inl hb, fun x c e => (I'.ok.exf b hb).2 x c e, fun p hp => absurd (show p ∈ ([] : List (Addr × Obj)) ++ [] from hp) (by simp)⟩
  have loop : codeAny (model X.prog X.w) X.A (.compLoop (.SetComp elt [⟨tg, iter, ifs, 0⟩] scope pos) 0 (.ref it) (.ref D) ce) (compPost (model X.prog X.w) X.A X.xe none (fun r s' => EP X pins σ Q r s') (.ref D) C) s4 := by
    refine PpSet.compLoopS_any (fun n s' => ∃ i H', Inv (X.blk s3 H3 scope ce fp) [] (wipe σ (own.map (·.2))) H' s' ∧ tn i s'.heap ∧ (∀ b ∈ fp, H' b = none) ∧ W i n H') ?_ m0 ⟨0, H3, I4, st4, fun b hb => (f3 b hb).1.1, w0⟩
    rintro n s5 ⟨i, H5, I5, st5, n5, w5⟩
    rcases turn i n H5 w5 with ⟨stop, qq⟩ | ⟨go, step⟩
    · refine thnF (T.done (X.blk s3 H3 scope ce fp) rfl rfl rfl hc i [] s5 _ H5 (fun _ _ => False) I5 (stat I5 n5) st5 stop) fun r s6 ⟨hr, I6⟩ => ?_
      subst hr
      have I7 : Inv X pins σ H5 s6 := I3.call' (ch := fp) I6.os I6.base I6.hok I6.bare fun b hb => ⟨(f3 b hb).1.2.2.2.1, (f3 b hb).1.2.1, (f3 b hb).1.2.2.2.2.1, (f3 b hb).1.2.2.2.2.2⟩
      have nC : H5 C = none := by
        have z : H5 ce.locals = none := I6.free
        rw [cL] at z
        exact z
      obtain ⟨m, hn, _⟩ := I6.loc
      have hn : s6.heap.Ns ce.locals m := hn
      rw [cL] at hn
      obtain ⟨f0, f1, f2, f3, f4, f5⟩ := I3.fpOk (b := C) (Nat.le_of_eq hC) nC
      exact ⟨m, hn, fun h'' sb => ⟨.ref D, H5, I7.turned (t' := s6.toks) (fun b o hb e => (sb.2 b hb).trans e) f0 f1 f3 f4 f5, rfl, qq⟩⟩
    · refine thnF (T.item (X.blk s3 H3 scope ce fp) rfl rfl rfl hc i [] s5 _ H5 (fun _ _ => False) I5 (stat I5 n5) st5 go) fun r s6 ⟨u, hr, h6⟩ => ?_
      subst hr
      refine thnF h6 fun _ s7 ⟨x, H7, I7, r7, y7, st7, n7⟩ => ?_
      have I7' := I7.pinned (stat I7 n7) (T.obj _ _ st7)
      refine thnF (pg.run _ s7 _ H7 x u _ I7' r7 (step x H7 y7)) fun _ s8 ⟨σ8, H8, I8, hw8, q8⟩ => ?_
      refine thnF (pt.run _ s8 σ8 H8 _ I8 q8) fun b s9 ⟨H9, I9, q9⟩ => ?_
      have fin : ∀ {s' : Shared} {H' : Hp}, Inv (X.blk s3 H3 scope ce fp) ([] ++ pinsAt fp s7.heap) σ8 H' s' → (∃ m', m' < n ∧ W (i + 1) m' H') → ∃ m, m < n ∧ ∃ i H', Inv (X.blk s3 H3 scope ce fp) [] (wipe σ (own.map (·.2))) H' s' ∧ tn i s'.heap ∧ (∀ b ∈ fp, H' b = none) ∧ W i m H' := fun {s' H'} I' ⟨m', hm, w'⟩ => by
        have pin' : ∀ b ∈ fp, ∀ o, s7.heap.get? b = some o → s'.heap.get? b = some o ∧ H' b = none := fun b hb o e =>
          let z := I'.pin (b, o) (List.mem_append_right _ (List.mem_append_right _ (mem_pinsAt hb e)))
          ⟨z.1, z.2.1⟩
        refine ⟨m', hm, i + 1, H', (I'.unpinned (pins := [])).weak (by rw [← hw8, wipe_length]) (fun j v e => ?_), T.keep _ _ _ st7 fun b hb o e => (pin' b hb o e).1, fun b hb => ?_, w'⟩
        · rw [← hw8] at e
          exact (wipe_some e).1
        · obtain ⟨o, e, _⟩ := T.obj _ _ st7 b hb
          exact (pin' b hb o e).2
      cases b with
      | false =>
        simp only [Bool.false_eq_true, if_false] at q9 ⊢
        exact fin I9 q9
      | true =>
        simp only [if_true] at q9 ⊢
        refine thnF (pe.run _ s9 σ8 H9 _ I9 q9) fun z s10 ⟨yv, H10, I10, r10, k, ey, hk⟩ => ?_
        subst ey
        exact addI_ok (X := X.blk s3 H3 scope ce fp) I10 r10 hk fun H11 s11 I11 nx => fin I11 nx
  exact PpSet.codeAny_compStart_set loop (T.self X.A 0 _ _ _ st4 loop)
end
theorem heap_of : ∀ n : Nat, ∃ h : Heap, h.objs.size = n
  | 0 => ⟨{ objs := #[] }, rfl⟩
  | n + 1 => by
    obtain ⟨h, e⟩ := heap_of n
    exact ⟨h.push { cls := .type "object", data := .fields #[] }, by rw [Heap.size_push, e]⟩
theorem exk_ne {w : World} {D C : Addr} {d : Option Addr} {S : Int → Bool} {n : Nat} : exk D C d ≠ SetO w D S n := by
  intro e
  have e1 := HO.ext.inj e
  obtain ⟨h, hh⟩ := heap_of D
  have e2 := congrFun e1 (h.push { cls := .ref C, dict := d, data := .fields #[] })
  have k : (h.push { cls := .ref C, dict := d, data := .fields #[] }).get? D = some { cls := .ref C, dict := d, data := .fields #[] } := by
    have q := Heap.get?_push_size h (o := { cls := .ref C, dict := d, data := .fields #[] }) rfl
    rw [hh] at q
    exact q
  have e3 : SetR w (h.push { cls := .ref C, dict := d, data := .fields #[] }) D S n := e2 ▸ ⟨_, #[], k, rfl, rfl, rfl⟩
  obtain ⟨o, es, ep, t, ho, hx, hd, _⟩ := e3
  rw [k] at ho
  cases ho
  cases hd
section
variable {Z : Zt} {ρ : List Addr} {H : Hp} {D : Addr} {w : World} {S : Int → Bool} {n : Nat} {u : HO}
theorem of_set (k : H D = some (SetO w D S n)) {a : Addr} {o : HO} (h : H a = some o) (ne : ∀ φ, o ≠ .ext φ) : upd H D u a = some o := by
  rw [upd_ne]; exact h
  intro z; subst z; rw [k] at h; cases h; exact ne _ rfl
mutual
theorem RV.off (k : H D = some (SetO w D S n)) {x : MV} {v : V} : RV Z ρ H x v → RV Z ρ (upd H D u) x v
  | .non => .non
  | .bl b => .bl b
  | .int n => .int n
  | .str s => .str s
  | .ty s => .ty s
  | .adr a => .adr a
  | .ref h => .ref h
  | .tup h r => .tup (of_set k h (by intro _ z; cases z)) (RVs.off k r)
  | .ktp h r => .ktp h (RVs.off k r)
  | .fls h r => .fls (h.imp (fun ⟨o, h⟩ => ⟨o, of_set k h (by intro _ z; cases z)⟩) id) (RVs.off k r)
  | .err h z r => .err (by
      rw [upd_ne]; exact h
      intro z; subst z; rw [k] at h; exact exk_ne (Option.some.inj h).symm) (z.imp id fun ⟨dx, h1, h2, h3⟩ => ⟨dx, h1, of_set k h2 (by intro _ z; cases z), h3⟩) (RVs.off k r)
theorem RVs.off (k : H D = some (SetO w D S n)) {x : List MV} {v : List V} : RVs Z ρ H x v → RVs Z ρ (upd H D u) x v
  | .nil => .nil
  | .cons h r => .cons (RV.off k h) (RVs.off k r)
end
theorem RKs.off {κ κ' : Type} {f : κ → κ'} (k : H D = some (SetO w D S n)) {x : List (κ × MV)} {v : List (κ' × V)} (h : RKs f Z ρ H x v) : RKs f Z ρ (upd H D u) x v := by
  induction h with
  | nil => exact .nil
  | cons r _ ih => exact .cons (RV.off k r) ih
theorem OR.off {b : Addr} {o : MO} (k : H D = Option.some (SetO w D S n)) (h : OR Z ρ H b o) : OR Z ρ (upd H D u) b o := by
  cases o with
  | lst xs => obtain ⟨vs, h1, h2⟩ := h; exact ⟨vs, of_set k h1 (by intro _ z; cases z), RVs.off k h2⟩
  | dic xs => obtain ⟨vs, h1, h2⟩ := h; exact ⟨vs, of_set k h1 (by intro _ z; cases z), RKs.off k h2⟩
  | dit xs => obtain ⟨vs, h1, h2⟩ := h; exact ⟨vs, of_set k h1 (by intro _ z; cases z), RKs.off k h2⟩
  | ins C fs => obtain ⟨dx, vs, h1, h2⟩ := h; exact ⟨dx, vs, of_set k h1 (by intro _ z; cases z), RKs.off k h2⟩
  | fdi xs => obtain ⟨o, vs, h1, h2⟩ := h; exact ⟨o, vs, of_set k h1 (by intro _ z; cases z), RKs.off k h2⟩
theorem HR.off {h : MH} (R : HR Z ρ h H) (k : H D = some (SetO w D S n)) : HR Z ρ h (upd H D u) :=
  ⟨R.nodup, R.len, fun i o e => by
    obtain ⟨a, h1, h2⟩ := R.all i o e
    exact ⟨a, h1, MI.OR.off (H := H) k h2⟩, R.has⟩
theorem Ext.off {ρ0 : List Addr} {H0 : Hp} (e : Ext ρ0 H0 ρ H) (nn : H0 D = none) : Ext ρ0 H0 ρ (upd H D u) :=
  ⟨e.pre, fun a o h s => by rw [upd_ne (ne_of_none h nn)]; exact e.hold a o h s, fun a q => e.mono a (upd_none q)⟩
end
def add1 (k : Int) : List Int → List Int
  | [] => [k]
  | x :: r => if k < x then k :: x :: r else if k = x then x :: r else x :: add1 k r
theorem add1_mem {k j : Int} : ∀ {l : List Int}, j ∈ add1 k l ↔ j = k ∨ j ∈ l
  | [] => by simp [add1]
  | x :: r => by
    unfold add1
    split
    · simp
    · split
      · rename_i h; subst h; simp
      · rw [List.mem_cons, add1_mem, List.mem_cons]
        constructor
        · rintro (h | h | h) <;> simp [h]
        · rintro (h | h | h) <;> simp [h]
theorem add1_pw {k : Int} : ∀ {l : List Int}, l.Pairwise (· < ·) → (add1 k l).Pairwise (· < ·)
  | [], _ => by simp [add1]
  | x :: r, h => by
    obtain ⟨h1, h2⟩ := List.pairwise_cons.mp h
    unfold add1
    split
    · rename_i hk
      refine List.pairwise_cons.mpr ⟨fun y hy => ?_, h⟩
      rcases List.mem_cons.mp hy with rfl | hy
      · exact hk
      · exact Int.lt_trans hk (h1 y hy)
    · split
      · exact h
      · refine List.pairwise_cons.mpr ⟨fun y hy => ?_, add1_pw h2⟩
        rcases add1_mem.mp hy with rfl | hy
        · omega
        · exact h1 y hy
theorem add1_len {k : Int} : ∀ {l : List Int}, l.Pairwise (· < ·) → (add1 k l).length = if k ∈ l then l.length else l.length + 1
  | [], _ => by simp [add1]
  | x :: r, h => by
    obtain ⟨h1, h2⟩ := List.pairwise_cons.mp h
    unfold add1
    split
    · rename_i hk
      have : k ∉ x :: r := fun hm => by
        rcases List.mem_cons.mp hm with rfl | hm
        · omega
        · have := h1 k hm; omega
      rw [if_neg this]; rfl
    · split
      · rename_i hk hx; rw [if_pos (by rw [hx]; exact List.mem_cons_self)]
      · rename_i hk hx
        rw [List.length_cons, add1_len h2]
        by_cases hm : k ∈ r
        · rw [if_pos hm, if_pos (List.mem_cons_of_mem _ hm)]; rfl
        · rw [if_neg hm, if_neg (by simp [hx, hm])]; rfl
theorem asc_uniq : ∀ {l l' : List Int}, l.Pairwise (· < ·) → l'.Pairwise (· < ·) → (∀ k, k ∈ l ↔ k ∈ l') → l = l'
  | [], [], _, _, _ => rfl
  | [], y :: s, _, _, h => absurd ((h y).mpr List.mem_cons_self) (by simp)
  | x :: r, [], _, _, h => absurd ((h x).mp List.mem_cons_self) (by simp)
  | x :: r, y :: s, p, p', h => by
    obtain ⟨p1, p2⟩ := List.pairwise_cons.mp p
    obtain ⟨q1, q2⟩ := List.pairwise_cons.mp p'
    have e : x = y := by
      rcases List.mem_cons.mp ((h x).mp List.mem_cons_self) with e | e
      · exact e
      · rcases List.mem_cons.mp ((h y).mpr List.mem_cons_self) with e' | e'
        · exact e'.symm
        · have a1 := q1 x e; have a2 := p1 y e'; omega
    subst e
    refine congrArg _ (asc_uniq p2 q2 fun k => ?_)
    constructor
    · intro hk
      rcases List.mem_cons.mp ((h k).mp (List.mem_cons_of_mem _ hk)) with e | e
      · subst e; have := p1 k hk; omega
      · exact e
    · intro hk
      rcases List.mem_cons.mp ((h k).mpr (List.mem_cons_of_mem _ hk)) with e | e
      · subst e; have := q1 k hk; omega
      · exact e
def gSiN (it : It1) (c : CT) (t : MT) (e : ME) (mw : ML) : Nat → Nat → List Int → MH → Out (List Int)
  | 0, _, _, _ => .bad
  | n + 1, i, S, h => match it.at_ i h with
    | none => .bad
    | some none => .ok S h
    | some (some x) => match c.set x mw h with
      | .nx m1 h1 => match t m1 h1 with
        | .ok true h2 => match e m1 h2 with
          | .ok (.int k) h3 => if S.length < 60 then gSiN it c t e mw n (i + 1) (add1 k S) h3 else .bad
          | _ => .bad
        | .ok false h2 => gSiN it c t e mw n (i + 1) S h2
        | _ => .bad
      | _ => .bad
def sOut : Out (List Int) → Out MV
  | .ok S h2 => .ok (.ref h2.n) (h2.push (.lst (S.map .int)))
  | _ => .bad
def gSortC (i : MI1) (c : CT) (t : MT) (e : ME) (own : List Nat) : ME := fun m h => (i m h).bind fun it h1 => sOut (gSiN it c t e (mwipe m own) (it.size h1 + 1) 0 [] h1)
theorem setO_eq {w : World} {D : Addr} {f g : Int → Bool} {n k : Nat} (h : ∀ j, f j = g j) (e : n = k) : SetO w D f n = SetO w D g k := by
  rw [show f = g from funext h, e]
theorem rvs_ints {Z : Zt} {ρ : List Addr} {H : Hp} : ∀ S : List Int, RVs Z ρ H (S.map .int) (S.map V.int)
  | [] => .nil
  | k :: S => .cons (.int k) (rvs_ints S)
section
variable {X : Cx} {T : Nat → Addr} {E : XK} {elt tg iter : Expr} {ifs : List Expr} {scope : Scope} {p pos pos2 : Pos} {gi : MI1} {c : CT} {gt : MT} {ge : ME} {ow : List Nat}
theorem si_le (hv : ∀ i ∈ c.slots, i ∈ ow) : ∀ σ H Q, tE ⟨X.K, T⟩ E (gSortC gi c gt ge ow) σ H Q → tCB (rSortedSet X.w) (tCons (tSi X.w (tI ⟨X.K, T⟩ E gi) (tCT X.K c) (tT ⟨X.K, T⟩ E00 gt) (tE ⟨X.K, T⟩ E00 ge) ow) tNil) σ H Q := by
  intro σ H Q ⟨ρ, m, h, s, q⟩
  show tSi X.w _ _ _ _ ow σ H fun x H1 => rSortedSet X.w [x] H1 Q
  refine ⟨ρ, m, h, s, ?_⟩
  refine (Post.bind (R := rI ⟨X.K, T⟩) q).mono fun J H1 ⟨ρ1, h1, it, e1, r1, w1, q1⟩ D hD => ?_
  have s1 := s.to e1 r1
  generalize hF : sOut (gSiN it c gt ge (mwipe m ow) (it.size h1 + 1) 0 [] h1) = F at q1
  have nb : F ≠ .bad := fun z => by rw [z] at q1; exact q1
  refine ⟨fun i n H2 => ∃ ρ2 h2 S, Ext ρ1 H1 ρ2 H2 ∧ SR ⟨X.K, T⟩ ρ2 m h2 σ H2 ∧ S.Pairwise (· < ·) ∧ S.length ≤ 60 ∧ H2 D = some (SetO X.w D (fun j => decide (j ∈ S)) S.length) ∧ sOut (gSiN it c gt ge (mwipe m ow) n i S h2) = F,
    ⟨_, ρ1, _, [], Ext.still1 hD, s1.to (Ext.still1 hD) (r1.still1 hD), .nil, by simp, by rw [upd_same]; exact congrArg some (setO_eq (fun j => by simp) rfl), hF⟩, fun i n H2 ⟨ρ2, h2, S, e2, s2, pw, ln, hS, f2⟩ => ?_⟩
  cases n with
  | zero => exact absurd f2.symm nb
  | succ n =>
    have w2 := w1 i ρ2 h2 H2 e2 s2.hr
    unfold gSiN at f2
    cases k : it.at_ i h2 with
    | none => rw [k] at f2; exact absurd f2.symm nb
    | some o =>
      rw [k] at f2 w2
      cases o with
      | none =>
        refine .inl ⟨w2, D, _, _, rfl, hS, by omega, fun ns pp a1 a2 a3 a4 => ?_⟩
        have en : ns = S := asc_uniq a1 pw fun j => by rw [a2]; simp
        subst en
        have x1 : Ext ρ1 H1 (ρ2 ++ [pp]) (upd H2 pp (.lst (ns.map V.int))) := e2.trans (Ext.push a4)
        have q2 := Post.ext q1 x1
        rw [← f2] at q2
        refine Post.ok q2 (s2.hr.push a4 ⟨_, upd_same, rvs_ints ns⟩) (.ref ?_)
        rw [← s2.hr.len]; simp
      | some x =>
        refine .inr ⟨w2.1, fun v H3 y => ?_⟩
        obtain ⟨ρ3, e3, r3, rv3⟩ := w2.2 v H3 y
        dsimp only at f2
        have s3 := s2.to e3 r3
        have sw := s3.wipe ow
        cases g : c.set x (mwipe m ow) h2 with
        | nx m4 h4 =>
          rw [g] at f2
          dsimp only at f2
          refine ct_ok sw rv3 g hv fun σ4 s4 hw => ⟨by rw [hw, wipe_wipe], ?_⟩
          refine ⟨ρ3, m4, h4, s4, ?_⟩
          generalize gt m4 h4 = ot at f2 ⊢
          cases ot with
          | bad => exact absurd f2.symm nb
          | er _ _ => exact absurd f2.symm nb
          | ok b h5 =>
            intro ρ5 H5 b' e5 r5 hb
            have hb' : b = b' := hb
            subst hb'
            have s5 := s4.to e5 r5
            have d5 := (e3.trans e5).still _ _ hS trivial
            cases b with
            | false =>
              rw [if_neg Bool.false_ne_true]
              exact ⟨n, Nat.lt_succ_self _, ρ5, h5, S, (e2.trans e3).trans e5, s3.to e5 r5, pw, ln, d5, f2⟩
            | true =>
              rw [if_pos rfl]
              dsimp only at f2
              refine ⟨ρ5, m4, h5, s5, ?_⟩
              generalize ge m4 h5 = oe at f2 ⊢
              cases oe with
              | bad => exact absurd f2.symm nb
              | er _ _ => exact absurd f2.symm nb
              | ok y6 h6 =>
                intro ρ6 H6 v6 e6 r6 rv6
                cases rv6 with
                | int kk =>
                  dsimp only at f2
                  by_cases z : S.length < 60
                  · rw [if_pos z] at f2
                    have d6 := e6.still _ _ d5 trivial
                    have e7 := ((e2.trans e3).trans e5).trans e6
                    refine ⟨kk, rfl, _, _, d6, by have : (1000 : Nat) < scanBound := by decide +kernel
                                                  omega, n, Nat.lt_succ_self _, ρ6, h6, add1 kk S, Ext.off e7 hD, ?_, add1_pw pw, ?_, ?_, f2⟩
                    · have s6 := ((s3.to e5 r5).to e6 r6)
                      exact ⟨HR.off r6 d6, s6.len, fun i x k => by obtain ⟨v, h1, h2⟩ := s6.slot i x k; exact ⟨v, h1, RV.off d6 h2⟩⟩
                    · rw [add1_len pw]; split <;> omega
                    · rw [upd_same]
                      refine congrArg some (setO_eq (fun j => ?_) ?_)
                      · by_cases z1 : j ∈ S <;> by_cases z2 : j = kk <;> simp [add1_mem, z1, z2]
                      · rw [add1_len pw]
                        by_cases z1 : kk ∈ S <;> simp [z1]
                  · rw [if_neg z] at f2; exact absurd f2.symm nb
                | _ => exact absurd f2.symm nb
        | _ => rw [g] at f2; exact absurd f2.symm nb
theorem je_sortC (own : List (Str × Nat)) (how : own.map (·.2) = ow) (hc : X.calm = true) (hN : X.N.Nodup) (hgl : Gl X "sorted") (hm : X.mg "sorted" = none) (hi : JI X T E tg iter gi) (ok : BlkOk X.N X.env.scope scope own)
    (hg : ∀ (s : Shared) (H : Hp) (C : Addr) (cl : List (Str × Addr)) (fp : List Addr), PG (X.blk s H scope (compEnvC scope cl C X.env) fp) tg (tCT X.K c))
    (ht : ∀ (s : Shared) (H : Hp) (C : Addr) (cl : List (Str × Addr)) (fp : List Addr), PTs (X.blk s H scope (compEnvC scope cl C X.env) fp) ifs (tT ⟨X.K, T⟩ E00 gt))
    (he : ∀ (s : Shared) (H : Hp) (C : Addr) (cl : List (Str × Addr)) (fp : List Addr), JE (X.blk s H scope (compEnvC scope cl C X.env) fp) T E00 elt ge)
    (hv : ∀ i ∈ c.slots, i ∈ ow) (hs : ∀ x, foldedSetIterable iter X.env x = pure x := by intro _; rfl)
    (h1 : starEach [.SetComp elt [⟨tg, iter, ifs, 0⟩] scope pos2] X.env = (false, eval (.SetComp elt [⟨tg, iter, ifs, 0⟩] scope pos2) X.env) :: starEach [] X.env := by rfl) :
    JE X T E (.Call (.Name "sorted" p) [.SetComp elt [⟨tg, iter, ifs, 0⟩] scope pos2] [] pos) (gSortC gi c gt ge ow) := by
  subst how
  exact PE.le (pe_callB (he := h1) (cr_sortedSet hc) hgl hm (by decide +kernel) (pa_cons (pe_si hc hN hi ok hg ht he hs) pa_nil h1)) (si_le hv)
end
end MI
set_option Elab.async false
set_option linter.all false
set_option maxRecDepth 100000
set_option maxHeartbeats 4000000
namespace MI
open PySem PySem.Spec PyProof.Rows L2 JB
section
variable {prog : Program} {w : World} {A : Around} {R : Result → Shared → Prop} {s : Shared} {kx vx t0 i0 t1 i1 : Expr} {scope : Scope} {pos : Pos} {it acc : Value} {D : Addr} {env : Env}
theorem d2_out : compTurn (.DictComp kx vx [⟨t0, i0, [], 0⟩, ⟨t1, i1, [], 0⟩] scope pos) 0 it acc env = (do
      standAt i0.pos
      match ← pyNext it with
      | none => pure (.done .next)
      | some v =>
        letOwnedTupleGo t0 it v
        assign t0 env v
        let mut ok := true
        for c in ([] : List Expr) do
          if ok then ok ← isTrue c env (eval c env)
        if ok then
          let x ← eval i1 env
          standAt i1.pos
          let x ← foldedSetIterable i1 env x
          let _ ← runOwn (.compStart (.DictComp kx vx [⟨t0, i0, [], 0⟩, ⟨t1, i1, [], 0⟩] scope pos) 1 (← holding [x] (pyIter x)) acc env) env
        again (.compLoop (.DictComp kx vx [⟨t0, i0, [], 0⟩, ⟨t1, i1, [], 0⟩] scope pos) 0 it acc env)) := by rfl
theorem d2_in : compTurn (.DictComp kx vx [⟨t0, i0, [], 0⟩, ⟨t1, i1, [], 0⟩] scope pos) 1 it (.ref D) env = (do
      standAt i1.pos
      match ← pyNext it with
      | none => pure (.done .next)
      | some v =>
        letOwnedTupleGo t1 it v
        assign t1 env v
        let mut ok := true
        for c in ([] : List Expr) do
          if ok then ok ← isTrue c env (eval c env)
        if ok then
          (do
            let kv ← eval kx env
            let vv ← holding [kv] (eval vx env)
            standAt { kx.pos with endLine := vx.pos.endLine, endCol := vx.pos.endCol }
            holding [kv, vv] (dictSet D kv vv))
        again (.compLoop (.DictComp kx vx [⟨t0, i0, [], 0⟩, ⟨t1, i1, [], 0⟩] scope pos) 1 it (.ref D) env)) := by rfl
abbrev NB (prog : Program) (w : World) (A : Around) (R : Result → Shared → Prop) (env : Env) : Value → Shared → Prop := notedBy (model prog w) A env fun e s' => R (.error e) s'
theorem loopD_out (hs : ∀ x, foldedSetIterable i1 env x = pure x) (I : Nat → Shared → Prop)
    (turn : ∀ n s, I n s → wpAny (model prog w) A (pyNext it) (fun r s₁ => match r with
      | none => R (.ok .next) s₁
      | some v => wpAny (model prog w) A (letOwnedTupleGo t0 it v) (fun _ s₂ => wpAny (model prog w) A (assign t0 env v) (fun _ s₃ => wpAny (model prog w) A (eval i1 env) (fun x s₄ => wpAny (model prog w) A (pyIter x) (fun it1 s₅ =>
          codeAny (model prog w) A (.compStart (.DictComp kx vx [⟨t0, i0, [], 0⟩, ⟨t1, i1, [], 0⟩] scope pos) 1 it1 acc env) (fun r s' => match r with
            | .ok _ => ∃ m, m < n ∧ I m s'
            | .error _ => False) s₅) (NB prog w A R env) s₄) (NB prog w A R env) s₃) (NB prog w A R env) s₂) (NB prog w A R env) s₁) (NB prog w A R env) s)
    (n : Nat) (h : I n s) : codeAny (model prog w) A (.compLoop (.DictComp kx vx [⟨t0, i0, [], 0⟩, ⟨t1, i1, [], 0⟩] scope pos) 0 it acc env) R s := by
  refine codeAny_loop rfl I (fun n s hI => ?_) n h
  show wpAny _ A ((compTurn (.DictComp kx vx [⟨t0, i0, [], 0⟩, ⟨t1, i1, [], 0⟩] scope pos) 0 it acc env).onRaise (fun x => do noteFrame x env; theTreesLotGoes x)) _ _ s
  refine wpAny_noted ?_
  rw [d2_out]
  refine wpAny_bind (wpAny_standAt (wpAny_bind (wpAny_mono (turn n s hI) (fun r s₁ h₁ => ?_) fun _ _ h' => h')))
  cases r with
  | none => exact wpAny_pure h₁
  | some v =>
    refine wpAny_bind (wpAny_mono h₁ (fun _ s₂ h₂ => ?_) fun _ _ h' => h')
    refine wpAny_bind (wpAny_mono h₂ (fun _ s₃ h₃ => wpAny_bind (wpAny_tests_nil ?_)) fun _ _ h' => h')
    refine wpAny_bind (wpAny_mono h₃ (fun x s₄ h₄ => ?_) fun _ _ h' => h')
    refine wpAny_bind (wpAny_standAt (wpAny_bind (wpAny_of_eq (hs x) (wpAny_bind (wpAny_holding (wpAny_mono h₄ (fun it1 s₅ h₅ => ?_) fun _ _ h' => h'))))))
    refine wpAny_bind (wpAny_runOwn ?_)
    rw [Around.mark_none]
    refine codeAny_mono h₅ fun r s' hr => ?_
    cases r with
    | ok f =>
      first
        | exact wpAny_pure ⟨rfl, hr⟩
        | exact wpAny_bind (wpAny_pure (wpAny_pure ⟨rfl, hr⟩))
    | error e => exact hr.elim
theorem loopD_in (I : Nat → Shared → Prop)
    (turn : ∀ n s, I n s → wpAny (model prog w) A (pyNext it) (fun r s₁ => match r with
      | none => R (.ok .next) s₁
      | some v => wpAny (model prog w) A (letOwnedTupleGo t1 it v) (fun _ s₂ => wpAny (model prog w) A (assign t1 env v) (fun _ s₃ => wpAny (model prog w) A (eval kx env) (fun kv s₄ => wpAny (model prog w) A (eval vx env) (fun vv s₅ =>
          wpAny (model prog w) A (dictSet D kv vv) (fun _ s₆ => ∃ m, m < n ∧ I m s₆) (NB prog w A R env) s₅) (NB prog w A R env) s₄) (NB prog w A R env) s₃) (NB prog w A R env) s₂) (NB prog w A R env) s₁) (NB prog w A R env) s)
    (n : Nat) (h : I n s) : codeAny (model prog w) A (.compLoop (.DictComp kx vx [⟨t0, i0, [], 0⟩, ⟨t1, i1, [], 0⟩] scope pos) 1 it (.ref D) env) R s := by
  refine codeAny_loop rfl I (fun n s hI => ?_) n h
  show wpAny _ A ((compTurn (.DictComp kx vx [⟨t0, i0, [], 0⟩, ⟨t1, i1, [], 0⟩] scope pos) 1 it (.ref D) env).onRaise (fun x => do noteFrame x env; theTreesLotGoes x)) _ _ s
  refine wpAny_noted ?_
  rw [d2_in]
  refine wpAny_bind (wpAny_standAt (wpAny_bind (wpAny_mono (turn n s hI) (fun r s₁ h₁ => ?_) fun _ _ h' => h')))
  cases r with
  | none => exact wpAny_pure h₁
  | some v =>
    refine wpAny_bind (wpAny_mono h₁ (fun _ s₂ h₂ => ?_) fun _ _ h' => h')
    refine wpAny_bind (wpAny_mono h₂ (fun _ s₃ h₃ => wpAny_bind (wpAny_tests_nil ?_)) fun _ _ h' => h')
    exact wpAny_bind (wpAny_bind (wpAny_mono h₃ (fun kv s₄ h₄ => wpAny_bind (wpAny_holding (wpAny_mono h₄ (fun vv s₅ h₅ => wpAny_bind (wpAny_standAt (wpAny_holding (wpAny_mono h₅ (fun _ s₆ h₆ => wpAny_pure ⟨rfl, h₆⟩) fun _ _ h' => h')))) fun _ _ h' => h'))) fun _ _ h' => h'))
theorem startD_in (h0 : codeAny (model prog w) A (.compLoop (.DictComp kx vx [⟨t0, i0, [], 0⟩, ⟨t1, i1, [], 0⟩] scope pos) 1 it acc env) R s)
    (h : wpAny (model prog w) A (pyIter it) (fun it' s' => codeAny (model prog w) A (.compLoop (.DictComp kx vx [⟨t0, i0, [], 0⟩, ⟨t1, i1, [], 0⟩] scope pos) 1 it' acc env) R s') (NB prog w A R env) s) :
    codeAny (model prog w) A (.compStart (.DictComp kx vx [⟨t0, i0, [], 0⟩, ⟨t1, i1, [], 0⟩] scope pos) 1 it acc env) R s := by
  refine codeAny_of_tree ?_
  show wpAny _ A ((compStart (.DictComp kx vx [⟨t0, i0, [], 0⟩, ⟨t1, i1, [], 0⟩] scope pos) 1 it acc env).onRaise (fun x => do noteFrame x env; standAt theWindowsPlace)) _ _ s
  refine wpAny_notedAt ?_
  unfold compStart
  show wpAny _ A (ask >>= _) _ _ s
  refine wpAny_bind (wpAny_askSetting (wpAny_ite ?_))
  split
  · first
      | exact wpAny_bind (wpAny_pure (wpAny_pure (And.intro rfl h0)))
      | exact wpAny_pure (And.intro rfl h0)
  · first
      | exact wpAny_bind (wpAny_rule (wpAny_bind (wpAny_standAt (wpAny_bind (wpAny_mono h (fun it' s' h' => wpAny_pure (And.intro rfl h')) fun _ _ x => x)))))
      | (refine wpAny_bind (wpAny_rule ?_); show wpAny _ A (standAt i1.pos >>= _) _ _ s; exact wpAny_bind (wpAny_standAt (wpAny_bind (wpAny_mono h (fun it' s' h' => wpAny_pure (And.intro rfl h')) fun _ _ x => x))))
end
def tDc2 (wi : TI) (g : TG) (wi1 : TI) (g1 : TG) (tk tv : TE) (vs vs1 : List Nat) : TE := fun σ H Q => wi σ H fun J H1 => ∀ D, H1 D = none → ∃ W : Nat → Nat → Hp → Prop, (∃ m, W 0 m (upd H1 D (.dK []))) ∧ ∀ i m H, W i m H →
  (J.stop i H ∧ Q (.ref D) H) ∨ (J.go i H ∧ ∀ x H', J.yld i H x H' → g x (wipe σ vs) H' fun σ2 H2 => wipe σ2 vs = wipe σ vs ∧ ∃ d u, H2 d = some u ∧ Mut (some u) ∧ ∀ od, wi1 σ2 (upd H2 d (.frz od u)) fun J1 H4 =>
    ∃ W1 : Nat → Nat → Hp → Prop, (∃ k, W1 0 k H4) ∧ ∀ j l H, W1 j l H → (J1.stop j H ∧ H d = some (.frz od u) ∧ ∃ m', m' < m ∧ W (i + 1) m' (upd H d u)) ∨
      (J1.go j H ∧ ∀ x H', J1.yld j H x H' → g1 x (wipe σ2 vs1) H' fun σ3 H5 => wipe σ3 vs1 = wipe σ2 vs1 ∧ tk σ3 H5 fun y H6 => tv σ3 H6 fun z H7 => ∃ kvs k, y = kV k ∧ H7 D = some (.dK kvs) ∧ kvs.length < sizeLine ∧ ∃ l', l' < l ∧ W1 (j + 1) l' (upd H7 D (.dK (putK kvs k z)))))
section
variable {X : Cx}
theorem pe_dc2 {kx vx tg iter tg1 iter1 : Expr} {scope : Scope} {own : List (Str × Nat)} {vs1 : List Nat} {pos : Pos} {wi wi1 : TI} {g g1 : TG} {tk tv : TE} (hc : X.calm = true) (hN : X.N.Nodup) (hi : PI X tg iter wi) (ok : BlkOk X.N X.env.scope scope own) (hv : ∀ i ∈ vs1, i ∈ own.map (·.2))
    (hg : ∀ (s : Shared) (H : Hp) (C : Addr) (cl : List (Str × Addr)) (fp : List Addr), PG (X.blk s H scope (compEnvC scope cl C X.env) fp) tg g)
    (hi1 : ∀ (s : Shared) (H : Hp) (C : Addr) (cl : List (Str × Addr)) (fp : List Addr), PI (X.blk s H scope (compEnvC scope cl C X.env) fp) tg1 iter1 wi1)
    (hg1 : ∀ (s : Shared) (H : Hp) (C : Addr) (cl : List (Str × Addr)) (fp : List Addr), PG (X.blk s H scope (compEnvC scope cl C X.env) fp) tg1 g1)
    (hk : ∀ (s : Shared) (H : Hp) (C : Addr) (cl : List (Str × Addr)) (fp : List Addr), PE (X.blk s H scope (compEnvC scope cl C X.env) fp) kx tk)
    (he : ∀ (s : Shared) (H : Hp) (C : Addr) (cl : List (Str × Addr)) (fp : List Addr), PE (X.blk s H scope (compEnvC scope cl C X.env) fp) vx tv)
    (hs : ∀ x, foldedSetIterable iter X.env x = pure x := by intro _; rfl) (hs1 : ∀ env x, foldedSetIterable iter1 env x = pure x := by intro _ _; rfl) :
    PE X (.DictComp kx vx [⟨tg, iter, [], 0⟩, ⟨tg1, iter1, [], 0⟩] scope pos) (tDc2 wi g wi1 g1 tk tv (own.map (·.2)) vs1) := by
  refine ⟨fun pins s σ H Q I h => ?_⟩
  rw [arm_eval_DictComp]
  have hfree : ∀ y ∈ scope.names, y.2 = .free → ∃ c, X.env.cells.lookup y.1 = some c := fun y hy e => (ok.free y hy e).elim (fun k => I.ok.has _ (.inl k)) fun k => I.ok.has _ (.inr k)
  refine wpAny_comprehension_free rfl hs (closure_ok hfree) ok.kind (fun y hy e => by rw [ok.uniq y hy, e]) (thn (hi.run pins s σ H _ I h) fun xv s1 hx => thn hx fun itv s2 h2 => ?_)
  obtain ⟨it, fp, tn, J, H2, rfl, I2, T, st2, f2, q⟩ := h2
  refine wpAny_newObj_type (newEnv_comp ?_)
  generalize hD : s2.heap.objs.size = D
  obtain ⟨W, ⟨m0, w0⟩, turn⟩ := q D (I2.hok.fresh (Nat.le_of_eq hD))
  generalize hs3 : ({ s2 with heap := s2.heap.push { cls := .type "dict", data := .dict #[] } } : Shared) = s3
  generalize hH3 : upd H2 D (.dK []) = H3 at w0
  have k3 : ∀ b o, s2.heap.get? b = some o → s3.heap.get? b = some o := fun b o e => by rw [← hs3]; exact Heap.get?_push_of_some _ e
  have z3 : s3.heap.objs.size = s2.heap.objs.size + 1 := by rw [← hs3]; exact Heap.size_push ..
  have I3 : Inv X pins σ H3 s3 := by
    rw [← hs3, ← hH3]
    refine I2.laid (t' := s2.toks) (fun b o e => Heap.get?_push_of_some _ e) (Nat.le_of_eq hD) ?_
    rw [← hD]
    exact dk_empty s2.heap I2.big
  have f3 : ∀ b ∈ fp, FpOk X pins H3 b ∧ b < s3.heap.objs.size := fun b hb => by
    obtain ⟨o, e, _⟩ := T.obj _ _ st2 b hb
    have lt := Heap.lt_size e
    exact ⟨⟨by rw [← hH3, upd_ne (by rw [← hD]; exact Nat.ne_of_lt lt)]; exact (f2 b hb).1, (f2 b hb).2⟩, by rw [z3]; exact Nat.lt_succ_of_lt lt⟩
  have st3 : tn 0 s3.heap := T.keep _ _ _ st2 fun b _ o e => k3 b o e
  have I4 := block_start I3 ok hN f3
  generalize hcl : cellsFrom (s3.heap.objs.size + 1) scope.names (cloFrom X.env.cells scope.names []) = cl at I4 ⊢
  generalize hC : s3.heap.objs.size = C at I4 ⊢
  have pg := hg s3 H3 C cl fp
  have pi1 := hi1 s3 H3 C cl fp
  have pg1 := hg1 s3 H3 C cl fp
  have pk := hk s3 H3 C cl fp
  have pe := he s3 H3 C cl fp
  have cL : (compEnvC scope cl C X.env).locals = C := rfl
  show codeAny _ _ (.compStart (.DictComp kx vx [⟨tg, iter, [], 0⟩, ⟨tg1, iter1, [], 0⟩] scope pos) 0 (.ref it) (.ref D) (compEnvC scope cl C X.env)) (compPost (model X.prog X.w) X.A X.xe none _ (.ref D) C) { s3 with heap := pushCells (s3.heap.push { cls := .type "dict", data := .dict #[] }) scope.names }
  generalize compEnvC scope cl C X.env = ce at I4 pg pi1 pg1 pk pe cL ⊢
  generalize hs4 : ({ s3 with heap := pushCells (s3.heap.push { cls := .type "dict", data := .dict #[] }) scope.names } : Shared) = s4 at I4 ⊢
  have st4 : tn 0 s4.heap := T.keep _ _ _ st3 fun b _ o e => by rw [← hs4]; exact pushCells_keeps _ _ _ _ (Heap.get?_push_of_some _ e)
  have stat : ∀ {σ' : L2.St} {H' : Hp} {s' : Shared}, Inv (X.blk s3 H3 scope ce fp) [] σ' H' s' → (∀ b ∈ fp, H' b = none) → ∀ b ∈ fp, FpOk (X.blk s3 H3 scope ce fp) [] H' b := fun {σ' H' s'} I' hn b hb =>
    ⟨hn b hb, (I'.ok.exf b hb).1, I'.ok.exfs b hb, .inl hb, fun x c e => (I'.ok.exf b hb).2 x c e, fun p hp => absurd (show p ∈ ([] : List (Addr × Obj)) ++ [] from hp) (by simp)⟩
  have loop : codeAny (model X.prog X.w) X.A (.compLoop (.DictComp kx vx [⟨tg, iter, [], 0⟩, ⟨tg1, iter1, [], 0⟩] scope pos) 0 (.ref it) (.ref D) ce) (compPost (model X.prog X.w) X.A X.xe none (fun r s' => EP X pins σ Q r s') (.ref D) C) s4 := by
    refine loopD_out (hs1 ce) (fun n s' => ∃ i H', Inv (X.blk s3 H3 scope ce fp) [] (wipe σ (own.map (·.2))) H' s' ∧ tn i s'.heap ∧ (∀ b ∈ fp, H' b = none) ∧ W i n H') ?_ m0 ⟨0, H3, I4, st4, fun b hb => (f3 b hb).1.1, w0⟩
    rintro n s5 ⟨i, H5, I5, st5, n5, w5⟩
    rcases turn i n H5 w5 with ⟨stop, qq⟩ | ⟨go, step⟩
    · refine thnF (T.done (X.blk s3 H3 scope ce fp) rfl rfl rfl hc i [] s5 _ H5 (fun _ _ => False) I5 (stat I5 n5) st5 stop) fun r s6 ⟨hr, I6⟩ => ?_
      subst hr
      have I7 : Inv X pins σ H5 s6 := I3.call' (ch := fp) I6.os I6.base I6.hok I6.bare fun b hb => ⟨(f3 b hb).1.2.2.2.1, (f3 b hb).1.2.1, (f3 b hb).1.2.2.2.2.1, (f3 b hb).1.2.2.2.2.2⟩
      have nC : H5 C = none := by
        have z : H5 ce.locals = none := I6.free
        rw [cL] at z
        exact z
      obtain ⟨m, hn, _⟩ := I6.loc
      have hn : s6.heap.Ns ce.locals m := hn
      rw [cL] at hn
      obtain ⟨f0, f1, f2, f3, f4, f5⟩ := I3.fpOk (b := C) (Nat.le_of_eq hC) nC
      exact ⟨m, hn, fun h'' sb => ⟨.ref D, H5, I7.turned (t' := s6.toks) (fun b o hb e => (sb.2 b hb).trans e) f0 f1 f3 f4 f5, rfl, qq⟩⟩
    · refine thnF (T.item (X.blk s3 H3 scope ce fp) rfl rfl rfl hc i [] s5 _ H5 (fun _ _ => False) I5 (stat I5 n5) st5 go) fun r s6 ⟨u, hr, h6⟩ => ?_
      subst hr
      refine thnF h6 fun _ s7 ⟨x, H7, I7, r7, y7, st7, n7⟩ => ?_
      have I7' := I7.pinned (stat I7 n7) (T.obj _ _ st7)
      refine thnF (pg.run _ s7 _ H7 x u _ I7' r7 (step x H7 y7)) fun _ s8 ⟨σ8, H8, I8, hw8, d, uo, hd, mu, q8⟩ => ?_
      -- the lock
      obtain ⟨od, I9⟩ := I8.lock hd mu
      have nf := I8.nofrz hd mu
      refine thnF (pi1.run _ s8 σ8 _ _ I9 (q8 od)) fun xv s10 hx => thnF hx fun itv s11 h11 => ?_
      obtain ⟨it1, fp1, tn1, J1, H11, rfl, I11, T1, st11, f11, W1, ⟨m1, w1⟩, turn1⟩ := h11
      have stat1 : ∀ {H' : Hp}, (∀ b ∈ fp1, H' b = none) → ∀ b ∈ fp1, FpOk (X.blk s3 H3 scope ce fp) ([] ++ pinsAt fp s7.heap) H' b := fun hn b hb => ⟨hn b hb, (f11 b hb).2⟩
      have loop1 : codeAny (model X.prog X.w) X.A (.compLoop (.DictComp kx vx [⟨tg, iter, [], 0⟩, ⟨tg1, iter1, [], 0⟩] scope pos) 1 (.ref it1) (.ref D) ce)
          (fun r s' => match r with
            | .ok _ => ∃ m, m < n ∧ ∃ i H', Inv (X.blk s3 H3 scope ce fp) [] (wipe σ (own.map (·.2))) H' s' ∧ tn i s'.heap ∧ (∀ b ∈ fp, H' b = none) ∧ W i m H'
            | .error _ => False) s11 := by
        refine loopD_in (fun k s' => ∃ j H', Inv (X.blk s3 H3 scope ce fp) ([] ++ pinsAt fp s7.heap) (wipe σ8 vs1) H' s' ∧ tn1 j s'.heap ∧ (∀ b ∈ fp1, H' b = none) ∧ W1 j k H') ?_ m1 ⟨0, H11, I11.weak (wipe_length _ _) (fun j v e => (wipe_some e).1), st11, fun b hb => (f11 b hb).1, w1⟩
        rintro k s12 ⟨j, H12, I12, st12, n12, w12⟩
        rcases turn1 j k H12 w12 with ⟨stop1, fz, m', hm, w'⟩ | ⟨go1, step1⟩
        · refine thnF (T1.done (X.blk s3 H3 scope ce fp) rfl rfl rfl hc j _ s12 (wipe σ8 vs1) H12 (fun _ _ => False) I12 (stat1 n12) st12 stop1) fun r s13 ⟨hr, I13⟩ => ?_
          subst hr
          have I14 := I13.unlock fz nf
          have pin' : ∀ b ∈ fp, ∀ o, s7.heap.get? b = some o → s13.heap.get? b = some o ∧ (upd H12 d uo) b = none := fun b hb o e =>
            let z := I14.pin (b, o) (List.mem_append_right _ (List.mem_append_right _ (mem_pinsAt hb e)))
            ⟨z.1, z.2.1⟩
          refine ⟨m', hm, i + 1, _, (I14.unpinned (pins := [])).weak (by rw [wipe_length σ8 vs1, ← hw8, wipe_length]) (fun j v e => ?_), T.keep _ _ _ st7 fun b hb o e => (pin' b hb o e).1, fun b hb => ?_, w'⟩
          · rw [← hw8] at e
            obtain ⟨e1, e2⟩ := wipe_some e
            rw [wipe_out fun z => e2 (hv j z)]
            exact e1
          · obtain ⟨o, e, _⟩ := T.obj _ _ st7 b hb
            exact (pin' b hb o e).2
        · refine thnF (T1.item (X.blk s3 H3 scope ce fp) rfl rfl rfl hc j _ s12 (wipe σ8 vs1) H12 (fun _ _ => False) I12 (stat1 n12) st12 go1) fun r s13 ⟨u1, hr, h13⟩ => ?_
          subst hr
          refine thnF h13 fun _ s14 ⟨x1, H14, I14, r14, y14, st14, n14⟩ => ?_
          have I14' := I14.pinned (stat1 n14) (T1.obj _ _ st14)
          refine thnF (pg1.run _ s14 (wipe σ8 vs1) H14 x1 u1 _ I14' r14 (step1 x1 H14 y14)) fun _ s15 ⟨σ15, H15, I15, hw15, q15⟩ => ?_
          refine thnF (pk.run _ s15 σ15 H15 _ I15 q15) fun zk s16 ⟨yk, H16, I16, r16, q16⟩ => ?_
          refine thnF (pe.run _ s16 σ15 H16 _ I16 q16) fun zv s17 ⟨yv, H17, I17, r17, kvs, kk, ek, hD17, hz17, l', hl', w17⟩ => ?_
          subst ek
          refine d_dictSet (X := X.blk s3 H3 scope ce fp) I17 hD17 hz17 r16 r17 fun s18 I18 => ?_
          have pin' : ∀ b ∈ fp1, ∀ o, s14.heap.get? b = some o → s18.heap.get? b = some o ∧ (upd H17 D (.dK (putK kvs kk yv))) b = none := fun b hb o e =>
            let z := I18.pin (b, o) (List.mem_append_right _ (List.mem_append_right _ (mem_pinsAt hb e)))
            ⟨z.1, z.2.1⟩
          refine ⟨l', hl', j + 1, _, I18.unpinned.weak (by rw [← hw15, wipe_length]) (fun j v e => by rw [← hw15] at e; exact (wipe_some e).1), T1.keep _ _ _ st14 fun b hb o e => (pin' b hb o e).1, fun b hb => ?_, w17⟩
          obtain ⟨o, e, _⟩ := T1.obj _ _ st14 b hb
          exact (pin' b hb o e).2
      exact startD_in loop1 (T1.self X.A 0 _ _ _ st11 loop1)
  exact codeAny_compStart_dict loop (T.self X.A 0 _ _ _ st4 loop)
end
def gDi (it : It1) (c : CT) (ek ev : ME) (D : Nat) (mw : ML) : Nat → Nat → MH → Out Unit
  | 0, _, _ => .bad
  | n + 1, i, h => match it.at_ i h with
    | none => .bad
    | some none => .ok () h
    | some (some x) => match c.set x mw h with
      | .nx m1 h1 => match ek m1 h1 with
        | .ok y h3 => match ev m1 h3 with
          | .ok z h4 => match h4.get D with
            | some (.dic kvs) => match mkey y with
              | some k => if kvs.length < 1000000 then gDi it c ek ev D mw n (i + 1) (h4.set D (.dic (dput keq kvs k z))) else .bad
              | none => .bad
            | _ => .bad
          | _ => .bad
        | _ => .bad
      | _ => .bad
def gDo (it : It1) (c : CT) (pk : ML → MH → Option Nat) (i1 : MI1) (c1 : CT) (ek ev : ME) (D : Nat) (mw : ML) (ow1 : List Nat) : Nat → Nat → MH → Out MV
  | 0, _, _ => .bad
  | n + 1, i, h => match it.at_ i h with
    | none => .bad
    | some none => .ok (.ref D) h
    | some (some x) => match c.set x mw h with
      | .nx m1 h1 => match pk m1 h1 with
        | some j => match h1.get j with
          | some (.dic kvs) => match i1 m1 (h1.set j (.fdi kvs)) with
            | .ok it1 h2 => match gDi it1 c1 ek ev D (mwipe m1 ow1) (it1.size h2 + 1) 0 h2 with
              | .ok _ h3 => gDo it c pk i1 c1 ek ev D mw ow1 n (i + 1) (h3.set j (.dic kvs))
              | _ => .bad
            | _ => .bad
          | _ => .bad
        | none => .bad
      | _ => .bad
def gDc2 (i : MI1) (c : CT) (pk : ML → MH → Option Nat) (i1 : MI1) (c1 : CT) (ek ev : ME) (own ow1 : List Nat) : ME := fun m h => (i m h).bind fun it h1 => gDo it c pk i1 c1 ek ev h1.n (mwipe m own) ow1 (it.size h1 + 1) 0 (h1.push (.dic []))
section
variable {X : Cx} {T : Nat → Addr} {E : XK} {kx vx tg iter tg1 iter1 : Expr} {scope : Scope} {pos : Pos} {gi gi1 : MI1} {pk : ML → MH → Option Nat} {c c1 : CT} {gk gv : ME} {ow ow1 : List Nat}
theorem dc2_le (hv : ∀ i ∈ c.slots, i ∈ ow) (hv1 : ∀ i ∈ c1.slots, i ∈ ow1) : ∀ σ H Q, tE ⟨X.K, T⟩ E (gDc2 gi c pk gi1 c1 gk gv ow ow1) σ H Q →
    tDc2 (tI ⟨X.K, T⟩ E gi) (tCT X.K c) (tI ⟨X.K, T⟩ E00 gi1) (tCT X.K c1) (tE ⟨X.K, T⟩ E00 gk) (tE ⟨X.K, T⟩ E00 gv) ow ow1 σ H Q := by
  intro σ H Q ⟨ρ, m, h, s, q⟩
  refine ⟨ρ, m, h, s, ?_⟩
  refine (Post.bind (R := rI ⟨X.K, T⟩) q).mono fun J H1 ⟨ρ1, h1, it, e1, r1, w1, q1⟩ D hD => ?_
  have s1 := s.to e1 r1
  have x0 : Ext ρ1 H1 (ρ1 ++ [D]) (upd H1 D (.dK [])) := Ext.push hD
  have s0 : SR ⟨X.K, T⟩ (ρ1 ++ [D]) m (h1.push (.dic [])) σ (upd H1 D (.dK [])) := s1.to x0 (r1.push hD ⟨[], upd_same, .nil⟩)
  have a0 : (ρ1 ++ [D])[h1.n]? = some D := by rw [← r1.len]; simp
  generalize hD' : h1.n = d at q1 a0
  generalize hF : gDo it c pk gi1 c1 gk gv d (mwipe m ow) ow1 (it.size h1 + 1) 0 (h1.push (.dic [])) = F at q1
  have nb : F ≠ .bad := fun z => by rw [z] at q1; exact q1
  refine ⟨fun i n H2 => ∃ ρ2 h2, Ext (ρ1 ++ [D]) (upd H1 D (.dK [])) ρ2 H2 ∧ SR ⟨X.K, T⟩ ρ2 m h2 σ H2 ∧ gDo it c pk gi1 c1 gk gv d (mwipe m ow) ow1 n i h2 = F, ⟨_, ρ1 ++ [D], _, .refl, s0, hF⟩, fun i n H2 ⟨ρ2, h2, e2, s2, f2⟩ => ?_⟩
  cases n with
  | zero => exact absurd f2.symm nb
  | succ n =>
    have w2 := w1 i ρ2 h2 H2 (x0.trans e2) s2.hr
    unfold gDo at f2
    cases k : it.at_ i h2 with
    | none => rw [k] at f2; exact absurd f2.symm nb
    | some o =>
      rw [k] at f2 w2
      cases o with
      | none =>
        refine .inl ⟨w2, ?_⟩
        have q2 := Post.ext q1 (x0.trans e2)
        rw [← f2] at q2
        exact q2.ok s2.hr (.ref (e2.at a0))
      | some x =>
        refine .inr ⟨w2.1, fun v H3 y => ?_⟩
        obtain ⟨ρ3, e3, r3, rv3⟩ := w2.2 v H3 y
        dsimp only at f2
        have s3 := s2.to e3 r3
        have sw := s3.wipe ow
        cases g : c.set x (mwipe m ow) h2 with
        | nx m4 h4 =>
          rw [g] at f2
          dsimp only at f2
          refine ct_ok sw rv3 g hv fun σ4 s4 hw => ⟨by rw [hw, wipe_wipe], ?_⟩
          cases kp : pk m4 h4 with
          | none => rw [kp] at f2; exact absurd f2.symm nb
          | some jl =>
            rw [kp] at f2
            dsimp only at f2
            cases kg : h4.get jl with
            | none => rw [kg] at f2; exact absurd f2.symm nb
            | some ob =>
              rw [kg] at f2
              cases ob with
              | dic kws =>
                dsimp only at f2
                obtain ⟨al, hal, ws, hl1, hl2⟩ := s4.hr.all jl _ kg
                refine ⟨al, .dK ws, hl1, trivial, fun od => ?_⟩
                have el : Ext ρ3 H3 ρ3 (upd H3 al (.frz od (.dK ws))) := s4.hr.grow kg hal _
                have rl := s4.hr.set (o' := .fdi kws) kg hal ⟨od, ws, upd_same, hl2.ext el⟩
                have sl := s4.to el rl
                refine ⟨ρ3, m4, _, sl, ?_⟩
                generalize gi1 m4 (h4.set jl (.fdi kws)) = o1 at f2 ⊢
                cases o1 with
                | bad => exact absurd f2.symm nb
                | er _ _ => exact absurd f2.symm nb
                | ok it1 h5 =>
                  intro ρ5 H5 J1 e5 r5 w5
                  dsimp only at f2
                  refine ⟨fun jj l H6 => ∃ ρ6 h6, Ext ρ5 H5 ρ6 H6 ∧ SR ⟨X.K, T⟩ ρ6 m4 h6 σ4 H6 ∧ (match gDi it1 c1 gk gv d (mwipe m4 ow1) l jj h6 with
                    | .ok _ h3 => gDo it c pk gi1 c1 gk gv d (mwipe m ow) ow1 n (i + 1) (h3.set jl (.dic kws))
                    | _ => .bad) = F, ⟨_, ρ5, h5, .refl, sl.to e5 r5, f2⟩, fun jj l H6 ⟨ρ6, h6, e6, s6, f6⟩ => ?_⟩
                  cases l with
                  | zero => exact absurd f6.symm nb
                  | succ l =>
                    have w6 := w5 jj ρ6 h6 H6 e6 s6.hr
                    unfold gDi at f6
                    cases k6 : it1.at_ jj h6 with
                    | none => rw [k6] at f6; exact absurd f6.symm nb
                    | some o6 =>
                      rw [k6] at f6 w6
                      cases o6 with
                      | none =>
                        dsimp only at f6
                        have eA := e5.trans e6
                        have kk1 : H6 al = some (.frz od (.dK ws)) := eA.hold al _ upd_same (.inl trivial)
                        have eU := unlockE (List.mem_of_getElem? hal) hl1 eA
                        have rU := unlockR hal hl1 hl2 eA kk1 s6.hr
                        exact .inl ⟨w6, kk1, n, Nat.lt_succ_self _, ρ6, _, (e2.trans e3).trans eU, s2.to (e3.trans eU) rU, f6⟩
                      | some x6 =>
                        refine .inr ⟨w6.1, fun v7 H7 y7 => ?_⟩
                        obtain ⟨ρ7, e7, r7, rv7⟩ := w6.2 v7 H7 y7
                        dsimp only at f6
                        have s7 := s6.to e7 r7
                        have sw7 := s7.wipe ow1
                        cases g7 : c1.set x6 (mwipe m4 ow1) h6 with
                        | nx m8 h8 =>
                          rw [g7] at f6
                          dsimp only at f6
                          refine ct_ok sw7 rv7 g7 hv1 fun σ8 s8 hw8 => ⟨by rw [hw8, wipe_wipe], ?_⟩
                          refine ⟨ρ7, m8, h8, s8, ?_⟩
                          generalize gk m8 h8 = oe at f6 ⊢
                          cases oe with
                          | bad => exact absurd f6.symm nb
                          | er _ _ => exact absurd f6.symm nb
                          | ok y9 h9 =>
                            intro ρ9 H9 v9 e9 r9 rv9
                            dsimp only at f6
                            have s9 := s8.to e9 r9
                            refine ⟨ρ9, m8, h9, s9, ?_⟩
                            generalize gv m8 h9 = oz at f6 ⊢
                            cases oz with
                            | bad => exact absurd f6.symm nb
                            | er _ _ => exact absurd f6.symm nb
                            | ok zA hA =>
                              intro ρA HA vA eA rA rvA
                              dsimp only at f6
                              have aD := eA.at (e9.at (e7.at (e6.at (e5.at (el.at (e3.at (e2.at a0)))))))
                              cases gd : hA.get d with
                              | none => rw [gd] at f6; exact absurd f6.symm nb
                              | some oD =>
                                rw [gd] at f6
                                cases oD with
                                | dic kvs =>
                                  dsimp only at f6
                                  obtain ⟨vs, hh8, hh9⟩ := rA.obj gd aD
                                  cases kk : mkey y9 with
                                  | none => rw [kk] at f6; exact absurd f6.symm nb
                                  | some k' =>
                                    rw [kk] at f6
                                    dsimp only at f6
                                    by_cases z : kvs.length < 1000000
                                    · rw [if_pos z] at f6
                                      have x8 : Ext ρA HA ρA (upd HA D (.dK (putK vs (kOf k') vA))) := rA.grow gd aD _
                                      have rk : RKs kOf ⟨X.K, T⟩ ρA (upd HA D (.dK (putK vs (kOf k') vA))) (dput keq kvs k' zA) (putK vs (kOf k') vA) := dput_ok (e := keq) (f := kOf) (fun a b => keq_iff) (hh9.ext x8) (rvA.ext x8)
                                      have rD : HR ⟨X.K, T⟩ ρA (hA.set d (.dic (dput keq kvs k' zA))) (upd HA D (.dK (putK vs (kOf k') vA))) := rA.set gd aD ⟨_, upd_same, rk⟩
                                      exact ⟨vs, kOf k', mkey_ok rv9 kk, hh8, by rw [← hh9.length, sizeLine_eq]; omega, l, Nat.lt_succ_self _, ρA, _, (((e6.trans e7).trans e9).trans eA).trans x8, (((s6.to e7 r7).to e9 r9).to eA rA).to x8 rD, f6⟩
                                    · rw [if_neg z] at f6; exact absurd f6.symm nb
                                | _ => exact absurd f6.symm nb
                        | _ => rw [g7] at f6; exact absurd f6.symm nb
              | _ => exact absurd f2.symm nb
        | _ => rw [g] at f2; exact absurd f2.symm nb
theorem je_dc2 (own : List (Str × Nat)) (how : own.map (·.2) = ow) (hc : X.calm = true) (hN : X.N.Nodup) (hi : JI X T E tg iter gi) (ok : BlkOk X.N X.env.scope scope own)
    (hg : ∀ (s : Shared) (H : Hp) (C : Addr) (cl : List (Str × Addr)) (fp : List Addr), PG (X.blk s H scope (compEnvC scope cl C X.env) fp) tg (tCT X.K c))
    (hi1 : ∀ (s : Shared) (H : Hp) (C : Addr) (cl : List (Str × Addr)) (fp : List Addr), JI (X.blk s H scope (compEnvC scope cl C X.env) fp) T E00 tg1 iter1 gi1)
    (hg1 : ∀ (s : Shared) (H : Hp) (C : Addr) (cl : List (Str × Addr)) (fp : List Addr), PG (X.blk s H scope (compEnvC scope cl C X.env) fp) tg1 (tCT X.K c1))
    (hk : ∀ (s : Shared) (H : Hp) (C : Addr) (cl : List (Str × Addr)) (fp : List Addr), JE (X.blk s H scope (compEnvC scope cl C X.env) fp) T E00 kx gk)
    (he : ∀ (s : Shared) (H : Hp) (C : Addr) (cl : List (Str × Addr)) (fp : List Addr), JE (X.blk s H scope (compEnvC scope cl C X.env) fp) T E00 vx gv)
    (hv : ∀ i ∈ c.slots, i ∈ ow) (hv1 : ∀ i ∈ c1.slots, i ∈ ow1) (hv2 : ∀ i ∈ ow1, i ∈ ow) (hs : ∀ x, foldedSetIterable iter X.env x = pure x := by intro _; rfl) (hs1 : ∀ env x, foldedSetIterable iter1 env x = pure x := by intro _ _; rfl) :
    JE X T E (.DictComp kx vx [⟨tg, iter, [], 0⟩, ⟨tg1, iter1, [], 0⟩] scope pos) (gDc2 gi c pk gi1 c1 gk gv ow ow1) := by
  subst how
  exact PE.le (pe_dc2 (tk := tE ⟨X.K, T⟩ E00 gk) (tv := tE ⟨X.K, T⟩ E00 gv) (wi1 := tI ⟨X.K, T⟩ E00 gi1) hc hN hi ok hv2 hg hi1 hg1 hk he hs hs1) (dc2_le hv hv1)
end
def pkE (g : ME) : ML → MH → Option Nat := fun m h => match g m h with
  | .ok (.ref j) _ => some j
  | _ => none
end MI
set_option Elab.async false
set_option linter.all false
set_option maxRecDepth 100000
set_option maxHeartbeats 4000000
namespace KP
open PySem PyProof.Rows Srt SrtO
section
variable {prog : Program} {w : World} {A : Around} {E : Value → Shared → Prop} {s : Shared}
def IsKP (h : Heap) (v : Value) (x : Int) : Prop := ∃ a o t u n, v = .ref a ∧ h.get? a = some o ∧ o.cls = .type "tuple" ∧ o.data = .seq #[.int x t, u] n
theorem IsKP.keeps {h h' : Heap} {v : Value} {x : Int} (p : IsKP h v x) (k : ∀ b o, h.get? b = some o → o.cls = .type "tuple" → h'.get? b = some o) : IsKP h' v x := by
  obtain ⟨a, o, t, u, n, e, ho, hc, hd⟩ := p
  exact ⟨a, o, t, u, n, e, k _ _ ho hc, hc, hd⟩
def ltK (k : Value → Int) : Value → Value → Bool := fun v u => decide (k v < k u)
theorem swo_k (k : Value → Int) : Swo (ltK k) := by
  refine ⟨fun x y h => ?_, fun x y z h1 h2 => ?_⟩
  · have a := of_decide_eq_true h
    exact decide_eq_false (by omega)
  · have a := of_decide_eq_false h1
    have b := of_decide_eq_false h2
    exact decide_eq_false (by omega)
theorem kp_cmp {vs : List Value} {k : Value → Int} (hp : ∀ v ∈ vs, IsKP s.heap v (k v)) (hd : ∀ v ∈ vs, ∀ u ∈ vs, k v = k u → v = u) : Cmp prog w A s (tuples' true) (fun p => p.1 ∈ vs) (lt2 (ltK k)) := by
  intro p q hm hm'
  have h1 := hp _ hm
  have h2 := hp _ hm'
  have h3 := hd _ hm _ hm'
  show wpAny (model prog w) A (keyLt' (tuples' true) p.1 q.1) (fun r s' => s' = s ∧ r = ltK k p.1 q.1) (fun _ _ => False) s
  unfold ltK
  generalize p.1 = v at h1 h3 ⊢
  generalize q.1 = v' at h2 h3 ⊢
  obtain ⟨a, o, t, u, n, e, ho, hc, hd⟩ := h1
  obtain ⟨a', o', t', u', n', e', ho', hc', hd'⟩ := h2
  by_cases ek : k v = k v'
  · have ev := h3 ek
    subst ev
    rw [e] at e'
    cases e'
    rw [ho] at ho'
    cases ho'
    rw [decide_eq_false (Int.lt_irrefl _), e]
    refine PySem.W.kat_lt ho hd ho hd ?_
    show PySem.W.KatLex prog w A true (decide (2 < 2)) _ [(.int (k v) t, .int (k v) t), (u, u)] 0 s
    refine PySem.W.kat_cons (SeqAt.EqAt.same _ prog w _ _ ?_)
    refine PySem.W.kat_yes (PySem.W.kat_cons (SeqAt.EqAt.same _ prog w _ _ ?_))
    exact PySem.W.kat_yes (PySem.W.kat_nil ⟨rfl, rfl⟩)
  · generalize k v = x at ek hd ⊢
    generalize k v' = x' at ek hd' ⊢
    rw [e, e']
    refine PySem.W.kat_lt ho hd ho' hd' ?_
    show PySem.W.KatLex prog w A true (decide (2 < 2)) _ [(.int x t, .int x' t'), (u, u')] 0 s
    refine PySem.W.kat_cons (SeqAt.EqAt.int_int x t x' t' prog w _ _ ?_)
    refine PySem.W.kat_go (fun e1 => absurd (by simpa using e1) ek) (fun e1 => ?_)
    exact PySem.W.kat_no (oneLt_int ⟨rfl, rfl⟩)
theorem kp_firsts {h : Heap} : ∀ {vs : List Value}, (∀ v ∈ vs, ∃ x, IsKP h v x) → ∃ fs : List Value, PySem.W.KatTups h vs fs ∧ fs.length = vs.length ∧ ∀ f ∈ fs, ∃ x t, f = Value.int x t
  | [], _ => ⟨[], PySem.W.KatTups.nil, rfl, fun _ hm => by simp at hm⟩
  | v :: vs, hp => by
    obtain ⟨fs, h1, h2, h3⟩ := kp_firsts (vs := vs) fun v' hm => hp v' (List.mem_cons_of_mem _ hm)
    obtain ⟨x, a, o, t, u, n, e, ho, hc, hd⟩ := hp v List.mem_cons_self
    subst e
    refine ⟨.int x t :: fs, PySem.W.KatTups.cons ho hc hd rfl h1, by rw [List.length_cons, List.length_cons, h2], fun f hm => ?_⟩
    rcases List.mem_cons.mp hm with rfl | hm
    · exact ⟨x, t, rfl⟩
    · exact h3 f hm
theorem kp_sortable {a : Addr} {vs : List Value} {k : Value → Int} (h0 : 0 < vs.length) (hp : ∀ v ∈ vs, IsKP s.heap v (k v)) (hd : ∀ v ∈ vs, ∀ u ∈ vs, k v = k u → v = u) (ha : ∀ o, s.heap.get? a = some o → o.cls ≠ .type "tuple") : SortableO prog w A s a vs (ltK k) := by
  intro h' keep
  have hp' : ∀ v ∈ vs, IsKP h' v (k v) := fun v hm => (hp v hm).keeps fun b o e c => keep b o (fun z => by subst z; exact ha o e c) e
  obtain ⟨fs, h1, h2, h3⟩ := kp_firsts fun v hm => ⟨_, hp' v hm⟩
  refine ⟨tuples' true, fun Q E hq => ?_, kp_cmp hp' hd⟩
  refine PySem.W.kat_kind (T := .type "int") h1 (by omega) (fun f hm => ?_) (by rfl) ?_
  · obtain ⟨x, t, rfl⟩ := h3 f hm
    exact PySem.W.Looks.now
  · have e : (Value.type "int" != Value.type "tuple") = true := by first | decide +kernel | rfl | decide
    rw [e]
    exact hq
end
end KP
namespace MI
open PySem PySem.Spec PyProof.Rows L2 JB
def fstK (H : Hp) : V → Int
  | .ref t => match H t with
    | some (.tup (.int i :: _)) => i
    | _ => 0
  | _ => 0
def rSortedK (K : PySem.W.Frag) : List V → Hp → VK → Prop := fun vs H Q => ∃ (a : Addr) (xs : List V), vs = [V.ref a] ∧ H a = some (.lst xs) ∧ (∀ x ∈ xs, ∃ t w, x = V.ref t ∧ H t = some (.tup [.int (fstK H x), w])) ∧
  (∀ x ∈ xs, ∀ y ∈ xs, fstK H x = fstK H y → x = y) ∧ ∀ ys p, ys.Pairwise (fun x y => fstK H x ≤ fstK H y) → ys.Perm xs → H p = none → Q (.ref p) (upd H p (.lst ys))
section
variable {X : Cx}
theorem cr_sortedK : CallR X (.builtin "sorted") (rSortedK X.K) := by
  intro pins s σ H vs us Q I r h
  obtain ⟨a, xs, rfl, hs, hx, hdd, q⟩ := h
  obtain ⟨its, rv, hl, hz⟩ := I.list (.inl (.inl hs))
  obtain ⟨u, rfl, ru⟩ := vals1 r
  obtain rfl : u = Value.ref a := ru
  obtain ⟨e1, e2⟩ := refs_back rv fun x m => by
    obtain ⟨t, w, e, _⟩ := hx x m
    exact ⟨t, e⟩
  refine SrtO.sorted_ord (KP.swo_k fun u => fstK H (backV u)) hl.isList (by rw [← rv.length]; exact hz) (fun h2 h₁ aa ha kk => ?_) fun out hso hb => ?_
  · refine KP.kp_sortable (s := { s with heap := h₁ }) (by omega) (fun v hm => ?_) (fun v hv u hu e => ?_) fun o e => ?_
    · obtain ⟨t, rfl⟩ := e2 v hm
      have hm' : V.ref t ∈ xs := by rw [e1]; exact List.mem_map.mpr ⟨_, hm, rfl⟩
      obtain ⟨t', w, e, ht⟩ := hx _ hm'
      cases e
      obtain ⟨_, its2, r2, o, ho, hc, n, hd⟩ := I.hok _ _ ht
      obtain ⟨u1, u2, rfl, ri, rj⟩ := vals2 r2
      obtain ⟨t1, rfl⟩ := ri
      exact ⟨t, o, t1, u2, n, rfl, (kk _ _ ho).2, hc, hd⟩
    · obtain ⟨t, rfl⟩ := e2 v hv
      obtain ⟨t', rfl⟩ := e2 u hu
      have m1 : V.ref t ∈ xs := by rw [e1]; exact List.mem_map.mpr ⟨_, hv, rfl⟩
      have m2 : V.ref t' ∈ xs := by rw [e1]; exact List.mem_map.mpr ⟨_, hu, rfl⟩
      have := hdd _ m1 _ m2 e
      cases this
      rfl
    · have e' : some o = some (seqObj "list" its.toArray 0) := e.symm.trans ha
      cases e'
      intro c
      exact absurd (Value.type.inj c) (by decide)
  · have h3 : ∀ u ∈ out, ∃ a, u = Value.ref a := fun u hu => e2 u (hb.perm.mem_iff.mp hu)
    obtain ⟨n, hn⟩ := PyProof.Rows.sortedAll_at s.heap its out.toArray
    have hp : (out.map backV).Perm xs := by rw [e1]; exact hb.perm.map backV
    have hd : s.heap.objs.size ≤ s.heap.objs.size + 1 := Nat.le_succ _
    refine ⟨.ref _, upd H _ (.lst (out.map backV)), I.laid (t' := s.toks) (fun b o e => PyProof.Rows.sortedAll_old e) hd ⟨?_, out, n, vals_back h3, hn⟩, rfl, q _ _ ?_ hp (I.hok.fresh hd)⟩
    · rw [hp.length_eq]; exact hz
    · refine List.pairwise_map.mpr (hso.imp fun {x y} h => ?_)
      have : ¬ fstK H (backV y) < fstK H (backV x) := of_decide_eq_false h
      show fstK H (backV x) ≤ fstK H (backV y)
      omega
end
def keyP : MV → Option Int
  | .tup [.int k, _] => some k
  | _ => none
def insP (k : Int) (x : MV) : List (Int × MV) → List (Int × MV)
  | [] => [(k, x)]
  | y :: l => if k < y.1 then (k, x) :: y :: l else y :: insP k x l
def sortP : List MV → Option (List (Int × MV))
  | [] => some []
  | x :: r => match keyP x, sortP r with
    | some k, some l => if (l.map (·.1)).contains k = true then none else some (insP k x l)
    | _, _ => none
theorem insP_perm {k : Int} {x : MV} : ∀ {l : List (Int × MV)}, (insP k x l).Perm ((k, x) :: l)
  | [] => .refl _
  | y :: l => by
    unfold insP
    split
    · exact .refl _
    · exact ((insP_perm (l := l)).cons y).trans (.swap _ _ _)
theorem insP_pw {k : Int} {x : MV} : ∀ {l : List (Int × MV)}, l.Pairwise (fun a b => a.1 < b.1) → k ∉ l.map (·.1) → (insP k x l).Pairwise (fun a b => a.1 < b.1)
  | [], _, _ => by simp [insP]
  | y :: l, h, hk => by
    obtain ⟨h1, h2⟩ := List.pairwise_cons.mp h
    unfold insP
    split
    · rename_i c
      refine List.pairwise_cons.mpr ⟨fun z hz => ?_, h⟩
      rcases List.mem_cons.mp hz with rfl | hz
      · exact c
      · exact Int.lt_trans c (h1 z hz)
    · rename_i c
      have hne : k ≠ y.1 := fun e => hk (by rw [e]; simp)
      refine List.pairwise_cons.mpr ⟨fun z hz => ?_, insP_pw h2 fun m => hk (List.mem_cons_of_mem _ m)⟩
      rcases List.mem_cons.mp (insP_perm.mem_iff.mp hz) with e | hz
      · subst e; show y.1 < k; omega
      · exact h1 z hz
theorem sortP_ok : ∀ {xs : List MV} {l : List (Int × MV)}, sortP xs = some l → (l.map (·.2)).Perm xs ∧ l.Pairwise (fun a b => a.1 < b.1) ∧ ∀ p ∈ l, keyP p.2 = some p.1
  | [], l, h => by cases h; exact ⟨.refl _, .nil, fun _ m => by cases m⟩
  | x :: r, l, h => by
    unfold sortP at h
    cases k : keyP x with
    | none => rw [k] at h; cases h
    | some k' =>
      cases e : sortP r with
      | none => rw [k, e] at h; cases h
      | some l' =>
        rw [k, e] at h
        dsimp only at h
        obtain ⟨p1, p2, p3⟩ := sortP_ok e
        split at h
        · cases h
        · rename_i c
          cases h
          refine ⟨(insP_perm.map _).trans (p1.cons x), insP_pw p2 (by simpa using c), fun q hq => ?_⟩
          rcases List.mem_cons.mp (insP_perm.mem_iff.mp hq) with rfl | hq
          · exact k
          · exact p3 q hq
theorem rvs_perm {Z : Zt} {ρ : List Addr} {H : Hp} {xs ys : List V} (p : ys.Perm xs) : ∀ {ms : List MV}, RVs Z ρ H ms xs → ∃ ns : List MV, ns.Perm ms ∧ RVs Z ρ H ns ys := by
  induction p with
  | nil => intro ms r; exact ⟨ms, .refl _, r⟩
  | cons x _ ih =>
    intro ms r
    cases r with
    | cons a r =>
      obtain ⟨ns, h1, h2⟩ := ih r
      exact ⟨_ :: ns, h1.cons _, .cons a h2⟩
  | swap x y l =>
    intro ms r
    cases r with
    | cons a r => cases r with
      | cons b r => exact ⟨_, .swap _ _ _, .cons b (.cons a r)⟩
  | trans _ _ ih1 ih2 =>
    intro ms r
    obtain ⟨n1, h1, h2⟩ := ih2 r
    obtain ⟨n2, h3, h4⟩ := ih1 h2
    exact ⟨n2, h3.trans h1, h4⟩
theorem fst_key {Z : Zt} {ρ : List Addr} {H : Hp} {x : MV} {v : V} {k : Int} (r : RV Z ρ H x v) (h : keyP x = some k) : fstK H v = k ∧ ∃ t w, v = V.ref t ∧ H t = some (.tup [.int k, w]) := by
  cases r with
  | @tup a xs vs h2 r2 =>
    cases r2 with
    | nil => cases h
    | cons a1 r2 => cases r2 with
      | nil => cases a1 <;> cases h
      | cons a2 r2 => cases r2 with
        | cons _ _ => cases a1 <;> cases h
        | nil =>
          cases a1 with
          | int n =>
            cases h
            exact ⟨by show (match H a with | some (.tup (.int i :: _)) => i | _ => 0) = _; rw [h2], a, _, rfl, h2⟩
          | _ => cases h
  | _ => cases h
theorem rvs_keys {Z : Zt} {ρ : List Addr} {H : Hp} : ∀ {ms : List MV} {vs : List V}, RVs Z ρ H ms vs → (∀ x ∈ ms, ∃ k, keyP x = some k) → ms.map keyP = vs.map fun v => some (fstK H v)
  | _, _, .nil, _ => rfl
  | _, _, .cons a r, h => by
    obtain ⟨k, hk⟩ := h _ List.mem_cons_self
    rw [List.map_cons, List.map_cons, rvs_keys r fun x m => h x (List.mem_cons_of_mem _ m), hk, (fst_key a hk).1]
theorem rvs_mem {Z : Zt} {ρ : List Addr} {H : Hp} : ∀ {ms : List MV} {vs : List V}, RVs Z ρ H ms vs → ∀ v ∈ vs, ∃ x ∈ ms, RV Z ρ H x v
  | _, _, .nil, _, h => by cases h
  | _, _, .cons a r, v, h => by
    rcases List.mem_cons.mp h with rfl | h
    · exact ⟨_, List.mem_cons_self, a⟩
    · obtain ⟨x, m, q⟩ := rvs_mem r v h
      exact ⟨x, List.mem_cons_of_mem _ m, q⟩
def mSortedK (x : MV) (h : MH) : Out MV := match x with
  | .ref i => match h.get i with
    | some (.lst xs) => match sortP xs with
      | some l => .ok (.ref h.n) (h.push (.lst (l.map (·.2))))
      | none => .bad
    | _ => .bad
  | _ => .bad
theorem mc_sortedK {Z : Zt} {E : XK} : CallM Z E (f1 mSortedK) (rSortedK Z.K) := .one fun ρ h H x v Q R r q => by
  cases r with
  | @ref i a hi =>
    have q' : Post Z (rV Z) ρ H Q E (match h.get i with
      | some (.lst xs) => match sortP xs with
        | some l => .ok (.ref h.n) (h.push (.lst (l.map (·.2))))
        | none => .bad
      | _ => .bad) := q
    cases g : h.get i with
    | none => rw [g] at q'; exact q'.elim
    | some ob =>
      rw [g] at q'
      cases ob with
      | lst xs =>
        dsimp only at q'
        obtain ⟨ws, h3, h4⟩ := R.obj g hi
        cases k : sortP xs with
        | none => rw [k] at q'; exact q'.elim
        | some l =>
          rw [k] at q'
          dsimp only at q'
          obtain ⟨p1, p2, p3⟩ := sortP_ok k
          have hk : ∀ x ∈ xs, ∃ k, keyP x = some k := fun x m => by
            obtain ⟨q, hq, rfl⟩ := List.mem_map.mp (p1.mem_iff.mpr m)
            exact ⟨_, p3 q hq⟩
          have nd : (xs.map keyP).Nodup := by
            refine (p1.map keyP).nodup_iff.mp ?_
            rw [List.map_map]
            have e : l.map (keyP ∘ fun p => p.2) = l.map fun p => some p.1 := List.map_congr_left fun p hp => p3 p hp
            rw [e]
            refine List.pairwise_map.mpr (p2.imp fun {a b} hab z => ?_)
            have := Option.some.inj z
            omega
          refine ⟨a, ws, rfl, h3, fun v hv => ?_, fun v hv u hu e => ?_, fun ys p s1 s2 hp => ?_⟩
          · obtain ⟨x, m, rx⟩ := rvs_mem h4 v hv
            obtain ⟨k', hk'⟩ := hk x m
            obtain ⟨e1, t, w, e2, e3⟩ := fst_key rx hk'
            exact ⟨t, w, e2, by rw [e1]; exact e3⟩
          · have nd2 : (ws.map fun v => some (fstK H v)).Nodup := by rw [← rvs_keys h4 hk]; exact nd
            obtain ⟨i1, g1, rfl⟩ := List.getElem_of_mem hv
            obtain ⟨i2, g2, rfl⟩ := List.getElem_of_mem hu
            have : i1 = i2 := by
              refine (List.getElem_inj (i := i1) (j := i2) (h₀ := by rw [List.length_map]; exact g1) (h₁ := by rw [List.length_map]; exact g2) nd2).mp ?_
              rw [List.getElem_map, List.getElem_map, e]
            subst this
            rfl
          · obtain ⟨ns, n1, n2⟩ := rvs_perm s2 h4
            have hkn : ∀ x ∈ ns, ∃ k, keyP x = some k := fun x m => hk x (n1.mem_iff.mp m)
            have en : ns = l.map (·.2) := by
              refine List.Perm.eq_of_pairwise (le := fun a b => ∀ k j, keyP a = some k → keyP b = some j → k ≤ j) (fun a b ma mb h1 h2 => ?_) ?_ ?_ (n1.trans p1.symm)
              · obtain ⟨k1, e1⟩ := hkn a ma
                have mb' : b ∈ xs := p1.mem_iff.mp mb
                obtain ⟨k2, e2⟩ := hk b mb'
                have ek : keyP a = keyP b := by
                  have c1 := h1 _ _ e1 e2
                  have c2 := h2 _ _ e2 e1
                  rw [e1, e2]
                  exact congrArg _ (by omega)
                obtain ⟨i1, g1, rfl⟩ := List.getElem_of_mem (n1.mem_iff.mp ma)
                obtain ⟨i2, g2, rfl⟩ := List.getElem_of_mem mb'
                have : i1 = i2 := by
                  refine (List.getElem_inj (i := i1) (j := i2) (h₀ := by rw [List.length_map]; exact g1) (h₁ := by rw [List.length_map]; exact g2) nd).mp ?_
                  rw [List.getElem_map, List.getElem_map, ek]
                subst this
                rfl
              · have e := rvs_keys n2 hkn
                have s3 : (ns.map keyP).Pairwise fun a b => ∀ k j, a = some k → b = some j → k ≤ j := by
                  rw [e]
                  refine List.pairwise_map.mpr (s1.imp fun {x y} h k j e1 e2 => ?_)
                  cases e1; cases e2; exact h
                exact List.pairwise_map.mp s3
              · refine List.pairwise_map.mpr ?_
                refine (List.Pairwise.imp_of_mem (fun {x y} hx hy hxy k j e1 e2 => ?_) p2)
                rw [p3 x hx] at e1
                rw [p3 y hy] at e2
                cases e1; cases e2; omega
            rw [en] at n2
            exact q' (ρ ++ [p]) _ _ (Ext.push hp) (R.push hp ⟨_, upd_same, RVs.ext (Ext.push hp) n2⟩) (.ref (by rw [← R.len]; simp))
      | _ => exact q'.elim
  | _ => exact q.elim
def isPairs (x : MV) (h : MH) : Bool := match x with
  | .ref i => match h.get i with
    | some (.lst (.tup _ :: _)) => true
    | _ => false
  | _ => false
def mSortedB (x : MV) (h : MH) : Out MV := if isPairs x h = true then mSortedK x h else mSortedA x h
abbrev rSortB (K : PySem.W.Frag) : List V → Hp → VK → Prop := fun xs H Q => rSortA K xs H Q ∨ rSortedK K xs H Q
theorem call_sortB {X : Cx} (hc : X.calm = true) : CallR X (.builtin "sorted") (rSortB X.K) := CallR.or (call_sortA hc) cr_sortedK
theorem mc_sortedB {Z : Zt} {E : XK} : CallM Z E (f1 mSortedB) (rSortB Z.K) := .one fun ρ h H x v Q R r q => by
  have q1 : Post Z (rV Z) ρ H Q E (mSortedB x h) := q
  unfold mSortedB at q1
  split at q1
  · exact .inr (mc_sortedK ρ h H [x] [v] Q R (.cons r .nil) q1)
  · exact .inl (mc_sortedA ρ h H [x] [v] Q R (.cons r .nil) q1)
def gLrg2 (a b : ME) : ME := fun m h => (a m h).bind fun x h1 => (b m h1).bind fun y h2 => match x, y with
  | .int i, .int j => if 0 ≤ i ∧ 0 ≤ j ∧ i ≤ 100000 ∧ j ≤ 100000 then .ok (.ref h2.n) (h2.push (.lst (rgM i j))) else .bad
  | _, _ => .bad
section
variable {X : Cx} {T : Nat → Addr} {E : XK} {a b : Expr} {ga gb : ME}
theorem je_listRg2 {p1 p2 q1 q2 : Pos} (hc : X.calm = true) (hg : Gl X "list") (hm : X.mg "list" = none) (hg2 : Gl X "range") (hm2 : X.mg "range" = none) (ha : JE X T E a ga) (hb : JE X T E b gb) (na : starEach [a, b] X.env = (false, eval a X.env) :: starEach [b] X.env := by rfl)
    (n2 : starEach [b] X.env = (false, eval b X.env) :: starEach [] X.env := by rfl) (hp : (backTo q2 (starEach [b] X.env)).any (·.1) = false := by rfl)
    (nb : starEach [.Call (.Name "range" p2) [a, b] [] q2] X.env = (false, eval (.Call (.Name "range" p2) [a, b] [] q2) X.env) :: starEach [] X.env := by rfl) :
    JE X T E (.Call (.Name "list" p1) [.Call (.Name "range" p2) [a, b] [] q2] [] q1) (gLrg2 ga gb) :=
  PE.le (pe_listRg hc hg hm (prg_2 hg2 hm2 ha hb na n2 hp) nb) fun σ H Q ⟨ρ, m, h, s, q⟩ => stepE s q fun ρ1 h1 H1 x v s1 e1 r1 q1 => stepE s1 q1 fun ρ2 h2 H2 y u s2 e2 r2 q2 => by
    have r1' := r1.ext e2
    cases r1' with
    | int i =>
      cases r2 with
      | int j =>
        have q3 : Post ⟨X.K, T⟩ (rV ⟨X.K, T⟩) ρ2 H2 Q E (if 0 ≤ i ∧ 0 ≤ j ∧ i ≤ 100000 ∧ j ≤ 100000 then .ok (.ref h2.n) (h2.push (.lst (rgM i j))) else .bad) := q2
        by_cases c : 0 ≤ i ∧ 0 ≤ j ∧ i ≤ 100000 ∧ j ≤ 100000
        · rw [if_pos c] at q3
          refine ⟨i, j, rfl, rfl, RgOk.of_le c.1 (by omega) (by omega) c.2.1, fun p hp => ?_⟩
          refine q3 (ρ2 ++ [p]) _ _ (Ext.push hp) (s2.hr.push hp ⟨_, upd_same, rgM_ok i j⟩) (.ref ?_)
          rw [← s2.hr.len]; simp
        · rw [if_neg c] at q3; exact q3.elim
      | _ => exact q2.elim
    | _ => cases r2 <;> exact q2.elim
end
end MI
set_option Elab.async false
set_option linter.all false
set_option maxRecDepth 100000
set_option maxHeartbeats 4000000
namespace MI
open PySem PySem.Spec PyProof.Rows L2 JB
section
variable {X : Cx} {T : Nat → Addr} {k : Nat} {f : Addr} {dm : List MV} {g : MF} {n : Nat} {x : Str} {p pos : Pos} {e : Expr} {es : List Expr} {ga : MA}
theorem je_callW (F : FM X.prog X.w X.K X.mg X.base T k f n dm g) (hs : JB.Still X.A) (hr : Room k X.A) (hg : Gl X x) (hm : X.mg x = some (.ref f)) (ha : ∀ E, JA X T E (e :: es) ga)
    (hdb : (x == ("__debug__" : Str)) = false := by decide) (he : starEach (e :: es) X.env = (false, eval e X.env) :: starEach es X.env := by rfl) (hpl : (backTo pos (starEach es X.env)).any (·.1) = false := by rfl) :
    JEW X T (.Call (.Name x p) (e :: es) [] pos) (gCall g dm n ga) := by
  obtain ⟨fd, ps, ds, dvs, rfl, F, hk, hb, hd, hdm⟩ := F.ex
  refine fun W tk => ⟨fun pins s σ H Q I ⟨ρ, m, h, sr, q⟩ => ?_⟩
  have M : tA ⟨X.K, T⟩ (EW W σ) ga σ H (fun vs H1 => spM ⟨X.K, T⟩ ps.length g (vs ++ dvs) H1 Q (EW W σ)) := stepA sr q fun ρ1 h1 H1 xs vs s1 e1 r1 q1 => by
    by_cases hn : xs.length + dm.length = ps.length
    · rw [if_pos hn] at q1
      exact go_sp s1.hr r1 (hdm _ _) hn q1
    · rw [if_neg hn] at q1
      exact q1.elim
  exact wpAny_Call_Name_kw (ld_glob I hg hm (PySem.W.callWith_K (h₀ := X.base) I.ok.mod.kin hk
    (thn ((ha (EW W σ)).run pos pins s σ H _ I M) fun us s1 ⟨vs, H1, I1, r, q1⟩ => ⟨I1.kIn, run_gL hs F hr hb hd (fun er s' c => tk er s' (XE.of_call (W := W) I1 (fun _ _ _ z => z) c)) I1 r q1⟩) he hpl) hdb)
end
end MI
set_option Elab.async false
set_option linter.all false
set_option maxRecDepth 100000
set_option maxHeartbeats 8000000
namespace K57
open PySem PySem.Spec PyProof.Rows L2 JB MI
def top (i : Nat) : Stmt := PySem.Challenge.pw_lastingrun_k57_a_known_store.main.body.getD i (.Pass ⟨0, 0, 0, 0⟩)
abbrev s_law_take : Stmt := top 35
abbrev d_law_take : He.DefD := ⟨("_law_take", none), "_law_take", "_law_take", defArgs s_law_take, defBody s_law_take, defScope s_law_take, [], []⟩
abbrev s_law_box : Stmt := top 34
abbrev d_law_box : He.DefD := ⟨("_law_box", none), "_law_box", "_law_box", defArgs s_law_box, defBody s_law_box, defScope s_law_box, [], []⟩
abbrev s_Disk__check_place : Stmt := inClass (top 32) 5
abbrev d_Disk__check_place : He.DefD := ⟨("Disk", some "_check_place"), "_check_place", "Disk._check_place", defArgs s_Disk__check_place, defBody s_Disk__check_place, defScope s_Disk__check_place, [], []⟩
abbrev s_Disk__count : Stmt := inClass (top 32) 6
abbrev d_Disk__count : He.DefD := ⟨("Disk", some "_count"), "_count", "Disk._count", defArgs s_Disk__count, defBody s_Disk__count, defScope s_Disk__count, [], []⟩
abbrev s_as_tuples : Stmt := top 30
abbrev d_as_tuples : He.DefD := ⟨("as_tuples", none), "as_tuples", "as_tuples", defArgs s_as_tuples, defBody s_as_tuples, defScope s_as_tuples, [], []⟩
abbrev s_Disk_write : Stmt := inClass (top 32) 4
abbrev d_Disk_write : He.DefD := ⟨("Disk", some "write"), "write", "Disk.write", defArgs s_Disk_write, defBody s_Disk_write, defScope s_Disk_write, [], []⟩
abbrev s_Disk_hold : Stmt := inClass (top 32) 1
abbrev d_Disk_hold : He.DefD := ⟨("Disk", some "hold"), "hold", "Disk.hold", defArgs s_Disk_hold, defBody s_Disk_hold, defScope s_Disk_hold, [], []⟩
abbrev s_Disk_barrier : Stmt := inClass (top 32) 8
abbrev d_Disk_barrier : He.DefD := ⟨("Disk", some "barrier"), "barrier", "Disk.barrier", defArgs s_Disk_barrier, defBody s_Disk_barrier, defScope s_Disk_barrier, [], []⟩
abbrev s_root_block : Stmt := top 16
abbrev d_root_block : He.DefD := ⟨("root_block", none), "root_block", "root_block", defArgs s_root_block, defBody s_root_block, defScope s_root_block, [], []⟩
abbrev s_make_store : Stmt := top 26
abbrev d_make_store : He.DefD := ⟨("make_store", none), "make_store", "make_store", defArgs s_make_store, defBody s_make_store, defScope s_make_store, [], []⟩
abbrev s_depth_for : Stmt := top 15
abbrev d_depth_for : He.DefD := ⟨("depth_for", none), "depth_for", "depth_for", defArgs s_depth_for, defBody s_depth_for, defScope s_depth_for, [], []⟩
abbrev s_root_parts : Stmt := top 17
abbrev d_root_parts : He.DefD := ⟨("root_parts", none), "root_parts", "root_parts", defArgs s_root_parts, defBody s_root_parts, defScope s_root_parts, [], []⟩
abbrev s_Disk_read : Stmt := inClass (top 32) 3
abbrev d_Disk_read : He.DefD := ⟨("Disk", some "read"), "read", "Disk.read", defArgs s_Disk_read, defBody s_Disk_read, defScope s_Disk_read, [], []⟩
abbrev s_newest_root : Stmt := top 18
abbrev d_newest_root : He.DefD := ⟨("newest_root", none), "newest_root", "newest_root", defArgs s_newest_root, defBody s_newest_root, defScope s_newest_root, [], []⟩
abbrev s_Tree___init : Stmt := inClass (top 23) 0
abbrev d_Tree___init : He.DefD := ⟨("Tree", some "__init__"), "__init__", "Tree.__init__", defArgs s_Tree___init, defBody s_Tree___init, defScope s_Tree___init, [], []⟩
abbrev s_read_tree : Stmt := top 24
abbrev d_read_tree : He.DefD := ⟨("read_tree", none), "read_tree", "read_tree", defArgs s_read_tree, defBody s_read_tree, defScope s_read_tree, [], []⟩
abbrev s_Store___init : Stmt := inClass (top 28) 0
abbrev d_Store___init : He.DefD := ⟨("Store", some "__init__"), "__init__", "Store.__init__", defArgs s_Store___init, defBody s_Store___init, defScope s_Store___init, [], []⟩
abbrev s_law_same : Stmt := top 36
abbrev d_law_same : He.DefD := ⟨("_law_same", none), "_law_same", "_law_same", defArgs s_law_same, defBody s_law_same, defScope s_law_same, [], []⟩
abbrev s_Disk___init : Stmt := inClass (top 32) 0
abbrev d_Disk___init : He.DefD := ⟨("Disk", some "__init__"), "__init__", "Disk.__init__", defArgs s_Disk___init, defBody s_Disk___init, defScope s_Disk___init, [], []⟩
abbrev s_without_end : Stmt := top 20
abbrev d_without_end : He.DefD := ⟨("without_end", none), "without_end", "without_end", defArgs s_without_end, defBody s_without_end, defScope s_without_end, [], []⟩
abbrev s_Memory___init : Stmt := inClass (top 21) 0
abbrev d_Memory___init : He.DefD := ⟨("Memory", some "__init__"), "__init__", "Memory.__init__", defArgs s_Memory___init, defBody s_Memory___init, defScope s_Memory___init, [.adr (He.dflAt ("Memory", some "__init__") 0)], []⟩
abbrev s_Memory__need_frozen : Stmt := inClass (top 21) 14
abbrev d_Memory__need_frozen : He.DefD := ⟨("Memory", some "_need_frozen"), "_need_frozen", "Memory._need_frozen", defArgs s_Memory__need_frozen, defBody s_Memory__need_frozen, defScope s_Memory__need_frozen, [], []⟩
abbrev s_Memory_frozen_many : Stmt := inClass (top 21) 11
abbrev d_Memory_frozen_many : He.DefD := ⟨("Memory", some "frozen_many"), "frozen_many", "Memory.frozen_many", defArgs s_Memory_frozen_many, defBody s_Memory_frozen_many, defScope s_Memory_frozen_many, [], []⟩
abbrev s_Memory_many : Stmt := inClass (top 21) 6
abbrev d_Memory_many : He.DefD := ⟨("Memory", some "many"), "many", "Memory.many", defArgs s_Memory_many, defBody s_Memory_many, defScope s_Memory_many, [], []⟩
abbrev s_Memory_page : Stmt := inClass (top 21) 7
abbrev d_Memory_page : He.DefD := ⟨("Memory", some "page"), "page", "Memory.page", defArgs s_Memory_page, defBody s_Memory_page, defScope s_Memory_page, [], []⟩
abbrev s_Memory_changed : Stmt := inClass (top 21) 8
abbrev d_Memory_changed : He.DefD := ⟨("Memory", some "changed"), "changed", "Memory.changed", defArgs s_Memory_changed, defBody s_Memory_changed, defScope s_Memory_changed, [], []⟩
abbrev s_Memory_freeze : Stmt := inClass (top 21) 9
abbrev d_Memory_freeze : He.DefD := ⟨("Memory", some "freeze"), "freeze", "Memory.freeze", defArgs s_Memory_freeze, defBody s_Memory_freeze, defScope s_Memory_freeze, [], []⟩
abbrev s_Memory_frozen : Stmt := inClass (top 21) 10
abbrev d_Memory_frozen : He.DefD := ⟨("Memory", some "frozen"), "frozen", "Memory.frozen", defArgs s_Memory_frozen, defBody s_Memory_frozen, defScope s_Memory_frozen, [], []⟩
abbrev s_Snapshot___init : Stmt := inClass (top 27) 0
abbrev d_Snapshot___init : He.DefD := ⟨("Snapshot", some "__init__"), "__init__", "Snapshot.__init__", defArgs s_Snapshot___init, defBody s_Snapshot___init, defScope s_Snapshot___init, [], []⟩
abbrev s_Tree_places : Stmt := inClass (top 23) 5
abbrev d_Tree_places : He.DefD := ⟨("Tree", some "places"), "places", "Tree.places", defArgs s_Tree_places, defBody s_Tree_places, defScope s_Tree_places, [], []⟩
abbrev s_Store_free : Stmt := inClass (top 28) 12
abbrev d_Store_free : He.DefD := ⟨("Store", some "free"), "free", "Store.free", defArgs s_Store_free, defBody s_Store_free, defScope s_Store_free, [], []⟩
abbrev s_Store_begin : Stmt := inClass (top 28) 5
abbrev d_Store_begin : He.DefD := ⟨("Store", some "begin"), "begin", "Store.begin", defArgs s_Store_begin, defBody s_Store_begin, defScope s_Store_begin, [], []⟩
abbrev s_Store__need_snapshot : Stmt := inClass (top 28) 10
abbrev d_Store__need_snapshot : He.DefD := ⟨("Store", some "_need_snapshot"), "_need_snapshot", "Store._need_snapshot", defArgs s_Store__need_snapshot, defBody s_Store__need_snapshot, defScope s_Store__need_snapshot, [], []⟩
abbrev s_Memory_thaw : Stmt := inClass (top 21) 13
abbrev d_Memory_thaw : He.DefD := ⟨("Memory", some "thaw"), "thaw", "Memory.thaw", defArgs s_Memory_thaw, defBody s_Memory_thaw, defScope s_Memory_thaw, [], []⟩
abbrev s_Store__write : Stmt := inClass (top 28) 9
abbrev d_Store__write : He.DefD := ⟨("Store", some "_write"), "_write", "Store._write", defArgs s_Store__write, defBody s_Store__write, defScope s_Store__write, [], []⟩
abbrev s_Store_step : Stmt := inClass (top 28) 6
abbrev d_Store_step : He.DefD := ⟨("Store", some "step"), "step", "Store.step", defArgs s_Store_step, defBody s_Store_step, defScope s_Store_step, [], []⟩
abbrev s_Memory_settle : Stmt := inClass (top 21) 12
abbrev d_Memory_settle : He.DefD := ⟨("Memory", some "settle"), "settle", "Memory.settle", defArgs s_Memory_settle, defBody s_Memory_settle, defScope s_Memory_settle, [], []⟩
abbrev s_Tree_parts_above : Stmt := inClass (top 23) 4
abbrev d_Tree_parts_above : He.DefD := ⟨("Tree", some "parts_above"), "parts_above", "Tree.parts_above", defArgs s_Tree_parts_above, defBody s_Tree_parts_above, defScope s_Tree_parts_above, [], []⟩
abbrev s_Tree_index : Stmt := inClass (top 23) 3
abbrev d_Tree_index : He.DefD := ⟨("Tree", some "index"), "index", "Tree.index", defArgs s_Tree_index, defBody s_Tree_index, defScope s_Tree_index, [], []⟩
abbrev s_Tree_place : Stmt := inClass (top 23) 2
abbrev d_Tree_place : He.DefD := ⟨("Tree", some "place"), "place", "Tree.place", defArgs s_Tree_place, defBody s_Tree_place, defScope s_Tree_place, [], []⟩
abbrev s_Store__write_level : Stmt := inClass (top 28) 8
abbrev d_Store__write_level : He.DefD := ⟨("Store", some "_write_level"), "_write_level", "Store._write_level", defArgs s_Store__write_level, defBody s_Store__write_level, defScope s_Store__write_level, [], []⟩
abbrev s_Tree_top : Stmt := inClass (top 23) 1
abbrev d_Tree_top : He.DefD := ⟨("Tree", some "top"), "top", "Tree.top", defArgs s_Tree_top, defBody s_Tree_top, defScope s_Tree_top, [], []⟩
abbrev s_Store_finish : Stmt := inClass (top 28) 7
abbrev d_Store_finish : He.DefD := ⟨("Store", some "finish"), "finish", "Store.finish", defArgs s_Store_finish, defBody s_Store_finish, defScope s_Store_finish, [], []⟩
abbrev s_Memory__keep : Stmt := inClass (top 21) 3
abbrev d_Memory__keep : He.DefD := ⟨("Memory", some "_keep"), "_keep", "Memory._keep", defArgs s_Memory__keep, defBody s_Memory__keep, defScope s_Memory__keep, [], []⟩
abbrev s_Memory_get : Stmt := inClass (top 21) 1
abbrev d_Memory_get : He.DefD := ⟨("Memory", some "get"), "get", "Memory.get", defArgs s_Memory_get, defBody s_Memory_get, defScope s_Memory_get, [], []⟩
abbrev s_Memory_put : Stmt := inClass (top 21) 2
abbrev d_Memory_put : He.DefD := ⟨("Memory", some "put"), "put", "Memory.put", defArgs s_Memory_put, defBody s_Memory_put, defScope s_Memory_put, [], []⟩
abbrev s_law_shot : Stmt := top 37
abbrev d_law_shot : He.DefD := ⟨("_law_shot", none), "_law_shot", "_law_shot", defArgs s_law_shot, defBody s_law_shot, defScope s_law_shot, [], []⟩
abbrev s_Store_many : Stmt := inClass (top 28) 3
abbrev d_Store_many : He.DefD := ⟨("Store", some "many"), "many", "Store.many", defArgs s_Store_many, defBody s_Store_many, defScope s_Store_many, [], []⟩
abbrev s_Store_page : Stmt := inClass (top 28) 4
abbrev d_Store_page : He.DefD := ⟨("Store", some "page"), "page", "Store.page", defArgs s_Store_page, defBody s_Store_page, defScope s_Store_page, [], []⟩
abbrev s_Disk_writes : Stmt := inClass (top 32) 7
abbrev d_Disk_writes : He.DefD := ⟨("Disk", some "writes"), "writes", "Disk.writes", defArgs s_Disk_writes, defBody s_Disk_writes, defScope s_Disk_writes, [], []⟩
abbrev s_Disk_image : Stmt := inClass (top 32) 12
abbrev d_Disk_image : He.DefD := ⟨("Disk", some "image"), "image", "Disk.image", defArgs s_Disk_image, defBody s_Disk_image, defScope s_Disk_image, [], []⟩
abbrev s_law_small_right : Stmt := top 38
abbrev d_law_small_right : He.DefD := ⟨("_law_small_right", none), "_law_small_right", "_law_small_right", defArgs s_law_small_right, defBody s_law_small_right, defScope s_law_small_right, [], []⟩
abbrev s_law_wide_right : Stmt := top 39
abbrev d_law_wide_right : He.DefD := ⟨("_law_wide_right", none), "_law_wide_right", "_law_wide_right", defArgs s_law_wide_right, defBody s_law_wide_right, defScope s_law_wide_right, [], []⟩
abbrev s_Disk_fail_after : Stmt := inClass (top 32) 10
abbrev d_Disk_fail_after : He.DefD := ⟨("Disk", some "fail_after"), "fail_after", "Disk.fail_after", defArgs s_Disk_fail_after, defBody s_Disk_fail_after, defScope s_Disk_fail_after, [], []⟩
abbrev s_Disk_crash : Stmt := inClass (top 32) 11
abbrev d_Disk_crash : He.DefD := ⟨("Disk", some "crash"), "crash", "Disk.crash", defArgs s_Disk_crash, defBody s_Disk_crash, defScope s_Disk_crash, [], []⟩
abbrev s_Store_newest : Stmt := inClass (top 28) 1
abbrev d_Store_newest : He.DefD := ⟨("Store", some "newest"), "newest", "Store.newest", defArgs s_Store_newest, defBody s_Store_newest, defScope s_Store_newest, [], []⟩
abbrev s_Disk_loose : Stmt := inClass (top 32) 9
abbrev d_Disk_loose : He.DefD := ⟨("Disk", some "loose"), "loose", "Disk.loose", defArgs s_Disk_loose, defBody s_Disk_loose, defScope s_Disk_loose, [], []⟩
abbrev s_law_lost_right : Stmt := top 40
abbrev d_law_lost_right : He.DefD := ⟨("_law_lost_right", none), "_law_lost_right", "_law_lost_right", defArgs s_law_lost_right, defBody s_law_lost_right, defScope s_law_lost_right, [], []⟩
abbrev s_law : Stmt := top 41
abbrev d_law : He.DefD := ⟨("law", none), "law", "law", defArgs s_law, defBody s_law, defScope s_law, [], []⟩
abbrev s_NoBlock___init : Stmt := inClass (top 3) 0
abbrev d_NoBlock___init : He.DefD := ⟨("NoBlock", some "__init__"), "__init__", "NoBlock.__init__", defArgs s_NoBlock___init, defBody s_NoBlock___init, defScope s_NoBlock___init, [], []⟩
abbrev s_Stopped___init : Stmt := inClass (top 6) 0
abbrev d_Stopped___init : He.DefD := ⟨("Stopped", some "__init__"), "__init__", "Stopped.__init__", defArgs s_Stopped___init, defBody s_Stopped___init, defScope s_Stopped___init, [], []⟩
abbrev s_NoRoot___init : Stmt := inClass (top 7) 0
abbrev d_NoRoot___init : He.DefD := ⟨("NoRoot", some "__init__"), "__init__", "NoRoot.__init__", defArgs s_NoRoot___init, defBody s_NoRoot___init, defScope s_NoRoot___init, [], []⟩
abbrev s_Idle___init : Stmt := inClass (top 5) 0
abbrev d_Idle___init : He.DefD := ⟨("Idle", some "__init__"), "__init__", "Idle.__init__", defArgs s_Idle___init, defBody s_Idle___init, defScope s_Idle___init, [], []⟩
abbrev s_Busy___init : Stmt := inClass (top 4) 0
abbrev d_Busy___init : He.DefD := ⟨("Busy", some "__init__"), "__init__", "Busy.__init__", defArgs s_Busy___init, defBody s_Busy___init, defScope s_Busy___init, [], []⟩
abbrev s_Full___init : Stmt := inClass (top 8) 0
abbrev d_Full___init : He.DefD := ⟨("Full", some "__init__"), "__init__", "Full.__init__", defArgs s_Full___init, defBody s_Full___init, defScope s_Full___init, [], []⟩
abbrev s_NoLoose___init : Stmt := inClass (top 2) 0
abbrev d_NoLoose___init : He.DefD := ⟨("NoLoose", some "__init__"), "__init__", "NoLoose.__init__", defArgs s_NoLoose___init, defBody s_NoLoose___init, defScope s_NoLoose___init, [], []⟩
def fn : List He.DefD := [d_law_take, d_law_box, d_Disk__check_place, d_Disk__count, d_as_tuples, d_Disk_write, d_Disk_hold, d_Disk_barrier, d_root_block, d_make_store, d_depth_for, d_root_parts, d_Disk_read, d_newest_root, d_Tree___init, d_read_tree, d_Store___init, d_law_same, d_Disk___init, d_without_end, d_Memory___init, d_Memory__need_frozen, d_Memory_frozen_many, d_Memory_many, d_Memory_page, d_Memory_changed, d_Memory_freeze, d_Memory_frozen, d_Snapshot___init, d_Tree_places, d_Store_free, d_Store_begin, d_Store__need_snapshot, d_Memory_thaw, d_Store__write, d_Store_step, d_Memory_settle, d_Tree_parts_above, d_Tree_index, d_Tree_place, d_Store__write_level, d_Tree_top, d_Store_finish, d_Memory__keep, d_Memory_get, d_Memory_put, d_law_shot, d_Store_many, d_Store_page, d_Disk_writes, d_Disk_image, d_law_small_right, d_law_wide_right, d_Disk_fail_after, d_Disk_crash, d_Store_newest, d_Disk_loose, d_law_lost_right, d_law, d_NoBlock___init, d_Stopped___init, d_NoRoot___init, d_Idle___init, d_Busy___init, d_Full___init, d_NoLoose___init]
def fa : List He.Fa := [.glo "law", .free "abs", .free "int", .cls "Disk", .noat "Disk" "_shown", .free "len", .glo "NoBlock", .glo "Disk", .noat "Disk" "_left", .glo "Stopped", .free "tuple", .free "list", .free "isinstance", .free "reversed", .meth "Disk" "_check_place", .meth "Disk" "_count", .glo "as_tuples", .noat "Disk" "_loose", .noat "Disk" "_writes", .noat "Disk" "_lasting", .meth "Disk" "hold", .str "KIND" "root", .meth "Disk" "write", .glo "root_block", .meth "Disk" "barrier", .int "FAN" 4, .int "HEAD" 5, .int "MOST_FACTS" 16, .free "all", .glo "depth_for", .free "range", .glo "root_parts", .meth "Disk" "read", .cls "Tree", .noat "Tree" "depth", .noat "Tree" "many", .noat "Tree" "levels", .glo "Tree", .mkr "Tree", .free "enumerate", .glo "newest_root", .glo "NoRoot", .cls "Store", .noat "Store" "_disk", .noat "Store" "_low", .noat "Store" "_high", .noat "Store" "_facts", .noat "Store" "_number", .glo "read_tree", .noat "Store" "_tree", .noat "Store" "_snapshot", .glo "Store", .free "repr", .cls "Memory", .noat "Memory" "_rows", .glo "without_end", .int "PAGE" 8, .noat "Memory" "_base", .noat "Memory" "_kept", .noat "Memory" "_kept_many", .noat "Memory" "_puts", .glo "Memory", .glo "Idle", .meth "Memory" "_need_frozen", .free "max", .meth "Memory" "page", .free "sorted", .glo "Busy", .meth "Memory" "many", .meth "Memory" "changed", .cls "Snapshot", .noat "Snapshot" "memory", .noat "Snapshot" "facts", .noat "Snapshot" "free", .meth "Memory" "freeze", .meth "Memory" "frozen_many", .noat "Snapshot" "tree", .meth "Memory" "frozen", .noat "Snapshot" "rest", .glo "Snapshot", .meth "Tree" "places", .mkr "Snapshot", .meth "Store" "free", .meth "Memory" "thaw", .glo "Full", .meth "Store" "_need_snapshot", .meth "Store" "_write", .meth "Tree" "parts_above", .meth "Tree" "index", .meth "Tree" "place", .meth "Store" "step", .meth "Store" "_write_level", .meth "Tree" "top", .meth "Memory" "settle", .meth "Memory" "get", .meth "Memory" "_keep", .meth "Memory" "put", .meth "Store" "begin", .meth "Store" "finish", .meth "Store" "many", .mkr "Disk", .mkr "Memory", .glo "make_store", .mkr "Store", .glo "_law_shot", .meth "Disk" "image", .glo "_law_same", .meth "Store" "page", .meth "Disk" "writes", .glo "NoLoose", .meth "Disk" "fail_after", .meth "Disk" "loose", .meth "Disk" "crash", .meth "Store" "newest", .glo "_law_take", .glo "_law_box", .glo "_law_small_right", .glo "_law_wide_right", .glo "_law_lost_right", .free "LookupError", .free "RuntimeError", .free "OverflowError", .free "ValueError"]
def fc : List Fc := [.etup ("Memory", some "__init__") 0, .raw (exmB "NoLoose" ["Busy", "Full", "Idle", "NoRoot", "Stopped"] false), .raw (exmB "NoBlock" ["Busy", "Full", "Idle", "NoRoot", "Stopped"] false), .raw (exmB "Busy" ["Busy", "Full", "Idle", "NoRoot", "Stopped"] true), .raw (exmB "Idle" ["Busy", "Full", "Idle", "NoRoot", "Stopped"] true), .raw (exmB "Stopped" ["Busy", "Full", "Idle", "NoRoot", "Stopped"] true), .raw (exmB "NoRoot" ["Busy", "Full", "Idle", "NoRoot", "Stopped"] true), .raw (exmB "Full" ["Busy", "Full", "Idle", "NoRoot", "Stopped"] true), .raw (kit1B "NoLoose" (.inl "Stopped") false), .raw (exkB "NoLoose" 0), .raw (kit1B "NoBlock" (.inl "Stopped") false), .raw (exkB "NoBlock" 1), .raw (kit1B "Busy" (.inl "Stopped") false), .raw (exkB "Busy" 2), .raw (kit1B "Idle" (.inl "Stopped") false), .raw (exkB "Idle" 2), .raw (kit1B "Stopped" (.inl "Stopped") true), .raw (exkB "Stopped" 2), .raw (kit1B "NoRoot" (.inl "Stopped") false), .raw (exkB "NoRoot" 2), .raw (kit1B "Full" (.inl "Stopped") false), .raw (exkB "Full" 3), .raw (clsGB), .raw (exiB "NoBlock" 1), .raw (nofB "NoBlock" "place"), .raw (exiB "Stopped" 2), .raw (exiB "NoRoot" 2), .raw (exiB "Idle" 2), .raw (exiB "Busy" 2), .raw (exiB "Full" 3), .raw (nofB "Full" "count"), .raw (exiB "NoLoose" 0), .raw (nofB "NoLoose" "number")]
def cn : Nat → Str
  | 0 => "Memory"
  | 1 => "Tree"
  | 2 => "Snapshot"
  | 3 => "Store"
  | 4 => "Disk"
  | 5 => "NoBlock"
  | 6 => "Stopped"
  | 7 => "NoRoot"
  | 8 => "Idle"
  | 9 => "Busy"
  | 10 => "Full"
  | 11 => "NoLoose"
  | _ => "_"
abbrev tN (K : PySem.W.Frag) : Nat → Addr := fun i => He.ga K (cn i)
abbrev W (K : PySem.W.Frag) (mg : Str → Option Value) : Prop := Fx fa fn fc K mg
theorem n__shown : ("_shown" : Str) = nm 4462132414599151834275831881924703 := by decide +kernel
theorem n_place : ("place" : Str) = nm 1953625037611499005686055024 := by decide +kernel
theorem n__left : ("_left" : Str) = nm 2243767261989143710365909087 := by decide +kernel
theorem n__check_place : ("_check_place" : Str) = nm 348538353417950755963802525141600950949726012270321967488514151921221727 := by decide +kernel
theorem n__count : ("_count" : Str) = nm 4705521155757709195119605160345695 := by decide +kernel
theorem n__loose : ("_loose" : Str) = nm 4097048964362169311339300488478815 := by decide +kernel
theorem n__writes : ("_writes" : Str) = nm 9783122146025964529499104918003653804127 := by decide +kernel
theorem n__lasting : ("_lasting" : Str) = nm 18375823401358583102693711332145945774615691359 := by decide +kernel
theorem n_hold : ("hold" : Str) = nm 922337678674733564008 := by decide +kernel
theorem n_write : ("write" : Str) = nm 1953625194408858816601915511 := by decide +kernel
theorem n_barrier : ("barrier" : Str) = nm 9698051554295517142772019439742610309218 := by decide +kernel
theorem n_read : ("read" : Str) = nm 922337630296200970354 := by decide +kernel
theorem n_depth : ("depth" : Str) = nm 2011653633750391803286126692 := by decide +kernel
theorem n_many : ("many" : Str) = nm 1116028500244747518061 := by decide +kernel
theorem n_levels : ("levels" : Str) = nm 4664956297864632052681773720535148 := by decide +kernel
theorem n__disk : ("_disk" : Str) = nm 2069682063868491180489572447 := by decide +kernel
theorem n__low : ("_low" : Str) = nm 1097581760569107546207 := by decide +kernel
theorem n__high : ("_high" : Str) = nm 2011653513846524537854754911 := by decide +kernel
theorem n__facts : ("_facts" : Str) = nm 4664956452607118516517875398738015 := by decide +kernel
theorem n__number : ("_number" : Str) = nm 9698051554295381743034105754284936134751 := by decide +kernel
theorem n__tree : ("_tree" : Str) = nm 1953625056058317846203072607 := by decide +kernel
theorem n__snapshot : ("_snapshot" : Str) = nm 43400772425249076700374875251346462017735525220221023 := by decide +kernel
theorem n__rows : ("_rows" : Str) = nm 2224424605672678250579492959 := by decide +kernel
theorem n__base : ("_base" : Str) = nm 1953625185185451595341496415 := by decide +kernel
theorem n__kept : ("_kept" : Str) = nm 2243767354222864078911570015 := by decide +kernel
theorem n__kept_many : ("_kept_many" : Str) = nm 94941204903626959178789249757594317142006096203679912689759 := by decide +kernel
theorem n__puts : ("_puts" : Str) = nm 2224424578002588528290037855 := by decide +kernel
theorem n__need_frozen : ("_need_frozen" : Str) = nm 379596215269537023593716527823455569553730270615374589765347872264421471 := by decide +kernel
theorem n_page : ("page" : Str) = nm 931561028721326424176 := by decide +kernel
theorem n_changed : ("changed" : Str) = nm 8507063270072193834987087082683635859555 := by decide +kernel
theorem n_memory : ("memory" : Str) = nm 4908345329165423014454327636918381 := by decide +kernel
theorem n_facts : ("facts" : Str) = nm 2224424578002509363421380710 := by decide +kernel
theorem n_free : ("free" : Str) = nm 931561019925269053542 := by decide +kernel
theorem n_freeze : ("freeze" : Str) = nm 4097049099761768874413419055284326 := by decide +kernel
theorem n_frozen_many : ("frozen_many" : Str) = nm 199106137746051084695716232707638193993864354095133304521565929574 := by decide +kernel
theorem n_tree : ("tree" : Str) = nm 931561019925269053556 := by decide +kernel
theorem n_frozen : ("frozen" : Str) = nm 4462132066428617242385821292560486 := by decide +kernel
theorem n_rest : ("rest" : Str) = nm 1069911662050714583154 := by decide +kernel
theorem n_places : ("places" : Str) = nm 4664956162464921809006873481838704 := by decide +kernel
theorem n_thaw : ("thaw" : Str) = nm 1097581698996448002164 := by decide +kernel
theorem n_count : ("count" : Str) = nm 2243767335776190373954584675 := by decide +kernel
theorem n__need_snapshot : ("_need_snapshot" : Str) = nm 1760544486887544945401134325370868396511515351509288434565822573596797015893808775263 := by decide +kernel
theorem n__write : ("_write" : Str) = nm 4097048983704927084954340317724767 := by decide +kernel
theorem n_parts_above : ("parts_above" : Str) = nm 166196052876733937259203341441009329260313286344994585974790946928 := by decide +kernel
theorem n_index : ("index" : Str) = nm 2321138505221103542650011753 := by decide +kernel
theorem n_step : ("step" : Str) = nm 1033018112330675781747 := by decide +kernel
theorem n__write_level : ("_write_level" : Str) = nm 372694468922743321251672633358793149712597491426945796269437328614752351 := by decide +kernel
theorem n_top : ("top" : Str) = nm 492581442027636 := by decide +kernel
theorem n_settle : ("settle" : Str) = nm 4097048828962523631383007413141619 := by decide +kernel
theorem n_get : ("get" : Str) = nm 510173607100519 := by decide +kernel
theorem n__keep : ("_keep" : Str) = nm 2166396000310435406327840863 := by decide +kernel
theorem n_put : ("put" : Str) = nm 510173640654960 := by decide +kernel
theorem n_begin : ("begin" : Str) = nm 2127710410976264216236785762 := by decide +kernel
theorem n_finish : ("finish" : Str) = nm 4218743421984023993646364814737510 := by decide +kernel
theorem n_image : ("image" : Str) = nm 1953625074504987153107255401 := by decide +kernel
theorem n_writes : ("writes" : Str) = nm 4664956162465078606366684397699191 := by decide +kernel
theorem n_number : ("number" : Str) = nm 4624391343257609244839718701498478 := by decide +kernel
theorem n_fail_after : ("fail_after" : Str) = nm 89448737517867230812707293064732857783211392600279667966054 := by decide +kernel
theorem n_loose : ("loose" : Str) = nm 1953625185185513168019914860 := by decide +kernel
theorem n_crash : ("crash" : Str) = nm 2011653624526953795760947299 := by decide +kernel
theorem n_newest : ("newest" : Str) = nm 4705521252471627190372533836709998 := by decide +kernel
section
variable {P : Program} {w : World} {K : PySem.W.Frag} {mg : Str → Option Value} {base : Heap}
theorem fk_Disk__shown (F : W K mg) : FldOk K (tN K) [4] 4462132414599151834275831881924703 := fun c hc => by
  obtain rfl := List.mem_singleton.mp hc
  exact ⟨F.cls 3, by rw [← n__shown]; exact F.noat 4⟩
theorem fk_Disk__left (F : W K mg) : FldOk K (tN K) [4] 2243767261989143710365909087 := fun c hc => by
  obtain rfl := List.mem_singleton.mp hc
  exact ⟨F.cls 3, by rw [← n__left]; exact F.noat 8⟩
theorem fk_Disk__loose (F : W K mg) : FldOk K (tN K) [4] 4097048964362169311339300488478815 := fun c hc => by
  obtain rfl := List.mem_singleton.mp hc
  exact ⟨F.cls 3, by rw [← n__loose]; exact F.noat 17⟩
theorem fk_Disk__writes (F : W K mg) : FldOk K (tN K) [4] 9783122146025964529499104918003653804127 := fun c hc => by
  obtain rfl := List.mem_singleton.mp hc
  exact ⟨F.cls 3, by rw [← n__writes]; exact F.noat 18⟩
theorem fk_Disk__lasting (F : W K mg) : FldOk K (tN K) [4] 18375823401358583102693711332145945774615691359 := fun c hc => by
  obtain rfl := List.mem_singleton.mp hc
  exact ⟨F.cls 3, by rw [← n__lasting]; exact F.noat 19⟩
theorem fk_Tree_depth (F : W K mg) : FldOk K (tN K) [1] 2011653633750391803286126692 := fun c hc => by
  obtain rfl := List.mem_singleton.mp hc
  exact ⟨F.cls 33, by rw [← n_depth]; exact F.noat 34⟩
theorem fk_Tree_many (F : W K mg) : FldOk K (tN K) [1] 1116028500244747518061 := fun c hc => by
  obtain rfl := List.mem_singleton.mp hc
  exact ⟨F.cls 33, by rw [← n_many]; exact F.noat 35⟩
theorem fk_Tree_levels (F : W K mg) : FldOk K (tN K) [1] 4664956297864632052681773720535148 := fun c hc => by
  obtain rfl := List.mem_singleton.mp hc
  exact ⟨F.cls 33, by rw [← n_levels]; exact F.noat 36⟩
theorem fk_Store__disk (F : W K mg) : FldOk K (tN K) [3] 2069682063868491180489572447 := fun c hc => by
  obtain rfl := List.mem_singleton.mp hc
  exact ⟨F.cls 42, by rw [← n__disk]; exact F.noat 43⟩
theorem fk_Store__low (F : W K mg) : FldOk K (tN K) [3] 1097581760569107546207 := fun c hc => by
  obtain rfl := List.mem_singleton.mp hc
  exact ⟨F.cls 42, by rw [← n__low]; exact F.noat 44⟩
theorem fk_Store__high (F : W K mg) : FldOk K (tN K) [3] 2011653513846524537854754911 := fun c hc => by
  obtain rfl := List.mem_singleton.mp hc
  exact ⟨F.cls 42, by rw [← n__high]; exact F.noat 45⟩
theorem fk_Store__facts (F : W K mg) : FldOk K (tN K) [3] 4664956452607118516517875398738015 := fun c hc => by
  obtain rfl := List.mem_singleton.mp hc
  exact ⟨F.cls 42, by rw [← n__facts]; exact F.noat 46⟩
theorem fk_Store__number (F : W K mg) : FldOk K (tN K) [3] 9698051554295381743034105754284936134751 := fun c hc => by
  obtain rfl := List.mem_singleton.mp hc
  exact ⟨F.cls 42, by rw [← n__number]; exact F.noat 47⟩
theorem fk_Store__tree (F : W K mg) : FldOk K (tN K) [3] 1953625056058317846203072607 := fun c hc => by
  obtain rfl := List.mem_singleton.mp hc
  exact ⟨F.cls 42, by rw [← n__tree]; exact F.noat 49⟩
theorem fk_Store__snapshot (F : W K mg) : FldOk K (tN K) [3] 43400772425249076700374875251346462017735525220221023 := fun c hc => by
  obtain rfl := List.mem_singleton.mp hc
  exact ⟨F.cls 42, by rw [← n__snapshot]; exact F.noat 50⟩
theorem fk_Memory__rows (F : W K mg) : FldOk K (tN K) [0] 2224424605672678250579492959 := fun c hc => by
  obtain rfl := List.mem_singleton.mp hc
  exact ⟨F.cls 53, by rw [← n__rows]; exact F.noat 54⟩
theorem fk_Memory__base (F : W K mg) : FldOk K (tN K) [0] 1953625185185451595341496415 := fun c hc => by
  obtain rfl := List.mem_singleton.mp hc
  exact ⟨F.cls 53, by rw [← n__base]; exact F.noat 57⟩
theorem fk_Memory__kept (F : W K mg) : FldOk K (tN K) [0] 2243767354222864078911570015 := fun c hc => by
  obtain rfl := List.mem_singleton.mp hc
  exact ⟨F.cls 53, by rw [← n__kept]; exact F.noat 58⟩
theorem fk_Memory__kept_many (F : W K mg) : FldOk K (tN K) [0] 94941204903626959178789249757594317142006096203679912689759 := fun c hc => by
  obtain rfl := List.mem_singleton.mp hc
  exact ⟨F.cls 53, by rw [← n__kept_many]; exact F.noat 59⟩
theorem fk_Memory__puts (F : W K mg) : FldOk K (tN K) [0] 2224424578002588528290037855 := fun c hc => by
  obtain rfl := List.mem_singleton.mp hc
  exact ⟨F.cls 53, by rw [← n__puts]; exact F.noat 60⟩
theorem fk_Snapshot_memory (F : W K mg) : FldOk K (tN K) [2] 4908345329165423014454327636918381 := fun c hc => by
  obtain rfl := List.mem_singleton.mp hc
  exact ⟨F.cls 70, by rw [← n_memory]; exact F.noat 71⟩
theorem fk_Snapshot_facts (F : W K mg) : FldOk K (tN K) [2] 2224424578002509363421380710 := fun c hc => by
  obtain rfl := List.mem_singleton.mp hc
  exact ⟨F.cls 70, by rw [← n_facts]; exact F.noat 72⟩
theorem fk_Snapshot_free (F : W K mg) : FldOk K (tN K) [2] 931561019925269053542 := fun c hc => by
  obtain rfl := List.mem_singleton.mp hc
  exact ⟨F.cls 70, by rw [← n_free]; exact F.noat 73⟩
theorem fk_Snapshot_tree (F : W K mg) : FldOk K (tN K) [2] 931561019925269053556 := fun c hc => by
  obtain rfl := List.mem_singleton.mp hc
  exact ⟨F.cls 70, by rw [← n_tree]; exact F.noat 76⟩
theorem fk_Snapshot_rest (F : W K mg) : FldOk K (tN K) [2] 1069911662050714583154 := fun c hc => by
  obtain rfl := List.mem_singleton.mp hc
  exact ⟨F.cls 70, by rw [← n_rest]; exact F.noat 78⟩
end
end K57
set_option Elab.async false
set_option linter.all false
set_option maxRecDepth 100000
set_option maxHeartbeats 8000000
namespace K57
open PySem PySem.Spec PyProof.Rows L2 JB MI
section
variable {P : Program} {w : World} {K : PySem.W.Frag} {mg : Str → Option Value} {base : Heap}
theorem er_NoBlock (F : W K mg) : ErK P w K mg base "NoBlock" (tN K 5) 1 (spE1 (tN K 5) "place") := by
  obtain ⟨fd, D⟩ := F.c.def_ 59 (d := d_NoBlock___init) rfl
  have iz := exi_of (k := 1) (F.extra 23 (f := .raw (exiB "NoBlock" 1)))
  have T := exk_of (k := 1) (F.extra 11 (f := .raw (exkB "NoBlock" 1)))
  have n0 := nof_of (F.extra 24 (f := .raw (nofB "NoBlock" "place")))
  refine ⟨⟨_, _, _, _, He.fAd K d_NoBlock___init.at_, fd, ["self", "place"], bB_ok 1, T, iz.1, iz.2.1, FnG.of (D.ok (CX := CX0) (k := 0) (N := ["self", "place"]) ⟨rfl, rfl, rfl, by decide +kernel, rfl, by decide +kernel, by decide +kernel⟩ (fun vs H Q E h => ?_) (fun cdv A outer s H vs Q E hr h => ?_)), D.bindsN (fun _ _ _ _ _ _ us hl => match us, hl with | [_, _], _ => rfl), rfl⟩, F.glo 6⟩
  · obtain ⟨a, v, rfl, _⟩ := h; rfl
  · obtain ⟨a, v, rfl, ha, hv, hq⟩ := h
    refine ⟨_, pss_cons (ps_expr (pe_bin (bB_ok 1) (by rfl) (F.free 119) (by decide +kernel) (tyErr 1) (stErr 1) iz.2.2 (hdErr 1) (pa_cons (pv 0) (pa_cons (pe_joined (.cons pe_str (.cons (pe_fmt (pv 1)) (.nil)))) pa_nil)))) (pss_one (ps_setE (pv 0) (pv 1))), ?_⟩
    refine ⟨_, rfl, ?_⟩
    have l0 := lenPlus lenNone (b := Str.ofString "the disk has no block ") (m := 400) (by decide +kernel)
    refine ⟨_, rfl, lenLine l0, ?_⟩
    refine ⟨_, rfl, show_shortV hv fun y1 z1 => ?_⟩
    have l1 := lenPlus l0 z1
    refine ⟨_, rfl, lenLine l1, ?_⟩
    refine ⟨a, _, _, rfl, (by show 1 ≤ 1000; decide), T, ha, ?_⟩
    refine ⟨_, rfl, _, rfl, a, _, rfl, isEx_of (k := 1) (F.extra 11 (f := .raw (exkB "NoBlock" 1))), n0, .inl ⟨ha, fun dx m1 m2 => ?_⟩⟩
    exact hq dx m1 m2
theorem er_Stopped (F : W K mg) : ErK P w K mg base "Stopped" (tN K 6) 0 (spE0 (tN K 6)) := by
  obtain ⟨fd, D⟩ := F.c.def_ 60 (d := d_Stopped___init) rfl
  have iz := exi_of (k := 2) (F.extra 25 (f := .raw (exiB "Stopped" 2)))
  have T := exk_of (k := 2) (F.extra 17 (f := .raw (exkB "Stopped" 2)))
  refine ⟨⟨_, _, _, _, He.fAd K d_Stopped___init.at_, fd, ["self"], bB_ok 2, T, iz.1, iz.2.1, FnG.of (D.ok (CX := CX0) (k := 0) (N := ["self"]) ⟨rfl, rfl, rfl, by decide +kernel, rfl, by decide +kernel, by decide +kernel⟩ (fun vs H Q E h => ?_) (fun cdv A outer s H vs Q E hr h => ?_)), D.bindsN (fun _ _ _ _ _ _ us hl => match us, hl with | [_], _ => rfl), rfl⟩, F.glo 9⟩
  · obtain ⟨a, rfl, _⟩ := h; rfl
  · obtain ⟨a, rfl, ha, hq⟩ := h
    exact ⟨_, pss_one (ps_expr (pe_bin (bB_ok 2) (by rfl) (F.free 120) (by decide +kernel) (tyErr 2) (stErr 2) iz.2.2 (hdErr 2) (pa_cons (pv 0) (pa_cons pe_str pa_nil)))), ⟨_, rfl, a, _, _, rfl, (by show 1 ≤ 1000; decide), T, ha, hq⟩⟩
theorem er_NoRoot (F : W K mg) : ErK P w K mg base "NoRoot" (tN K 7) 0 (spE0 (tN K 7)) := by
  obtain ⟨fd, D⟩ := F.c.def_ 61 (d := d_NoRoot___init) rfl
  have iz := exi_of (k := 2) (F.extra 26 (f := .raw (exiB "NoRoot" 2)))
  have T := exk_of (k := 2) (F.extra 19 (f := .raw (exkB "NoRoot" 2)))
  refine ⟨⟨_, _, _, _, He.fAd K d_NoRoot___init.at_, fd, ["self"], bB_ok 2, T, iz.1, iz.2.1, FnG.of (D.ok (CX := CX0) (k := 0) (N := ["self"]) ⟨rfl, rfl, rfl, by decide +kernel, rfl, by decide +kernel, by decide +kernel⟩ (fun vs H Q E h => ?_) (fun cdv A outer s H vs Q E hr h => ?_)), D.bindsN (fun _ _ _ _ _ _ us hl => match us, hl with | [_], _ => rfl), rfl⟩, F.glo 41⟩
  · obtain ⟨a, rfl, _⟩ := h; rfl
  · obtain ⟨a, rfl, ha, hq⟩ := h
    exact ⟨_, pss_one (ps_expr (pe_bin (bB_ok 2) (by rfl) (F.free 120) (by decide +kernel) (tyErr 2) (stErr 2) iz.2.2 (hdErr 2) (pa_cons (pv 0) (pa_cons pe_str pa_nil)))), ⟨_, rfl, a, _, _, rfl, (by show 1 ≤ 1000; decide), T, ha, hq⟩⟩
theorem er_Idle (F : W K mg) : ErK P w K mg base "Idle" (tN K 8) 0 (spE0 (tN K 8)) := by
  obtain ⟨fd, D⟩ := F.c.def_ 62 (d := d_Idle___init) rfl
  have iz := exi_of (k := 2) (F.extra 27 (f := .raw (exiB "Idle" 2)))
  have T := exk_of (k := 2) (F.extra 15 (f := .raw (exkB "Idle" 2)))
  refine ⟨⟨_, _, _, _, He.fAd K d_Idle___init.at_, fd, ["self"], bB_ok 2, T, iz.1, iz.2.1, FnG.of (D.ok (CX := CX0) (k := 0) (N := ["self"]) ⟨rfl, rfl, rfl, by decide +kernel, rfl, by decide +kernel, by decide +kernel⟩ (fun vs H Q E h => ?_) (fun cdv A outer s H vs Q E hr h => ?_)), D.bindsN (fun _ _ _ _ _ _ us hl => match us, hl with | [_], _ => rfl), rfl⟩, F.glo 62⟩
  · obtain ⟨a, rfl, _⟩ := h; rfl
  · obtain ⟨a, rfl, ha, hq⟩ := h
    exact ⟨_, pss_one (ps_expr (pe_bin (bB_ok 2) (by rfl) (F.free 120) (by decide +kernel) (tyErr 2) (stErr 2) iz.2.2 (hdErr 2) (pa_cons (pv 0) (pa_cons pe_str pa_nil)))), ⟨_, rfl, a, _, _, rfl, (by show 1 ≤ 1000; decide), T, ha, hq⟩⟩
theorem er_Busy (F : W K mg) : ErK P w K mg base "Busy" (tN K 9) 0 (spE0 (tN K 9)) := by
  obtain ⟨fd, D⟩ := F.c.def_ 63 (d := d_Busy___init) rfl
  have iz := exi_of (k := 2) (F.extra 28 (f := .raw (exiB "Busy" 2)))
  have T := exk_of (k := 2) (F.extra 13 (f := .raw (exkB "Busy" 2)))
  refine ⟨⟨_, _, _, _, He.fAd K d_Busy___init.at_, fd, ["self"], bB_ok 2, T, iz.1, iz.2.1, FnG.of (D.ok (CX := CX0) (k := 0) (N := ["self"]) ⟨rfl, rfl, rfl, by decide +kernel, rfl, by decide +kernel, by decide +kernel⟩ (fun vs H Q E h => ?_) (fun cdv A outer s H vs Q E hr h => ?_)), D.bindsN (fun _ _ _ _ _ _ us hl => match us, hl with | [_], _ => rfl), rfl⟩, F.glo 67⟩
  · obtain ⟨a, rfl, _⟩ := h; rfl
  · obtain ⟨a, rfl, ha, hq⟩ := h
    exact ⟨_, pss_one (ps_expr (pe_bin (bB_ok 2) (by rfl) (F.free 120) (by decide +kernel) (tyErr 2) (stErr 2) iz.2.2 (hdErr 2) (pa_cons (pv 0) (pa_cons pe_str pa_nil)))), ⟨_, rfl, a, _, _, rfl, (by show 1 ≤ 1000; decide), T, ha, hq⟩⟩
theorem er_Full (F : W K mg) : ErK P w K mg base "Full" (tN K 10) 1 (spE1 (tN K 10) "count") := by
  obtain ⟨fd, D⟩ := F.c.def_ 64 (d := d_Full___init) rfl
  have iz := exi_of (k := 3) (F.extra 29 (f := .raw (exiB "Full" 3)))
  have T := exk_of (k := 3) (F.extra 21 (f := .raw (exkB "Full" 3)))
  have n0 := nof_of (F.extra 30 (f := .raw (nofB "Full" "count")))
  refine ⟨⟨_, _, _, _, He.fAd K d_Full___init.at_, fd, ["self", "count"], bB_ok 3, T, iz.1, iz.2.1, FnG.of (D.ok (CX := CX0) (k := 0) (N := ["self", "count"]) ⟨rfl, rfl, rfl, by decide +kernel, rfl, by decide +kernel, by decide +kernel⟩ (fun vs H Q E h => ?_) (fun cdv A outer s H vs Q E hr h => ?_)), D.bindsN (fun _ _ _ _ _ _ us hl => match us, hl with | [_, _], _ => rfl), rfl⟩, F.glo 84⟩
  · obtain ⟨a, v, rfl, _⟩ := h; rfl
  · obtain ⟨a, v, rfl, ha, hv, hq⟩ := h
    refine ⟨_, pss_cons (ps_expr (pe_bin (bB_ok 3) (by rfl) (F.free 121) (by decide +kernel) (tyErr 3) (stErr 3) iz.2.2 (hdErr 3) (pa_cons (pv 0) (pa_cons (pe_joined (.cons (pe_fmt (pv 1)) (.cons pe_str (.nil)))) pa_nil)))) (pss_one (ps_setE (pv 0) (pv 1))), ?_⟩
    refine ⟨_, rfl, ?_⟩
    refine ⟨_, rfl, show_shortV hv fun y0 z0 => ?_⟩
    have l0 := lenPlus lenNone z0
    refine ⟨_, rfl, lenLine l0, ?_⟩
    have l1 := lenPlus l0 (b := Str.ofString " blocks are too few") (m := 400) (by decide +kernel)
    refine ⟨_, rfl, lenLine l1, ?_⟩
    refine ⟨a, _, _, rfl, (by show 1 ≤ 1000; decide), T, ha, ?_⟩
    refine ⟨_, rfl, _, rfl, a, _, rfl, isEx_of (k := 3) (F.extra 21 (f := .raw (exkB "Full" 3))), n0, .inl ⟨ha, fun dx m1 m2 => ?_⟩⟩
    exact hq dx m1 m2
theorem er_NoLoose (F : W K mg) : ErK P w K mg base "NoLoose" (tN K 11) 1 (spE1 (tN K 11) "number") := by
  obtain ⟨fd, D⟩ := F.c.def_ 65 (d := d_NoLoose___init) rfl
  have iz := exi_of (k := 0) (F.extra 31 (f := .raw (exiB "NoLoose" 0)))
  have T := exk_of (k := 0) (F.extra 9 (f := .raw (exkB "NoLoose" 0)))
  have n0 := nof_of (F.extra 32 (f := .raw (nofB "NoLoose" "number")))
  refine ⟨⟨_, _, _, _, He.fAd K d_NoLoose___init.at_, fd, ["self", "number"], bB_ok 0, T, iz.1, iz.2.1, FnG.of (D.ok (CX := CX0) (k := 0) (N := ["self", "number"]) ⟨rfl, rfl, rfl, by decide +kernel, rfl, by decide +kernel, by decide +kernel⟩ (fun vs H Q E h => ?_) (fun cdv A outer s H vs Q E hr h => ?_)), D.bindsN (fun _ _ _ _ _ _ us hl => match us, hl with | [_, _], _ => rfl), rfl⟩, F.glo 109⟩
  · obtain ⟨a, v, rfl, _⟩ := h; rfl
  · obtain ⟨a, v, rfl, ha, hv, hq⟩ := h
    refine ⟨_, pss_cons (ps_expr (pe_bin (bB_ok 0) (by rfl) (F.free 122) (by decide +kernel) (tyErr 0) (stErr 0) iz.2.2 (hdErr 0) (pa_cons (pv 0) (pa_cons (pe_joined (.cons pe_str (.cons (pe_fmt (pv 1)) (.nil)))) pa_nil)))) (pss_one (ps_setE (pv 0) (pv 1))), ?_⟩
    refine ⟨_, rfl, ?_⟩
    have l0 := lenPlus lenNone (b := Str.ofString "there is no loose write ") (m := 400) (by decide +kernel)
    refine ⟨_, rfl, lenLine l0, ?_⟩
    refine ⟨_, rfl, show_shortV hv fun y1 z1 => ?_⟩
    have l1 := lenPlus l0 z1
    refine ⟨_, rfl, lenLine l1, ?_⟩
    refine ⟨a, _, _, rfl, (by show 1 ≤ 1000; decide), T, ha, ?_⟩
    refine ⟨_, rfl, _, rfl, a, _, rfl, isEx_of (k := 0) (F.extra 9 (f := .raw (exkB "NoLoose" 0))), n0, .inl ⟨ha, fun dx m1 m2 => ?_⟩⟩
    exact hq dx m1 m2
def b_law_take : MS := gSeq (gIfS (gB (gBin mGtI (gBin mIx (gVar 0) (gC (.int 0))) (gC (.int 0)))) (gSeq (gAsg (gBin mMod (gBin mIx (gVar 0) (gC (.int 0))) (gVar 1)) (tgName 3)) (gSeq (gAsg (gBin mDiv (gBin mIx (gVar 0) (gC (.int 0))) (gVar 1)) (tgSub (gVar 0) (gC (.int 0)))) (gRet (gVar 3)))) (gNext)) (gSeq (gPar 5 2 (gCons (gBin mIx (gVar 0) (gC (.int 1))) (gCons (gBin mAdd (gBin mIx (gVar 0) (gC (.int 2))) (gC (.int 1))) (gNil)))) (gSeq (gAsg (gVar 2) (tgSub (gVar 0) (gC (.int 2)))) (gSeq (gAsg (gBin mMod (gBin mMulA (gBin mAdd (gVar 5) (gBin mMulA (gC (.int 48271)) (gVar 2))) (gBin mAdd (gC (.int 39373)) (gVar 2))) (gC (.int 2147483647))) (tgName 4)) (gSeq (gAsg (gBin mMod (gBin mMulA (gBin mAdd (gBin mAdd (gVar 4) (gVar 2)) (gBin mDiv (gVar 5) (gC (.int 1000003)))) (gBin mAdd (gBin mMod (gVar 4) (gC (.int 40009))) (gC (.int 7)))) (gC (.int 2147483629))) (tgName 6)) (gRet (gBin mMod (gBin mDiv (gBin mMod (gBin mAdd (gBin mMulA (gVar 6) (gC (.int 48271))) (gVar 4)) (gC (.int 2147483587))) (gC (.int 64))) (gVar 1)))))))
def m_law_take : MF := gBody 7 b_law_take
theorem sc_law_take : FnScope ["_law_box_here", "_law_below", "_law_far", "_law_found", "_law_once", "_law_seed", "_law_twice"] ["_law_box_here", "_law_below"] (defScope s_law_take) :=
  ⟨rfl, rfl, rfl, by decide +kernel, rfl, by decide +kernel, by decide +kernel⟩
theorem fn_law_take (F : W K mg) {fd : FuncData} (D : FunD K d_law_take.name d_law_take.qual d_law_take.params d_law_take.body d_law_take.scope (d_law_take.dvs K) (d_law_take.kws K) (He.fAd K d_law_take.at_) fd) :
    FnG P w K mg base (L2.CX P w) 1 (He.fAd K d_law_take.at_) fd ["_law_box_here", "_law_below"] (spM ⟨K, tN K⟩ 2 m_law_take) :=
  def_MD D sc_law_take b_law_take fun cdv A outer s H E hs hr => by
    have sc := sc_law_take
    exact js_cons (js_if (jt_gt (je_ix (hu_of hr) (je_var (pv 0)) (je_int)) (je_int)) (js_cons (js_set (i := 3) sc.nd rfl (Or.inl rfl) (je_mod (je_ix (hu_of hr) (je_var (pv 0)) (je_int)) (je_var (pv 1)))) (js_cons (js_asg (je_div (je_ix (hu_of hr) (je_var (pv 0)) (je_int)) (je_var (pv 1))) (jg_sub (hu_of hr) (je_var (pv 0)) (je_int))) (js_one (js_ret (je_var (pv 3)))))) (js_nil)) (js_cons (js_par (i := 5) (j := 2) rfl sc.nd rfl rfl (by decide) rfl rfl (ja_cons (je_ix (hu_of hr) (je_var (pv 0)) (je_int)) (ja_cons (je_add (je_ix (hu_of hr) (je_var (pv 0)) (je_int)) (je_int)) (ja_nil)))) (js_cons (js_asg (je_var (pv 2)) (jg_sub (hu_of hr) (je_var (pv 0)) (je_int))) (js_cons (js_set (i := 4) sc.nd rfl (Or.inl rfl) (je_mod (je_mulA (je_add (je_var (pv 5)) (je_mulA (je_int) (je_var (pv 2)))) (je_add (je_int) (je_var (pv 2)))) (je_int))) (js_cons (js_set (i := 6) sc.nd rfl (Or.inl rfl) (je_mod (je_mulA (je_add (je_add (je_var (pv 4)) (je_var (pv 2))) (je_div (je_var (pv 5)) (je_int))) (je_add (je_mod (je_var (pv 4)) (je_int)) (je_int))) (je_int))) (js_one (js_ret (je_mod (je_div (je_mod (je_add (je_mulA (je_var (pv 6)) (je_int)) (je_var (pv 4))) (je_int)) (je_int)) (je_var (pv 1)))))))))
theorem ok_law_take (F : W K mg) : FM P w K mg base (tN K) 1 (He.fAd K d_law_take.at_) 2 [] m_law_take := by
  obtain ⟨fd, D⟩ := F.c.def_ 0 (d := d_law_take) rfl
  exact FM.of0 (ps := ["_law_box_here", "_law_below"]) D (fn_law_take F D) rfl (fun _ _ _ _ _ _ us hl => match us, hl with | [_, _], _ => rfl)
def b_law_box : MS := gSeq (gAsg (gBin mIx (gVar 0) (gVar 1)) (tgName 2)) (gRet (gLst (gCons (gBin mMulA (gCB (f1 mAbs) (gCons (gVar 2) (gNil))) (gCB (f1 mInt) (gCons (gBin mGeI (gCB (f1 mAbs) (gCons (gVar 2) (gNil))) (gBin mPow (gC (.int 10)) (gC (.int 18)))) (gNil)))) (gCons (gBin mAdd (gBin mAdd (gBin mMod (gVar 2) (gC (.int 2305843009213693951))) (gBin mMulA (gC (.int 7919)) (gVar 1))) (gC (.int 61))) (gCons (gC (.int 0)) (gNil))))))
def m_law_box : MF := gBody 3 b_law_box
theorem sc_law_box : FnScope ["_law_cells", "_law_k", "_law_cell"] ["_law_cells", "_law_k"] (defScope s_law_box) :=
  ⟨rfl, rfl, rfl, by decide +kernel, rfl, by decide +kernel, by decide +kernel⟩
theorem fn_law_box (F : W K mg) {fd : FuncData} (D : FunD K d_law_box.name d_law_box.qual d_law_box.params d_law_box.body d_law_box.scope (d_law_box.dvs K) (d_law_box.kws K) (He.fAd K d_law_box.at_) fd) :
    FnG P w K mg base (L2.CX P w) 1 (He.fAd K d_law_box.at_) fd ["_law_cells", "_law_k"] (spM ⟨K, tN K⟩ 2 m_law_box) :=
  def_MD D sc_law_box b_law_box fun cdv A outer s H E hs hr => by
    have sc := sc_law_box
    exact js_cons (js_set (i := 2) sc.nd rfl (Or.inl rfl) (je_ix (hu_of hr) (je_var (pv 0)) (je_var (pv 1)))) (js_one (js_ret (je_lst (ja_cons (je_mulA (je_callB call_abs mc_abs (by rfl) (F.free 1) PyProof.Rows.boot_abs (ja_cons (je_var (pv 2)) (ja_nil))) (je_callT call_int1 mc_int (by rfl) (F.free 2) PyProof.Rows.boot_int (ja_cons (je_ge (je_callB call_abs mc_abs (by rfl) (F.free 1) PyProof.Rows.boot_abs (ja_cons (je_var (pv 2)) (ja_nil))) (je_pow (je_int) (je_int))) (ja_nil)))) (ja_cons (je_add (je_add (je_mod (je_var (pv 2)) (je_int)) (je_mulA (je_int) (je_var (pv 1)))) (je_int)) (ja_cons (je_int) (ja_nil)))))))
theorem ok_law_box (F : W K mg) : FM P w K mg base (tN K) 1 (He.fAd K d_law_box.at_) 2 [] m_law_box := by
  obtain ⟨fd, D⟩ := F.c.def_ 1 (d := d_law_box) rfl
  exact FM.of0 (ps := ["_law_cells", "_law_k"]) D (fn_law_box F D) rfl (fun _ _ _ _ _ _ us hl => match us, hl with | [_, _], _ => rfl)
def b_Disk__check_place : MS := gIfS (gOr (gB (gBin mLtI (gVar 1) (gC (.int 0)))) (gB (gBin mGeI (gVar 1) (gCB (f1 mLenV) (gCons (gFld [4] 4462132414599151834275831881924703 (gVar 0)) (gNil)))))) (gRaise1 5 1953625037611499005686055024 (gVar 1)) (gNext)
def m_Disk__check_place : MF := gBody 2 b_Disk__check_place
theorem sc_Disk__check_place : FnScope ["self", "place"] ["self", "place"] (defScope s_Disk__check_place) :=
  ⟨rfl, rfl, rfl, by decide +kernel, rfl, by decide +kernel, by decide +kernel⟩
theorem fn_Disk__check_place (F : W K mg) {fd : FuncData} (D : FunD K d_Disk__check_place.name d_Disk__check_place.qual d_Disk__check_place.params d_Disk__check_place.body d_Disk__check_place.scope (d_Disk__check_place.dvs K) (d_Disk__check_place.kws K) (He.fAd K d_Disk__check_place.at_) fd) :
    FnG P w K mg base (L2.CX P w) 3 (He.fAd K d_Disk__check_place.at_) fd ["self", "place"] (spM ⟨K, tN K⟩ 2 m_Disk__check_place) :=
  def_MD D sc_Disk__check_place b_Disk__check_place fun cdv A outer s H E hs hr => by
    have sc := sc_Disk__check_place
    exact js_one (js_if (PW.pt (jw_or (jt_lt (je_var (pv 1)) (je_int)) (jw_or1 (jt_ge (je_var (pv 1)) (je_callB call_lenM mc_len (by rfl) (F.free 5) PySem.boot_len (ja_cons (je_fld (je_var (pv 0)) (fk_Disk__shown F) n__shown) (ja_nil))))))) (js_one (js_raise1 (c := 5) n_place (takes_of rfl rfl rfl rfl) rfl rfl hs (hr.mono (by decide)) (er_NoBlock F) (by rfl) (je_var (pv 1)))) (js_nil))
theorem ok_Disk__check_place (F : W K mg) : FM P w K mg base (tN K) 3 (He.fAd K d_Disk__check_place.at_) 2 [] m_Disk__check_place := by
  obtain ⟨fd, D⟩ := F.c.def_ 2 (d := d_Disk__check_place) rfl
  exact FM.of0 (ps := ["self", "place"]) D (fn_Disk__check_place F D) rfl (fun _ _ _ _ _ _ us hl => match us, hl with | [_, _], _ => rfl)
def b_Disk__count : MS := gIfS (gB (gNotN (gFld [4] 2243767261989143710365909087 (gVar 0)))) (gSeq (gIfS (gB (gBin mLeI (gFld [4] 2243767261989143710365909087 (gVar 0)) (gC (.int 0)))) (gRaise0 6) (gNext)) (gFldAug [4] 2243767261989143710365909087 (fun i j => i - j) (gVar 0) (gC (.int 1)))) (gNext)
def m_Disk__count : MF := gBody 1 b_Disk__count
theorem sc_Disk__count : FnScope ["self"] ["self"] (defScope s_Disk__count) :=
  ⟨rfl, rfl, rfl, by decide +kernel, rfl, by decide +kernel, by decide +kernel⟩
theorem fn_Disk__count (F : W K mg) {fd : FuncData} (D : FunD K d_Disk__count.name d_Disk__count.qual d_Disk__count.params d_Disk__count.body d_Disk__count.scope (d_Disk__count.dvs K) (d_Disk__count.kws K) (He.fAd K d_Disk__count.at_) fd) :
    FnG P w K mg base (L2.CX P w) 3 (He.fAd K d_Disk__count.at_) fd ["self"] (spM ⟨K, tN K⟩ 1 m_Disk__count) :=
  def_MD D sc_Disk__count b_Disk__count fun cdv A outer s H E hs hr => by
    have sc := sc_Disk__count
    exact js_one (js_if (jt_notN (je_fld (je_var (pv 0)) (fk_Disk__left F) n__left)) (js_cons (js_if (jt_le (je_fld (je_var (pv 0)) (fk_Disk__left F) n__left) (je_int)) (js_one (js_raise0 (c := 6) (takes_of rfl rfl rfl rfl) rfl rfl hs (hr.mono (by decide)) (er_Stopped F) (by rfl))) (js_nil)) (js_one (js_fldaug (je_var (pv 0)) (je_int) (fk_Disk__left F) n__left aug_sub))) (js_nil))
theorem ok_Disk__count (F : W K mg) : FM P w K mg base (tN K) 3 (He.fAd K d_Disk__count.at_) 1 [] m_Disk__count := by
  obtain ⟨fd, D⟩ := F.c.def_ 3 (d := d_Disk__count) rfl
  exact FM.of0 (ps := ["self"]) D (fn_Disk__count F D) rfl (fun _ _ _ _ _ _ us hl => match us, hl with | [_], _ => rfl)
abbrev sl_as_tuples : List Str := ["tree", "done", "finished", "low", "part", "rest", "inner"]
def b_as_tuples : MS := gSeq (gAsg (gLst (gCons (gTup (gCons (gVar 0) (gCons (gC (.bl false)) (gNil)))) (gNil))) (tgName 5)) (gSeq (gAsg (gLst (gNil)) (tgName 1)) (gSeq (gWhile (gTru (gVar 5)) (gSeq (gAsg (gBM "list" lPop (gVar 5) gNil) (tgTup [4, 2])) (gIfS (gTru (gVar 2)) (gSeq (gAsg (gBin mSub (gCB (f1 mLenV) (gCons (gVar 1) (gNil))) (gCB (f1 mLenV) (gCons (gVar 4) (gNil)))) (tgName 3)) (gAsg (gLst (gCons (gCB (f1 mTuple) (gCons (gSl (gVar 1) (gPs (gVar 3)) (gPn)) (gNil))) (gNil))) (tgTail (gVar 1) (gVar 3)))) (gIfS (gTru (gUn (mIsTy [("NoneType", false), ("bool", false), ("int", false), ("str", false), ("tuple", true), ("list", true), ("dict", false)]) (gVar 4))) (gSeq (gExpr (gBM "list" lApp (gVar 5) (gCons (gTup (gCons (gVar 4) (gCons (gC (.bl true)) (gNil)))) (gNil)))) (gExpr (gBM "list" lExtA (gVar 5) (gCons (gLc (gRev (gVar 4)) (.one 6) (gYes) (gTup (gCons (gVar 6) (gCons (gC (.bl false)) (gNil)))) [6]) (gNil))))) (gExpr (gBM "list" lApp (gVar 1) (gCons (gVar 4) (gNil))))))) 100000) (gRet (gBin mIx (gVar 1) (gC (.int 0))))))
def m_as_tuples : MF := gBody 7 b_as_tuples
theorem sc_as_tuples : FnScope ["tree", "done", "finished", "low", "part", "rest", "inner"] ["tree"] (defScope s_as_tuples) :=
  ⟨rfl, rfl, rfl, by decide +kernel, rfl, by decide +kernel, by decide +kernel⟩
theorem fn_as_tuples (F : W K mg) {fd : FuncData} (D : FunD K d_as_tuples.name d_as_tuples.qual d_as_tuples.params d_as_tuples.body d_as_tuples.scope (d_as_tuples.dvs K) (d_as_tuples.kws K) (He.fAd K d_as_tuples.at_) fd) :
    FnG P w K mg base (L2.CX P w) 1 (He.fAd K d_as_tuples.at_) fd ["tree"] (spM ⟨K, tN K⟩ 1 m_as_tuples) :=
  def_MD D sc_as_tuples b_as_tuples fun cdv A outer s H E hs hr => by
    have sc := sc_as_tuples
    exact js_cons (js_set (i := 5) sc.nd rfl (Or.inl rfl) (je_lst (ja_cons (je_tup (ja_cons (je_var (pv 0)) (ja_cons (je_bl) (ja_nil)))) (ja_nil)))) (js_cons (js_set (i := 1) sc.nd rfl (Or.inl rfl) (je_lst (ja_nil))) (js_cons (js_while 100000 own_M (jt_tru (je_var (pv 5))) (js_cons (js_asg (je_bm0 PySem.F.plainAttrs_list PySem.F.slot_list_pop PySem.F.type_list_pop mt_pop mm_pop (je_var (pv 5))) (jg_tup (is := [4, 2]) rfl (pgs_more (pg_name (i := 4) sc.nd rfl (Or.inl rfl)) (pgs_more (pg_name (i := 2) sc.nd rfl (Or.inl rfl)) (pgs_names))))) (js_one (js_if (jt_tru (je_var (pv 2))) (js_cons (js_set (i := 3) sc.nd rfl (Or.inl rfl) (je_sub (je_callB call_lenM mc_len (by rfl) (F.free 5) PySem.boot_len (ja_cons (je_var (pv 1)) (ja_nil))) (je_callB call_lenM mc_len (by rfl) (F.free 5) PySem.boot_len (ja_cons (je_var (pv 4)) (ja_nil))))) (js_one (js_asg (je_lst (ja_cons (je_callT call_tuple_of mc_tuple (by rfl) (F.free 10) PyProof.Rows.boot_tuple (ja_cons (je_slice (je_var (pv 1)) (jp_some (je_var (pv 3))) (jp_none)) (ja_nil))) (ja_nil))) (jg_tail (je_var (pv 1)) (je_var (pv 3)))))) (js_one (js_if (jt_tru (je_isTyT (cs := ["list", "tuple"]) (by rfl) (F.free 12) (by decide +kernel) (je_var (pv 4)) (pa_cons (pe_bltn (v := .ty "list") (by rfl) (F.free 11) (by decide +kernel) rfl) (pa_cons (pe_bltn (v := .ty "tuple") (by rfl) (F.free 10) (by decide +kernel) rfl) (pa_nil))) (by simp))) (js_cons (js_expr (je_bm PySem.F.plainAttrs_list PySem.F.slot_list_append PySem.F.type_list_append mt_append mm_app (je_var (pv 5)) (ja_cons (je_tup (ja_cons (je_var (pv 4)) (ja_cons (je_bl) (ja_nil)))) (ja_nil)))) (js_one (js_expr (je_bm PySem.F.plainAttrs_list PySem.F.slot_list_extend PySem.F.type_list_extend mt_extA mm_extA (je_var (pv 5)) (ja_cons (je_lcA (c := .one 6) [("inner", 6)] rfl rfl sc.nd (ji_rev (by rfl) (F.free 13) (je_var (pv 4))) (blkOk_by (own := [("inner", 6)]) (N := sl_as_tuples) (sc := defScope s_as_tuples) (by decide +kernel)) (fun _ _ _ _ _ => pg_name (i := 6) sc.nd rfl (Or.inl rfl)) (fun _ _ _ _ _ => jts_nil) (fun _ _ _ _ _ => je_tup (ja_cons (je_var (pv 6)) (ja_cons (je_bl) (ja_nil)))) (by decide)) (ja_nil)))))) (js_one (js_expr (je_bm PySem.F.plainAttrs_list PySem.F.slot_list_append PySem.F.type_list_append mt_append mm_app (je_var (pv 1)) (ja_cons (je_var (pv 4)) (ja_nil))))))))))) (js_one (js_ret (je_ix (hu_of hr) (je_var (pv 1)) (je_int))))))
theorem ok_as_tuples (F : W K mg) : FM P w K mg base (tN K) 1 (He.fAd K d_as_tuples.at_) 1 [] m_as_tuples := by
  obtain ⟨fd, D⟩ := F.c.def_ 4 (d := d_as_tuples) rfl
  exact FM.of0 (ps := ["tree"]) D (fn_as_tuples F D) rfl (fun _ _ _ _ _ _ us hl => match us, hl with | [_], _ => rfl)
def b_Disk_write : MS := gSeq (gExpr (gMeth 4 348538353417950755963802525141600950949726012270321967488514151921221727 m_Disk__check_place [] 2 (gVar 0) (gCons (gVar 1) (gNil)))) (gSeq (gExpr (gMeth 4 4705521155757709195119605160345695 m_Disk__count [] 1 (gVar 0) gNil)) (gSeq (gAsg (gCall m_as_tuples [] 1 (gCons (gVar 2) (gNil))) (tgName 3)) (gSeq (gAsg (gVar 3) (tgSub (gFld [4] 4462132414599151834275831881924703 (gVar 0)) (gVar 1))) (gSeq (gExpr (gBM "list" lApp (gFld [4] 4097048964362169311339300488478815 (gVar 0)) (gCons (gTup (gCons (gVar 1) (gCons (gVar 3) (gNil)))) (gNil)))) (gFldAug [4] 9783122146025964529499104918003653804127 (fun i j => i + j) (gVar 0) (gC (.int 1)))))))
def m_Disk_write : MF := gBody 4 b_Disk_write
theorem sc_Disk_write : FnScope ["self", "place", "block", "copied"] ["self", "place", "block"] (defScope s_Disk_write) :=
  ⟨rfl, rfl, rfl, by decide +kernel, rfl, by decide +kernel, by decide +kernel⟩
theorem fn_Disk_write (F : W K mg) {fd : FuncData} (D : FunD K d_Disk_write.name d_Disk_write.qual d_Disk_write.params d_Disk_write.body d_Disk_write.scope (d_Disk_write.dvs K) (d_Disk_write.kws K) (He.fAd K d_Disk_write.at_) fd) :
    FnG P w K mg base (L2.CX P w) 4 (He.fAd K d_Disk_write.at_) fd ["self", "place", "block"] (spM ⟨K, tN K⟩ 3 m_Disk_write) :=
  def_MD D sc_Disk_write b_Disk_write fun cdv A outer s H E hs hr => by
    have sc := sc_Disk_write
    exact js_cons (js_expr (je_meth (c := 4) (ok_Disk__check_place F) (F.cls 3) (F.meth 14) n__check_place hs (hr.mono (by decide)) pass_M (je_var (pv 0)) (ja_cons (je_var (pv 1)) (ja_nil)))) (js_cons (js_expr (je_meth0 (c := 4) (ok_Disk__count F) (F.cls 3) (F.meth 15) n__count hs (hr.mono (by decide)) pass_M (je_var (pv 0)))) (js_cons (js_set (i := 3) sc.nd rfl (Or.inl rfl) (je_call (ok_as_tuples F) hs (hr.mono (by decide)) pass_M (by rfl) (F.glo 16) (ja_cons (je_var (pv 2)) (ja_nil)))) (js_cons (js_asg (je_var (pv 3)) (jg_sub (hu_of hr) (je_fld (je_var (pv 0)) (fk_Disk__shown F) n__shown) (je_var (pv 1)))) (js_cons (js_expr (je_bm PySem.F.plainAttrs_list PySem.F.slot_list_append PySem.F.type_list_append mt_append mm_app (je_fld (je_var (pv 0)) (fk_Disk__loose F) n__loose) (ja_cons (je_tup (ja_cons (je_var (pv 1)) (ja_cons (je_var (pv 3)) (ja_nil)))) (ja_nil)))) (js_one (js_fldaug (je_var (pv 0)) (je_int) (fk_Disk__writes F) n__writes aug_add))))))
theorem ok_Disk_write (F : W K mg) : FM P w K mg base (tN K) 4 (He.fAd K d_Disk_write.at_) 3 [] m_Disk_write := by
  obtain ⟨fd, D⟩ := F.c.def_ 5 (d := d_Disk_write) rfl
  exact FM.of0 (ps := ["self", "place", "block"]) D (fn_Disk_write F D) rfl (fun _ _ _ _ _ _ us hl => match us, hl with | [_, _, _], _ => rfl)
def b_Disk_hold : MS := gSeq (gFldS [4] 18375823401358583102693711332145945774615691359 (gCB (f1 mList) (gCons (gVar 1) (gNil))) (gVar 0)) (gSeq (gFldS [4] 4462132414599151834275831881924703 (gCB (f1 mList) (gCons (gVar 1) (gNil))) (gVar 0)) (gFldS [4] 4097048964362169311339300488478815 (gLst (gNil)) (gVar 0)))
def m_Disk_hold : MF := gBody 2 b_Disk_hold
theorem sc_Disk_hold : FnScope ["self", "blocks"] ["self", "blocks"] (defScope s_Disk_hold) :=
  ⟨rfl, rfl, rfl, by decide +kernel, rfl, by decide +kernel, by decide +kernel⟩
theorem fn_Disk_hold (F : W K mg) {fd : FuncData} (D : FunD K d_Disk_hold.name d_Disk_hold.qual d_Disk_hold.params d_Disk_hold.body d_Disk_hold.scope (d_Disk_hold.dvs K) (d_Disk_hold.kws K) (He.fAd K d_Disk_hold.at_) fd) :
    FnG P w K mg base (L2.CX P w) 1 (He.fAd K d_Disk_hold.at_) fd ["self", "blocks"] (spM ⟨K, tN K⟩ 2 m_Disk_hold) :=
  def_MD D sc_Disk_hold b_Disk_hold fun cdv A outer s H E hs hr => by
    have sc := sc_Disk_hold
    exact js_cons (js_fld (je_var (pv 0)) (je_callT call_list_of mc_list (by rfl) (F.free 11) PyProof.Rows.boot_list (ja_cons (je_var (pv 1)) (ja_nil))) (fk_Disk__lasting F) n__lasting) (js_cons (js_fld (je_var (pv 0)) (je_callT call_list_of mc_list (by rfl) (F.free 11) PyProof.Rows.boot_list (ja_cons (je_var (pv 1)) (ja_nil))) (fk_Disk__shown F) n__shown) (js_one (js_fld (je_var (pv 0)) (je_lst (ja_nil)) (fk_Disk__loose F) n__loose)))
theorem ok_Disk_hold (F : W K mg) : FM P w K mg base (tN K) 1 (He.fAd K d_Disk_hold.at_) 2 [] m_Disk_hold := by
  obtain ⟨fd, D⟩ := F.c.def_ 6 (d := d_Disk_hold) rfl
  exact FM.of0 (ps := ["self", "blocks"]) D (fn_Disk_hold F D) rfl (fun _ _ _ _ _ _ us hl => match us, hl with | [_, _], _ => rfl)
def b_Disk_barrier : MS := gSeq (gExpr (gMeth 4 4705521155757709195119605160345695 m_Disk__count [] 1 (gVar 0) gNil)) (gExpr (gMeth 4 922337678674733564008 m_Disk_hold [] 2 (gVar 0) (gCons (gFld [4] 4462132414599151834275831881924703 (gVar 0)) (gNil))))
def m_Disk_barrier : MF := gBody 1 b_Disk_barrier
theorem sc_Disk_barrier : FnScope ["self"] ["self"] (defScope s_Disk_barrier) :=
  ⟨rfl, rfl, rfl, by decide +kernel, rfl, by decide +kernel, by decide +kernel⟩
theorem fn_Disk_barrier (F : W K mg) {fd : FuncData} (D : FunD K d_Disk_barrier.name d_Disk_barrier.qual d_Disk_barrier.params d_Disk_barrier.body d_Disk_barrier.scope (d_Disk_barrier.dvs K) (d_Disk_barrier.kws K) (He.fAd K d_Disk_barrier.at_) fd) :
    FnG P w K mg base (L2.CX P w) 4 (He.fAd K d_Disk_barrier.at_) fd ["self"] (spM ⟨K, tN K⟩ 1 m_Disk_barrier) :=
  def_MD D sc_Disk_barrier b_Disk_barrier fun cdv A outer s H E hs hr => by
    have sc := sc_Disk_barrier
    exact js_cons (js_expr (je_meth0 (c := 4) (ok_Disk__count F) (F.cls 3) (F.meth 15) n__count hs (hr.mono (by decide)) pass_M (je_var (pv 0)))) (js_one (js_expr (je_meth (c := 4) (ok_Disk_hold F) (F.cls 3) (F.meth 20) n_hold hs (hr.mono (by decide)) pass_M (je_var (pv 0)) (ja_cons (je_fld (je_var (pv 0)) (fk_Disk__shown F) n__shown) (ja_nil)))))
theorem ok_Disk_barrier (F : W K mg) : FM P w K mg base (tN K) 4 (He.fAd K d_Disk_barrier.at_) 1 [] m_Disk_barrier := by
  obtain ⟨fd, D⟩ := F.c.def_ 7 (d := d_Disk_barrier) rfl
  exact FM.of0 (ps := ["self"]) D (fn_Disk_barrier F D) rfl (fun _ _ _ _ _ _ us hl => match us, hl with | [_], _ => rfl)
end
end K57
set_option Elab.async false
set_option linter.all false
set_option maxRecDepth 100000
set_option maxHeartbeats 8000000
namespace K57
open PySem PySem.Spec PyProof.Rows L2 JB MI
section
variable {P : Program} {w : World} {K : PySem.W.Frag} {mg : Str → Option Value} {base : Heap}
def b_root_block : MS := gRet (gTup (gCons (gC (.str [114, 111, 111, 116])) (gCons (gVar 0) (gCons (gVar 1) (gCons (gVar 2) (gCons (gVar 3) (gStar (gVar 4) (gNil))))))))
def m_root_block : MF := gBody 5 b_root_block
theorem sc_root_block : FnScope ["number", "top", "depth", "many", "facts"] ["number", "top", "depth", "many", "facts"] (defScope s_root_block) :=
  ⟨rfl, rfl, rfl, by decide +kernel, rfl, by decide +kernel, by decide +kernel⟩
theorem fn_root_block (F : W K mg) {fd : FuncData} (D : FunD K d_root_block.name d_root_block.qual d_root_block.params d_root_block.body d_root_block.scope (d_root_block.dvs K) (d_root_block.kws K) (He.fAd K d_root_block.at_) fd) :
    FnG P w K mg base (L2.CX P w) 1 (He.fAd K d_root_block.at_) fd ["number", "top", "depth", "many", "facts"] (spM ⟨K, tN K⟩ 5 m_root_block) :=
  def_MD D sc_root_block b_root_block fun cdv A outer s H E hs hr => by
    have sc := sc_root_block
    exact js_one (js_ret (je_tup (ja_cons (je_glS (l := [114, 111, 111, 116]) (by rfl) (F.str 21)) (ja_cons (je_var (pv 0)) (ja_cons (je_var (pv 1)) (ja_cons (je_var (pv 2)) (ja_cons (je_var (pv 3)) (ja_star (je_var (pv 4)) (ja_nil)))))))))
theorem ok_root_block (F : W K mg) : FM P w K mg base (tN K) 1 (He.fAd K d_root_block.at_) 5 [] m_root_block := by
  obtain ⟨fd, D⟩ := F.c.def_ 8 (d := d_root_block) rfl
  exact FM.of0 (ps := ["number", "top", "depth", "many", "facts"]) D (fn_root_block F D) rfl (fun _ _ _ _ _ _ us hl => match us, hl with | [_, _, _, _, _], _ => rfl)
def b_make_store : MS := gSeq (gExpr (gMeth 4 1953625194408858816601915511 m_Disk_write [] 3 (gVar 0) (gCons (gC (.int 0)) (gCons (gCall m_root_block [] 5 (gCons (gC (.int 0)) (gCons (gC .non) (gCons (gC (.int 0)) (gCons (gC (.int 0)) (gCons (gVar 3) (gNil))))))) (gNil))))) (gExpr (gMeth 4 9698051554295517142772019439742610309218 m_Disk_barrier [] 1 (gVar 0) gNil))
def m_make_store : MF := gBody 4 b_make_store
theorem sc_make_store : FnScope ["disk", "low", "high", "facts"] ["disk", "low", "high", "facts"] (defScope s_make_store) :=
  ⟨rfl, rfl, rfl, by decide +kernel, rfl, by decide +kernel, by decide +kernel⟩
theorem fn_make_store (F : W K mg) {fd : FuncData} (D : FunD K d_make_store.name d_make_store.qual d_make_store.params d_make_store.body d_make_store.scope (d_make_store.dvs K) (d_make_store.kws K) (He.fAd K d_make_store.at_) fd) :
    FnG P w K mg base (L2.CX P w) 5 (He.fAd K d_make_store.at_) fd ["disk", "low", "high", "facts"] (spM ⟨K, tN K⟩ 4 m_make_store) :=
  def_MD D sc_make_store b_make_store fun cdv A outer s H E hs hr => by
    have sc := sc_make_store
    exact js_cons (js_expr (je_meth (c := 4) (ok_Disk_write F) (F.cls 3) (F.meth 22) n_write hs (hr.mono (by decide)) pass_M (je_var (pv 0)) (ja_cons (je_int) (ja_cons (je_call (ok_root_block F) hs (hr.mono (by decide)) pass_M (by rfl) (F.glo 23) (ja_cons (je_int) (ja_cons (je_non) (ja_cons (je_int) (ja_cons (je_int) (ja_cons (je_var (pv 3)) (ja_nil))))))) (ja_nil))))) (js_one (js_expr (je_meth0 (c := 4) (ok_Disk_barrier F) (F.cls 3) (F.meth 24) n_barrier hs (hr.mono (by decide)) pass_M (je_var (pv 0)))))
theorem ok_make_store (F : W K mg) : FM P w K mg base (tN K) 5 (He.fAd K d_make_store.at_) 4 [] m_make_store := by
  obtain ⟨fd, D⟩ := F.c.def_ 9 (d := d_make_store) rfl
  exact FM.of0 (ps := ["disk", "low", "high", "facts"]) D (fn_make_store F D) rfl (fun _ _ _ _ _ _ us hl => match us, hl with | [_, _, _, _], _ => rfl)
def b_depth_for : MS := gSeq (gAsg (gC (.int 0)) (tgName 1)) (gSeq (gAsg (gC (.int 1)) (tgName 2)) (gSeq (gWhile (gB (gBin mLtI (gVar 2) (gVar 0))) (gSeq (gAug 1 (fun i j => i + j) (gC (.int 1))) (gAugM 2 mMul (gC (.int 4)))) 100000) (gRet (gVar 1))))
def m_depth_for : MF := gBody 3 b_depth_for
theorem sc_depth_for : FnScope ["many", "depth", "room"] ["many"] (defScope s_depth_for) :=
  ⟨rfl, rfl, rfl, by decide +kernel, rfl, by decide +kernel, by decide +kernel⟩
theorem fn_depth_for (F : W K mg) {fd : FuncData} (D : FunD K d_depth_for.name d_depth_for.qual d_depth_for.params d_depth_for.body d_depth_for.scope (d_depth_for.dvs K) (d_depth_for.kws K) (He.fAd K d_depth_for.at_) fd) :
    FnG P w K mg base (L2.CX P w) 1 (He.fAd K d_depth_for.at_) fd ["many"] (spM ⟨K, tN K⟩ 1 m_depth_for) :=
  def_MD D sc_depth_for b_depth_for fun cdv A outer s H E hs hr => by
    have sc := sc_depth_for
    exact js_cons (js_set (i := 1) sc.nd rfl (Or.inl rfl) (je_int)) (js_cons (js_set (i := 2) sc.nd rfl (Or.inl rfl) (je_int)) (js_cons (js_while 100000 own_M (jt_lt (je_var (pv 2)) (je_var (pv 0))) (js_cons (js_aug ip_add sc.nd rfl (Or.inl rfl) (je_int)) (js_one (js_augM iop_mul om_mul sc.nd rfl (Or.inl rfl) (je_glI (by rfl) (F.int 25)))))) (js_one (js_ret (je_var (pv 1))))))
theorem ok_depth_for (F : W K mg) : FM P w K mg base (tN K) 1 (He.fAd K d_depth_for.at_) 1 [] m_depth_for := by
  obtain ⟨fd, D⟩ := F.c.def_ 10 (d := d_depth_for) rfl
  exact FM.of0 (ps := ["many"]) D (fn_depth_for F D) rfl (fun _ _ _ _ _ _ us hl => match us, hl with | [_], _ => rfl)
abbrev sl_root_parts : List Str := ["block", "place", "depth", "many", "number", "top", "atom"]
def b_root_parts : MS := gSeq (gIfS (gOr (gB (gBin mLtI (gCB (f1 mLenV) (gCons (gVar 0) (gNil))) (gC (.int 5)))) (gOr (gB (gBin mGtI (gCB (f1 mLenV) (gCons (gVar 0) (gNil))) (gBin mAdd (gC (.int 5)) (gC (.int 16))))) (gB (gBin mNeX (gBin mIx (gVar 0) (gC (.int 0))) (gC (.str [114, 111, 111, 116])))))) (gRet (gC .non)) (gNext)) (gSeq (gAsg (gSl (gVar 0) (gPs (gC (.int 1))) (gPs (gC (.int 5)))) (tgTup [4, 5, 2, 3])) (gSeq (gIfS (gNot (gTru (gCB (f1 mAll) (gCons (gLc (gIter (gTup (gCons (gVar 4) (gCons (gVar 2) (gCons (gVar 3) (gNil)))))) (.one 6) (gYes) (gAndT (gUn (mIsTy [("NoneType", false), ("bool", true), ("int", true), ("str", false), ("tuple", false), ("list", false), ("dict", false)]) (gVar 6)) (gBin mGeI (gVar 6) (gC (.int 0)))) [6]) (gNil))))) (gRet (gC .non)) (gNext)) (gSeq (gIfS (gAnd (gB (gNotN (gVar 5))) (gNot (gTru (gUn (mIsTy [("NoneType", false), ("bool", true), ("int", true), ("str", false), ("tuple", false), ("list", false), ("dict", false)]) (gVar 5))))) (gRet (gC .non)) (gNext)) (gSeq (gIfS (gOr (gB (gBin mNeX (gBin mMod (gVar 4) (gC (.int 2))) (gVar 1))) (gB (gBin mNeX (gVar 2) (gCall m_depth_for [] 1 (gCons (gVar 3) (gNil)))))) (gRet (gC .non)) (gNext)) (gRet (gTup (gCons (gVar 4) (gCons (gVar 5) (gCons (gVar 2) (gCons (gVar 3) (gCons (gSl (gVar 0) (gPs (gC (.int 5))) (gPn)) (gNil))))))))))))
def m_root_parts : MF := gBody 7 b_root_parts
theorem sc_root_parts : FnScope ["block", "place", "depth", "many", "number", "top", "atom"] ["block", "place"] (defScope s_root_parts) :=
  ⟨rfl, rfl, rfl, by decide +kernel, rfl, by decide +kernel, by decide +kernel⟩
theorem fn_root_parts (F : W K mg) {fd : FuncData} (D : FunD K d_root_parts.name d_root_parts.qual d_root_parts.params d_root_parts.body d_root_parts.scope (d_root_parts.dvs K) (d_root_parts.kws K) (He.fAd K d_root_parts.at_) fd) :
    FnG P w K mg base (L2.CX P w) 2 (He.fAd K d_root_parts.at_) fd ["block", "place"] (spM ⟨K, tN K⟩ 2 m_root_parts) :=
  def_MD D sc_root_parts b_root_parts fun cdv A outer s H E hs hr => by
    have sc := sc_root_parts
    exact js_cons (js_if (PW.pt (jw_or (jt_lt (je_callB call_lenM mc_len (by rfl) (F.free 5) PySem.boot_len (ja_cons (je_var (pv 0)) (ja_nil))) (je_glI (by rfl) (F.int 26))) (jw_or (jt_gt (je_callB call_lenM mc_len (by rfl) (F.free 5) PySem.boot_len (ja_cons (je_var (pv 0)) (ja_nil))) (je_add (je_glI (by rfl) (F.int 26)) (je_glI (by rfl) (F.int 27)))) (jw_or1 (jt_neF hr.units (je_ix (hu_of hr) (je_var (pv 0)) (je_int)) (je_glS (l := [114, 111, 111, 116]) (by rfl) (F.str 21))))))) (js_one (js_ret (je_non))) (js_nil)) (js_cons (js_asg (je_slice (je_var (pv 0)) (jp_some (je_int)) (jp_some (je_glI (by rfl) (F.int 26)))) (jg_tup (is := [4, 5, 2, 3]) rfl (pgs_more (pg_name (i := 4) sc.nd rfl (Or.inl rfl)) (pgs_more (pg_name (i := 5) sc.nd rfl (Or.inl rfl)) (pgs_more (pg_name (i := 2) sc.nd rfl (Or.inl rfl)) (pgs_more (pg_name (i := 3) sc.nd rfl (Or.inl rfl)) (pgs_names))))))) (js_cons (js_if (jt_not (jt_tru (je_callB (cr_all rfl) mc_all (by rfl) (F.free 28) (by decide +kernel) (ja_cons (je_lcA (c := .one 6) [("atom", 6)] rfl rfl sc.nd (ji_seq (je_tup (ja_cons (je_var (pv 4)) (ja_cons (je_var (pv 2)) (ja_cons (je_var (pv 3)) (ja_nil)))))) (blkOk_by (own := [("atom", 6)]) (N := sl_root_parts) (sc := defScope s_root_parts) (by decide +kernel)) (fun _ _ _ _ _ => pg_name (i := 6) sc.nd rfl (Or.inl rfl)) (fun _ _ _ _ _ => jts_nil) (fun _ _ _ _ _ => je_andT (je_isTy (c := "int") (by rfl) (F.free 12) (by decide +kernel) (je_var (pv 6)) (pe_bltn (v := .ty "int") (by rfl) (F.free 2) (by decide +kernel) rfl)) (je_one (je_ge (je_var (pv 6)) (je_int)))) (by decide)) (ja_nil))))) (js_one (js_ret (je_non))) (js_nil)) (js_cons (js_if (PW.pt (jw_and (jt_notN (je_var (pv 5))) (jw_and1 (jt_not (jt_tru (je_isTy (c := "int") (by rfl) (F.free 12) (by decide +kernel) (je_var (pv 5)) (pe_bltn (v := .ty "int") (by rfl) (F.free 2) (by decide +kernel) rfl))))))) (js_one (js_ret (je_non))) (js_nil)) (js_cons (js_if (PW.pt (jw_or (jt_neF hr.units (je_mod (je_var (pv 4)) (je_int)) (je_var (pv 1))) (jw_or1 (jt_neF hr.units (je_var (pv 2)) (je_call (ok_depth_for F) hs (hr.mono (by decide)) pass_M (by rfl) (F.glo 29) (ja_cons (je_var (pv 3)) (ja_nil))))))) (js_one (js_ret (je_non))) (js_nil)) (js_one (js_ret (je_tup (ja_cons (je_var (pv 4)) (ja_cons (je_var (pv 5)) (ja_cons (je_var (pv 2)) (ja_cons (je_var (pv 3)) (ja_cons (je_slice (je_var (pv 0)) (jp_some (je_glI (by rfl) (F.int 26))) (jp_none)) (ja_nil)))))))))))))
theorem ok_root_parts (F : W K mg) : FM P w K mg base (tN K) 2 (He.fAd K d_root_parts.at_) 2 [] m_root_parts := by
  obtain ⟨fd, D⟩ := F.c.def_ 11 (d := d_root_parts) rfl
  exact FM.of0 (ps := ["block", "place"]) D (fn_root_parts F D) rfl (fun _ _ _ _ _ _ us hl => match us, hl with | [_, _], _ => rfl)
def b_Disk_read : MS := gSeq (gExpr (gMeth 4 348538353417950755963802525141600950949726012270321967488514151921221727 m_Disk__check_place [] 2 (gVar 0) (gCons (gVar 1) (gNil)))) (gRet (gBin mIx (gFld [4] 4462132414599151834275831881924703 (gVar 0)) (gVar 1)))
def m_Disk_read : MF := gBody 2 b_Disk_read
theorem sc_Disk_read : FnScope ["self", "place"] ["self", "place"] (defScope s_Disk_read) :=
  ⟨rfl, rfl, rfl, by decide +kernel, rfl, by decide +kernel, by decide +kernel⟩
theorem fn_Disk_read (F : W K mg) {fd : FuncData} (D : FunD K d_Disk_read.name d_Disk_read.qual d_Disk_read.params d_Disk_read.body d_Disk_read.scope (d_Disk_read.dvs K) (d_Disk_read.kws K) (He.fAd K d_Disk_read.at_) fd) :
    FnG P w K mg base (L2.CX P w) 4 (He.fAd K d_Disk_read.at_) fd ["self", "place"] (spM ⟨K, tN K⟩ 2 m_Disk_read) :=
  def_MD D sc_Disk_read b_Disk_read fun cdv A outer s H E hs hr => by
    have sc := sc_Disk_read
    exact js_cons (js_expr (je_meth (c := 4) (ok_Disk__check_place F) (F.cls 3) (F.meth 14) n__check_place hs (hr.mono (by decide)) pass_M (je_var (pv 0)) (ja_cons (je_var (pv 1)) (ja_nil)))) (js_one (js_ret (je_ix (hu_of hr) (je_fld (je_var (pv 0)) (fk_Disk__shown F) n__shown) (je_var (pv 1)))))
theorem ok_Disk_read (F : W K mg) : FM P w K mg base (tN K) 4 (He.fAd K d_Disk_read.at_) 2 [] m_Disk_read := by
  obtain ⟨fd, D⟩ := F.c.def_ 12 (d := d_Disk_read) rfl
  exact FM.of0 (ps := ["self", "place"]) D (fn_Disk_read F D) rfl (fun _ _ _ _ _ _ us hl => match us, hl with | [_, _], _ => rfl)
def b_newest_root : MS := gSeq (gAsg (gC .non) (tgName 1)) (gSeq (gFor (gRng1 (gC (.int 2))) (tgName 3) (gSeq (gAsg (gCall m_root_parts [] 2 (gCons (gMeth 4 922337630296200970354 m_Disk_read [] 2 (gVar 0) (gCons (gVar 3) (gNil))) (gCons (gVar 3) (gNil)))) (tgName 2)) (gIfS (gAnd (gB (gNotN (gVar 2))) (gOr (gB (gIsN (gVar 1))) (gB (gBin mGtI (gBin mIx (gVar 2) (gC (.int 0))) (gBin mIx (gVar 1) (gC (.int 0))))))) (gAsg (gVar 2) (tgName 1)) (gNext)))) (gRet (gVar 1)))
def m_newest_root : MF := gBody 4 b_newest_root
theorem sc_newest_root : FnScope ["disk", "newest", "parts", "place"] ["disk"] (defScope s_newest_root) :=
  ⟨rfl, rfl, rfl, by decide +kernel, rfl, by decide +kernel, by decide +kernel⟩
theorem fn_newest_root (F : W K mg) {fd : FuncData} (D : FunD K d_newest_root.name d_newest_root.qual d_newest_root.params d_newest_root.body d_newest_root.scope (d_newest_root.dvs K) (d_newest_root.kws K) (He.fAd K d_newest_root.at_) fd) :
    FnG P w K mg base (L2.CX P w) 5 (He.fAd K d_newest_root.at_) fd ["disk"] (spM ⟨K, tN K⟩ 1 m_newest_root) :=
  def_MD D sc_newest_root b_newest_root fun cdv A outer s H E hs hr => by
    have sc := sc_newest_root
    exact js_cons (js_set (i := 1) sc.nd rfl (Or.inl rfl) (je_non)) (js_cons (js_for own_M rfl (ji_range1 (by rfl) (F.free 30) (je_int)) (jg_name (pg_name (i := 3) sc.nd rfl (Or.inl rfl))) (js_cons (js_set (i := 2) sc.nd rfl (Or.inl rfl) (je_call (ok_root_parts F) hs (hr.mono (by decide)) pass_M (by rfl) (F.glo 31) (ja_cons (je_meth (c := 4) (ok_Disk_read F) (F.cls 3) (F.meth 32) n_read hs (hr.mono (by decide)) pass_M (je_var (pv 0)) (ja_cons (je_var (pv 3)) (ja_nil))) (ja_cons (je_var (pv 3)) (ja_nil))))) (js_one (js_if (PW.pt (jw_and (jt_notN (je_var (pv 2))) (jw_and1 (PW.pt (jw_or (jt_isN (je_var (pv 1))) (jw_or1 (jt_gt (je_ix (hu_of hr) (je_var (pv 2)) (je_int)) (je_ix (hu_of hr) (je_var (pv 1)) (je_int))))))))) (js_one (js_set (i := 1) sc.nd rfl (Or.inl rfl) (je_var (pv 2)))) (js_nil))))) (js_one (js_ret (je_var (pv 1)))))
theorem ok_newest_root (F : W K mg) : FM P w K mg base (tN K) 5 (He.fAd K d_newest_root.at_) 1 [] m_newest_root := by
  obtain ⟨fd, D⟩ := F.c.def_ 13 (d := d_newest_root) rfl
  exact FM.of0 (ps := ["disk"]) D (fn_newest_root F D) rfl (fun _ _ _ _ _ _ us hl => match us, hl with | [_], _ => rfl)
abbrev sl_Tree___init : List Str := ["self", "depth", "many", "_"]
def b_Tree___init : MS := gSeq (gFldS [1] 2011653633750391803286126692 (gVar 1) (gVar 0)) (gSeq (gFldS [1] 1116028500244747518061 (gVar 2) (gVar 0)) (gFldS [1] 4664956297864632052681773720535148 (gLc (gRng1 (gBin mAdd (gVar 1) (gC (.int 1)))) (.one 3) (gYes) (gDic) [3]) (gVar 0)))
def m_Tree___init : MF := gBody 4 b_Tree___init
theorem sc_Tree___init : FnScope ["self", "depth", "many", "_"] ["self", "depth", "many"] (defScope s_Tree___init) :=
  ⟨rfl, rfl, rfl, by decide +kernel, rfl, by decide +kernel, by decide +kernel⟩
theorem fn_Tree___init (F : W K mg) {fd : FuncData} (D : FunD K d_Tree___init.name d_Tree___init.qual d_Tree___init.params d_Tree___init.body d_Tree___init.scope (d_Tree___init.dvs K) (d_Tree___init.kws K) (He.fAd K d_Tree___init.at_) fd) :
    FnG P w K mg base (L2.CX P w) 1 (He.fAd K d_Tree___init.at_) fd ["self", "depth", "many"] (spM ⟨K, tN K⟩ 3 m_Tree___init) :=
  def_MD D sc_Tree___init b_Tree___init fun cdv A outer s H E hs hr => by
    have sc := sc_Tree___init
    exact js_cons (js_fld (je_var (pv 0)) (je_var (pv 1)) (fk_Tree_depth F) n_depth) (js_cons (js_fld (je_var (pv 0)) (je_var (pv 2)) (fk_Tree_many F) n_many) (js_one (js_fld (je_var (pv 0)) (je_lcA (c := .one 3) [("_", 3)] rfl rfl sc.nd (ji_range1 (by rfl) (F.free 30) (je_add (je_var (pv 1)) (je_int))) (blkOk_by (own := [("_", 3)]) (N := sl_Tree___init) (sc := defScope s_Tree___init) (by decide +kernel)) (fun _ _ _ _ _ => pg_name (i := 3) sc.nd rfl (Or.inl rfl)) (fun _ _ _ _ _ => jts_nil) (fun _ _ _ _ _ => je_dic) (by decide)) (fk_Tree_levels F) n_levels)))
theorem ok_Tree___init (F : W K mg) : FM P w K mg base (tN K) 1 (He.fAd K d_Tree___init.at_) 3 [] m_Tree___init := by
  obtain ⟨fd, D⟩ := F.c.def_ 14 (d := d_Tree___init) rfl
  exact FM.of0 (ps := ["self", "depth", "many"]) D (fn_Tree___init F D) rfl (fun _ _ _ _ _ _ us hl => match us, hl with | [_, _, _], _ => rfl)
def b_read_tree : MS := gSeq (gAsg (gMake 1 m_Tree___init [] 3 (gCons (gVar 2) (gCons (gVar 3) (gNil)))) (tgName 10)) (gSeq (gIfS (gB (gNotN (gVar 1))) (gAsg (gVar 1) (tgSub (gBin mIx (gFld [1] 4664956297864632052681773720535148 (gVar 10)) (gVar 2)) (gC (.int 0)))) (gNext)) (gSeq (gFor (gRng3 (gVar 2) (gC (.int 0)) (gUn mNeg (gC (.int 1)))) (tgName 7) (gSeq (gAsg (gBin mIx (gFld [1] 4664956297864632052681773720535148 (gVar 10)) (gBin mSub (gVar 7) (gC (.int 1)))) (tgName 5)) (gFor (gIter (gLItems (gBin mIx (gFld [1] 4664956297864632052681773720535148 (gVar 10)) (gVar 7)))) (tgTup [8, 9]) (gFor (gEnumA (gMeth 4 922337630296200970354 m_Disk_read [] 2 (gVar 0) (gCons (gVar 9) (gNil)))) (tgTup [4, 6]) (gIfS (gB (gNotN (gVar 6))) (gAsg (gVar 6) (tgSub (gVar 5) (gBin mAdd (gBin mMulA (gVar 8) (gC (.int 4))) (gVar 4)))) (gNext)))))) (gRet (gVar 10))))
def m_read_tree : MF := gBody 11 b_read_tree
theorem sc_read_tree : FnScope ["disk", "top", "depth", "many", "at", "below", "inner", "level", "part", "place", "tree"] ["disk", "top", "depth", "many"] (defScope s_read_tree) :=
  ⟨rfl, rfl, rfl, by decide +kernel, rfl, by decide +kernel, by decide +kernel⟩
theorem fn_read_tree (F : W K mg) {fd : FuncData} (D : FunD K d_read_tree.name d_read_tree.qual d_read_tree.params d_read_tree.body d_read_tree.scope (d_read_tree.dvs K) (d_read_tree.kws K) (He.fAd K d_read_tree.at_) fd) :
    FnG P w K mg base (L2.CX P w) 5 (He.fAd K d_read_tree.at_) fd ["disk", "top", "depth", "many"] (spM ⟨K, tN K⟩ 4 m_read_tree) :=
  def_MD D sc_read_tree b_read_tree fun cdv A outer s H E hs hr => by
    have sc := sc_read_tree
    exact js_cons (js_set (i := 10) sc.nd rfl (Or.inl rfl) (je_make (c := 1) (ok_Tree___init F) (F.mkr 38) hs (hr.mono (by decide)) pass_M (by rfl) (F.glo 37) (ja_cons (je_var (pv 2)) (ja_cons (je_var (pv 3)) (ja_nil))))) (js_cons (js_if (jt_notN (je_var (pv 1))) (js_one (js_asg (je_var (pv 1)) (jg_sub (hu_of hr) (je_ix (hu_of hr) (je_fld (je_var (pv 10)) (fk_Tree_levels F) n_levels) (je_var (pv 2))) (je_int)))) (js_nil)) (js_cons (js_for own_M rfl (ji_range3 (by rfl) (F.free 30) (je_var (pv 2)) (je_int) (je_neg (je_int))) (jg_name (pg_name (i := 7) sc.nd rfl (Or.inl rfl))) (js_cons (js_set (i := 5) sc.nd rfl (Or.inl rfl) (je_ix (hu_of hr) (je_fld (je_var (pv 10)) (fk_Tree_levels F) n_levels) (je_sub (je_var (pv 7)) (je_int)))) (js_one (js_for own_M rfl (ji_seq (je_lItems rfl (je_ix (hu_of hr) (je_fld (je_var (pv 10)) (fk_Tree_levels F) n_levels) (je_var (pv 7))) (by rfl) (F.free 11))) (jg_tup (is := [8, 9]) rfl (pgs_more (pg_name (i := 8) sc.nd rfl (Or.inl rfl)) (pgs_more (pg_name (i := 9) sc.nd rfl (Or.inl rfl)) (pgs_names)))) (js_one (js_for own_M rfl (ji_enumT (by rfl) (F.free 39) (je_meth (c := 4) (ok_Disk_read F) (F.cls 3) (F.meth 32) n_read hs (hr.mono (by decide)) pass_M (je_var (pv 0)) (ja_cons (je_var (pv 9)) (ja_nil)))) (jg_tup (is := [4, 6]) rfl (pgs_more (pg_name (i := 4) sc.nd rfl (Or.inl rfl)) (pgs_more (pg_name (i := 6) sc.nd rfl (Or.inl rfl)) (pgs_names)))) (js_one (js_if (jt_notN (je_var (pv 6))) (js_one (js_asg (je_var (pv 6)) (jg_sub (hu_of hr) (je_var (pv 5)) (je_add (je_mulA (je_var (pv 8)) (je_glI (by rfl) (F.int 25))) (je_var (pv 4)))))) (js_nil))))))))) (js_one (js_ret (je_var (pv 10))))))
theorem ok_read_tree (F : W K mg) : FM P w K mg base (tN K) 5 (He.fAd K d_read_tree.at_) 4 [] m_read_tree := by
  obtain ⟨fd, D⟩ := F.c.def_ 15 (d := d_read_tree) rfl
  exact FM.of0 (ps := ["disk", "top", "depth", "many"]) D (fn_read_tree F D) rfl (fun _ _ _ _ _ _ us hl => match us, hl with | [_, _, _, _], _ => rfl)
end
end K57
set_option Elab.async false
set_option linter.all false
set_option maxRecDepth 100000
set_option maxHeartbeats 8000000
namespace K57
open PySem PySem.Spec PyProof.Rows L2 JB MI
section
variable {P : Program} {w : World} {K : PySem.W.Frag} {mg : Str → Option Value} {base : Heap}
def b_Store___init : MS := gSeq (gAsg (gCall m_newest_root [] 1 (gCons (gVar 1) (gNil))) (tgName 6)) (gSeq (gIfS (gB (gIsN (gVar 6))) (gRaise0 7) (gNext)) (gSeq (gFldS [3] 2069682063868491180489572447 (gVar 1) (gVar 0)) (gSeq (gFldS [3] 1097581760569107546207 (gVar 2) (gVar 0)) (gSeq (gFldS [3] 2011653513846524537854754911 (gVar 3) (gVar 0)) (gSeq (gAsg (gVar 6) (tgMany 5 (gtCons (tgField [3] 9698051554295381743034105754284936134751 (gVar 0)) (gtCons (tgName 7) (gtCons (tgName 4) (gtCons (tgName 5) (gtCons (tgField [3] 4664956452607118516517875398738015 (gVar 0)) (gtNil)))))))) (gSeq (gFldS [3] 1953625056058317846203072607 (gCall m_read_tree [] 4 (gCons (gVar 1) (gCons (gVar 7) (gCons (gVar 4) (gCons (gVar 5) (gNil)))))) (gVar 0)) (gFldS [3] 43400772425249076700374875251346462017735525220221023 (gC .non) (gVar 0))))))))
def m_Store___init : MF := gBody 8 b_Store___init
theorem sc_Store___init : FnScope ["self", "disk", "low", "high", "depth", "many", "parts", "top"] ["self", "disk", "low", "high"] (defScope s_Store___init) :=
  ⟨rfl, rfl, rfl, by decide +kernel, rfl, by decide +kernel, by decide +kernel⟩
theorem fn_Store___init (F : W K mg) {fd : FuncData} (D : FunD K d_Store___init.name d_Store___init.qual d_Store___init.params d_Store___init.body d_Store___init.scope (d_Store___init.dvs K) (d_Store___init.kws K) (He.fAd K d_Store___init.at_) fd) :
    FnG P w K mg base (L2.CX P w) 6 (He.fAd K d_Store___init.at_) fd ["self", "disk", "low", "high"] (spM ⟨K, tN K⟩ 4 m_Store___init) :=
  def_MD D sc_Store___init b_Store___init fun cdv A outer s H E hs hr => by
    have sc := sc_Store___init
    exact js_cons (js_set (i := 6) sc.nd rfl (Or.inl rfl) (je_call (ok_newest_root F) hs (hr.mono (by decide)) pass_M (by rfl) (F.glo 40) (ja_cons (je_var (pv 1)) (ja_nil)))) (js_cons (js_if (jt_isN (je_var (pv 6))) (js_one (js_raise0 (c := 7) (takes_of rfl rfl rfl rfl) rfl rfl hs (hr.mono (by decide)) (er_NoRoot F) (by rfl))) (js_nil)) (js_cons (js_fld (je_var (pv 0)) (je_var (pv 1)) (fk_Store__disk F) n__disk) (js_cons (js_fld (je_var (pv 0)) (je_var (pv 2)) (fk_Store__low F) n__low) (js_cons (js_fld (je_var (pv 0)) (je_var (pv 3)) (fk_Store__high F) n__high) (js_cons (js_asg (je_var (pv 6)) (jg_many rfl (jgs_cons (jg_field (je_var (pv 0)) (fk_Store__number F) n__number) (jgs_cons (jg_name (pg_name (i := 7) sc.nd rfl (Or.inl rfl))) (jgs_cons (jg_name (pg_name (i := 4) sc.nd rfl (Or.inl rfl))) (jgs_cons (jg_name (pg_name (i := 5) sc.nd rfl (Or.inl rfl))) (jgs_cons (jg_field (je_var (pv 0)) (fk_Store__facts F) n__facts) (jgs_nil)))))))) (js_cons (js_fld (je_var (pv 0)) (je_call (ok_read_tree F) hs (hr.mono (by decide)) pass_M (by rfl) (F.glo 48) (ja_cons (je_var (pv 1)) (ja_cons (je_var (pv 7)) (ja_cons (je_var (pv 4)) (ja_cons (je_var (pv 5)) (ja_nil)))))) (fk_Store__tree F) n__tree) (js_one (js_fld (je_var (pv 0)) (je_non) (fk_Store__snapshot F) n__snapshot))))))))
theorem ok_Store___init (F : W K mg) : FM P w K mg base (tN K) 6 (He.fAd K d_Store___init.at_) 4 [] m_Store___init := by
  obtain ⟨fd, D⟩ := F.c.def_ 16 (d := d_Store___init) rfl
  exact FM.of0 (ps := ["self", "disk", "low", "high"]) D (fn_Store___init F D) rfl (fun _ _ _ _ _ _ us hl => match us, hl with | [_, _, _, _], _ => rfl)
def b_law_same : MS := gRet (gSameA (gVar 0) (gVar 1))
def m_law_same : MF := gBody 2 b_law_same
theorem sc_law_same : FnScope ["_law_found", "_law_due"] ["_law_found", "_law_due"] (defScope s_law_same) :=
  ⟨rfl, rfl, rfl, by decide +kernel, rfl, by decide +kernel, by decide +kernel⟩
theorem fn_law_same (F : W K mg) {fd : FuncData} (D : FunD K d_law_same.name d_law_same.qual d_law_same.params d_law_same.body d_law_same.scope (d_law_same.dvs K) (d_law_same.kws K) (He.fAd K d_law_same.at_) fd) :
    FnG P w K mg base (L2.CX P w) 1 (He.fAd K d_law_same.at_) fd ["_law_found", "_law_due"] (spM ⟨K, tN K⟩ 2 m_law_same) :=
  def_MD D sc_law_same b_law_same fun cdv A outer s H E hs hr => by
    have sc := sc_law_same
    exact js_one (js_ret (je_sameA hs hr.units (by rfl) (F.free 52) (je_var (pv 0)) (je_var (pv 1))))
theorem ok_law_same (F : W K mg) : FM P w K mg base (tN K) 1 (He.fAd K d_law_same.at_) 2 [] m_law_same := by
  obtain ⟨fd, D⟩ := F.c.def_ 17 (d := d_law_same) rfl
  exact FM.of0 (ps := ["_law_found", "_law_due"]) D (fn_law_same F D) rfl (fun _ _ _ _ _ _ us hl => match us, hl with | [_, _], _ => rfl)
def b_Disk___init : MS := gSeq (gExpr (gMeth 4 922337678674733564008 m_Disk_hold [] 2 (gVar 0) (gCons (gBin mMulA (gLst (gCons (gTup (gNil)) (gNil))) (gVar 1)) (gNil)))) (gSeq (gFldS [4] 9783122146025964529499104918003653804127 (gC (.int 0)) (gVar 0)) (gFldS [4] 2243767261989143710365909087 (gC .non) (gVar 0)))
def m_Disk___init : MF := gBody 2 b_Disk___init
theorem sc_Disk___init : FnScope ["self", "size"] ["self", "size"] (defScope s_Disk___init) :=
  ⟨rfl, rfl, rfl, by decide +kernel, rfl, by decide +kernel, by decide +kernel⟩
theorem fn_Disk___init (F : W K mg) {fd : FuncData} (D : FunD K d_Disk___init.name d_Disk___init.qual d_Disk___init.params d_Disk___init.body d_Disk___init.scope (d_Disk___init.dvs K) (d_Disk___init.kws K) (He.fAd K d_Disk___init.at_) fd) :
    FnG P w K mg base (L2.CX P w) 2 (He.fAd K d_Disk___init.at_) fd ["self", "size"] (spM ⟨K, tN K⟩ 2 m_Disk___init) :=
  def_MD D sc_Disk___init b_Disk___init fun cdv A outer s H E hs hr => by
    have sc := sc_Disk___init
    exact js_cons (js_expr (je_meth (c := 4) (ok_Disk_hold F) (F.cls 3) (F.meth 20) n_hold hs (hr.mono (by decide)) pass_M (je_var (pv 0)) (ja_cons (je_mulA (je_lst (ja_cons (je_tup (ja_nil)) (ja_nil))) (je_var (pv 1))) (ja_nil)))) (js_cons (js_fld (je_var (pv 0)) (je_int) (fk_Disk__writes F) n__writes) (js_one (js_fld (je_var (pv 0)) (je_non) (fk_Disk__left F) n__left)))
theorem ok_Disk___init (F : W K mg) : FM P w K mg base (tN K) 2 (He.fAd K d_Disk___init.at_) 2 [] m_Disk___init := by
  obtain ⟨fd, D⟩ := F.c.def_ 18 (d := d_Disk___init) rfl
  exact FM.of0 (ps := ["self", "size"]) D (fn_Disk___init F D) rfl (fun _ _ _ _ _ _ us hl => match us, hl with | [_, _], _ => rfl)
def b_without_end : MS := gSeq (gAsg (gCB (f1 mLenV) (gCons (gVar 0) (gNil))) (tgName 1)) (gSeq (gWhile (gAnd (gB (gBin mGtI (gVar 1) (gC (.int 0)))) (gB (gIsN (gBin mIx (gVar 0) (gBin mSub (gVar 1) (gC (.int 1))))))) (gAug 1 (fun i j => i - j) (gC (.int 1))) 100000) (gRet (gCB (f1 mTuple) (gCons (gSl (gVar 0) (gPn) (gPs (gVar 1))) (gNil)))))
def m_without_end : MF := gBody 2 b_without_end
theorem sc_without_end : FnScope ["atoms", "many"] ["atoms"] (defScope s_without_end) :=
  ⟨rfl, rfl, rfl, by decide +kernel, rfl, by decide +kernel, by decide +kernel⟩
theorem fn_without_end (F : W K mg) {fd : FuncData} (D : FunD K d_without_end.name d_without_end.qual d_without_end.params d_without_end.body d_without_end.scope (d_without_end.dvs K) (d_without_end.kws K) (He.fAd K d_without_end.at_) fd) :
    FnG P w K mg base (L2.CX P w) 1 (He.fAd K d_without_end.at_) fd ["atoms"] (spM ⟨K, tN K⟩ 1 m_without_end) :=
  def_MD D sc_without_end b_without_end fun cdv A outer s H E hs hr => by
    have sc := sc_without_end
    exact js_cons (js_set (i := 1) sc.nd rfl (Or.inl rfl) (je_callB call_lenM mc_len (by rfl) (F.free 5) PySem.boot_len (ja_cons (je_var (pv 0)) (ja_nil)))) (js_cons (js_while 100000 own_M (PW.pt (jw_and (jt_gt (je_var (pv 1)) (je_int)) (jw_and1 (jt_isN (je_ix (hu_of hr) (je_var (pv 0)) (je_sub (je_var (pv 1)) (je_int))))))) (js_one (js_aug ip_sub sc.nd rfl (Or.inl rfl) (je_int)))) (js_one (js_ret (je_callT call_tuple_of mc_tuple (by rfl) (F.free 10) PyProof.Rows.boot_tuple (ja_cons (je_slice (je_var (pv 0)) (jp_none) (jp_some (je_var (pv 1)))) (ja_nil))))))
theorem ok_without_end (F : W K mg) : FM P w K mg base (tN K) 1 (He.fAd K d_without_end.at_) 1 [] m_without_end := by
  obtain ⟨fd, D⟩ := F.c.def_ 19 (d := d_without_end) rfl
  exact FM.of0 (ps := ["atoms"]) D (fn_without_end F D) rfl (fun _ _ _ _ _ _ us hl => match us, hl with | [_], _ => rfl)
def b_Memory___init : MS := gSeq (gFldS [0] 2224424605672678250579492959 (gDic) (gVar 0)) (gSeq (gFor (gEnumA (gVar 1)) (tgTup [2, 3]) (gIfS (gTru (gCall m_without_end [] 1 (gCons (gVar 3) (gNil)))) (gAsg (gBin mAdd (gCB (f1 mList) (gCons (gVar 3) (gNil))) (gBin mMulA (gLst (gCons (gC .non) (gNil))) (gBin mSub (gC (.int 8)) (gCB (f1 mLenV) (gCons (gVar 3) (gNil)))))) (tgSub (gFld [0] 2224424605672678250579492959 (gVar 0)) (gVar 2))) (gNext))) (gSeq (gFldS [0] 1953625185185451595341496415 (gDic) (gVar 0)) (gSeq (gFldS [0] 2243767354222864078911570015 (gC .non) (gVar 0)) (gSeq (gFldS [0] 94941204903626959178789249757594317142006096203679912689759 (gC (.int 0)) (gVar 0)) (gFldS [0] 2224424578002588528290037855 (gC (.int 0)) (gVar 0))))))
def m_Memory___init : MF := gBody 4 b_Memory___init
theorem sc_Memory___init : FnScope ["self", "pages", "number", "page"] ["self", "pages"] (defScope s_Memory___init) :=
  ⟨rfl, rfl, rfl, by decide +kernel, rfl, by decide +kernel, by decide +kernel⟩
theorem fn_Memory___init (F : W K mg) {fd : FuncData} (D : FunD K d_Memory___init.name d_Memory___init.qual d_Memory___init.params d_Memory___init.body d_Memory___init.scope (d_Memory___init.dvs K) (d_Memory___init.kws K) (He.fAd K d_Memory___init.at_) fd) :
    FnG P w K mg base (L2.CX P w) 2 (He.fAd K d_Memory___init.at_) fd ["self", "pages"] (spM ⟨K, tN K⟩ 2 m_Memory___init) :=
  def_MD D sc_Memory___init b_Memory___init fun cdv A outer s H E hs hr => by
    have sc := sc_Memory___init
    exact js_cons (js_fld (je_var (pv 0)) (je_dic) (fk_Memory__rows F) n__rows) (js_cons (js_for own_M rfl (ji_enumT (by rfl) (F.free 39) (je_var (pv 1))) (jg_tup (is := [2, 3]) rfl (pgs_more (pg_name (i := 2) sc.nd rfl (Or.inl rfl)) (pgs_more (pg_name (i := 3) sc.nd rfl (Or.inl rfl)) (pgs_names)))) (js_one (js_if (jt_tru (je_call (ok_without_end F) hs (hr.mono (by decide)) pass_M (by rfl) (F.glo 55) (ja_cons (je_var (pv 3)) (ja_nil)))) (js_one (js_asg (je_add (je_callT call_list_of mc_list (by rfl) (F.free 11) PyProof.Rows.boot_list (ja_cons (je_var (pv 3)) (ja_nil))) (je_mulA (je_lst (ja_cons (je_non) (ja_nil))) (je_sub (je_glI (by rfl) (F.int 56)) (je_callB call_lenM mc_len (by rfl) (F.free 5) PySem.boot_len (ja_cons (je_var (pv 3)) (ja_nil)))))) (jg_sub (hu_of hr) (je_fld (je_var (pv 0)) (fk_Memory__rows F) n__rows) (je_var (pv 2))))) (js_nil)))) (js_cons (js_fld (je_var (pv 0)) (je_dic) (fk_Memory__base F) n__base) (js_cons (js_fld (je_var (pv 0)) (je_non) (fk_Memory__kept F) n__kept) (js_cons (js_fld (je_var (pv 0)) (je_int) (fk_Memory__kept_many F) n__kept_many) (js_one (js_fld (je_var (pv 0)) (je_int) (fk_Memory__puts F) n__puts))))))
theorem ok_Memory___init_d0 (F : W K mg) : FM P w K mg base (tN K) 2 (He.fAd K d_Memory___init.at_) 2 [] m_Memory___init := by
  obtain ⟨fd, D⟩ := F.c.def_ 20 (d := d_Memory___init) rfl
  exact FM.ofD (ps := ["self", "pages"]) (m := 2) (j := 1) D (fn_Memory___init F D) rfl (by simp [He.DefD.dvs]) rfl (fun _ _ _ _ _ _ _ us its hl hi => match us, its, hl, hi with | [_, _], [_], _, _ => ⟨_, rfl, rfl⟩)
    fun ρ H => .nil
theorem ok_Memory___init_d1 (F : W K mg) : FM P w K mg base (tN K) 2 (He.fAd K d_Memory___init.at_) 2 [.ktp []] m_Memory___init := by
  obtain ⟨fd, D⟩ := F.c.def_ 20 (d := d_Memory___init) rfl
  exact FM.ofD (ps := ["self", "pages"]) (m := 1) (j := 0) D (fn_Memory___init F D) rfl (by simp [He.DefD.dvs]) rfl (fun _ _ _ _ _ _ _ us its hl hi => match us, its, hl, hi with | [_], [_], _, _ => ⟨_, rfl, rfl⟩)
    fun ρ H => .cons (.ktp (etupB_ok (F.extra 0 (f := .etup ("Memory", some "__init__") 0)) _) .nil) (.nil)
def b_Memory__need_frozen : MS := gIfS (gB (gIsN (gFld [0] 2243767354222864078911570015 (gVar 0)))) (gRaise0 8) (gNext)
def m_Memory__need_frozen : MF := gBody 1 b_Memory__need_frozen
theorem sc_Memory__need_frozen : FnScope ["self"] ["self"] (defScope s_Memory__need_frozen) :=
  ⟨rfl, rfl, rfl, by decide +kernel, rfl, by decide +kernel, by decide +kernel⟩
theorem fn_Memory__need_frozen (F : W K mg) {fd : FuncData} (D : FunD K d_Memory__need_frozen.name d_Memory__need_frozen.qual d_Memory__need_frozen.params d_Memory__need_frozen.body d_Memory__need_frozen.scope (d_Memory__need_frozen.dvs K) (d_Memory__need_frozen.kws K) (He.fAd K d_Memory__need_frozen.at_) fd) :
    FnG P w K mg base (L2.CX P w) 3 (He.fAd K d_Memory__need_frozen.at_) fd ["self"] (spM ⟨K, tN K⟩ 1 m_Memory__need_frozen) :=
  def_MD D sc_Memory__need_frozen b_Memory__need_frozen fun cdv A outer s H E hs hr => by
    have sc := sc_Memory__need_frozen
    exact js_one (js_if (jt_isN (je_fld (je_var (pv 0)) (fk_Memory__kept F) n__kept)) (js_one (js_raise0 (c := 8) (takes_of rfl rfl rfl rfl) rfl rfl hs (hr.mono (by decide)) (er_Idle F) (by rfl))) (js_nil))
theorem ok_Memory__need_frozen (F : W K mg) : FM P w K mg base (tN K) 3 (He.fAd K d_Memory__need_frozen.at_) 1 [] m_Memory__need_frozen := by
  obtain ⟨fd, D⟩ := F.c.def_ 21 (d := d_Memory__need_frozen) rfl
  exact FM.of0 (ps := ["self"]) D (fn_Memory__need_frozen F D) rfl (fun _ _ _ _ _ _ us hl => match us, hl with | [_], _ => rfl)
def b_Memory_frozen_many : MS := gSeq (gExpr (gMeth 0 379596215269537023593716527823455569553730270615374589765347872264421471 m_Memory__need_frozen [] 1 (gVar 0) gNil)) (gRet (gFld [0] 94941204903626959178789249757594317142006096203679912689759 (gVar 0)))
def m_Memory_frozen_many : MF := gBody 1 b_Memory_frozen_many
theorem sc_Memory_frozen_many : FnScope ["self"] ["self"] (defScope s_Memory_frozen_many) :=
  ⟨rfl, rfl, rfl, by decide +kernel, rfl, by decide +kernel, by decide +kernel⟩
theorem fn_Memory_frozen_many (F : W K mg) {fd : FuncData} (D : FunD K d_Memory_frozen_many.name d_Memory_frozen_many.qual d_Memory_frozen_many.params d_Memory_frozen_many.body d_Memory_frozen_many.scope (d_Memory_frozen_many.dvs K) (d_Memory_frozen_many.kws K) (He.fAd K d_Memory_frozen_many.at_) fd) :
    FnG P w K mg base (L2.CX P w) 4 (He.fAd K d_Memory_frozen_many.at_) fd ["self"] (spM ⟨K, tN K⟩ 1 m_Memory_frozen_many) :=
  def_MD D sc_Memory_frozen_many b_Memory_frozen_many fun cdv A outer s H E hs hr => by
    have sc := sc_Memory_frozen_many
    exact js_cons (js_expr (je_meth0 (c := 0) (ok_Memory__need_frozen F) (F.cls 53) (F.meth 63) n__need_frozen hs (hr.mono (by decide)) pass_M (je_var (pv 0)))) (js_one (js_ret (je_fld (je_var (pv 0)) (fk_Memory__kept_many F) n__kept_many)))
theorem ok_Memory_frozen_many (F : W K mg) : FM P w K mg base (tN K) 4 (He.fAd K d_Memory_frozen_many.at_) 1 [] m_Memory_frozen_many := by
  obtain ⟨fd, D⟩ := F.c.def_ 22 (d := d_Memory_frozen_many) rfl
  exact FM.of0 (ps := ["self"]) D (fn_Memory_frozen_many F D) rfl (fun _ _ _ _ _ _ us hl => match us, hl with | [_], _ => rfl)
def b_Memory_many : MS := gRet (gBin mAdd (gMaxD (gFld [0] 2224424605672678250579492959 (gVar 0)) (gUn mNeg (gC (.int 1)))) (gC (.int 1)))
def m_Memory_many : MF := gBody 1 b_Memory_many
theorem sc_Memory_many : FnScope ["self"] ["self"] (defScope s_Memory_many) :=
  ⟨rfl, rfl, rfl, by decide +kernel, rfl, by decide +kernel, by decide +kernel⟩
theorem fn_Memory_many (F : W K mg) {fd : FuncData} (D : FunD K d_Memory_many.name d_Memory_many.qual d_Memory_many.params d_Memory_many.body d_Memory_many.scope (d_Memory_many.dvs K) (d_Memory_many.kws K) (He.fAd K d_Memory_many.at_) fd) :
    FnG P w K mg base (L2.CX P w) 1 (He.fAd K d_Memory_many.at_) fd ["self"] (spM ⟨K, tN K⟩ 1 m_Memory_many) :=
  def_MD D sc_Memory_many b_Memory_many fun cdv A outer s H E hs hr => by
    have sc := sc_Memory_many
    exact js_one (js_ret (je_add (je_maxD rfl (by rfl) (F.free 64) (je_fld (je_var (pv 0)) (fk_Memory__rows F) n__rows) (je_neg (je_int))) (je_int)))
theorem ok_Memory_many (F : W K mg) : FM P w K mg base (tN K) 1 (He.fAd K d_Memory_many.at_) 1 [] m_Memory_many := by
  obtain ⟨fd, D⟩ := F.c.def_ 23 (d := d_Memory_many) rfl
  exact FM.of0 (ps := ["self"]) D (fn_Memory_many F D) rfl (fun _ _ _ _ _ _ us hl => match us, hl with | [_], _ => rfl)
end
end K57
set_option Elab.async false
set_option linter.all false
set_option maxRecDepth 100000
set_option maxHeartbeats 8000000
namespace K57
open PySem PySem.Spec PyProof.Rows L2 JB MI
section
variable {P : Program} {w : World} {K : PySem.W.Frag} {mg : Str → Option Value} {base : Heap}
def b_Memory_page : MS := gRet (gCall m_without_end [] 1 (gCons (gDget2 (gFld [0] 2224424605672678250579492959 (gVar 0)) (gVar 1) (gLst (gNil))) (gNil)))
def m_Memory_page : MF := gBody 2 b_Memory_page
theorem sc_Memory_page : FnScope ["self", "number"] ["self", "number"] (defScope s_Memory_page) :=
  ⟨rfl, rfl, rfl, by decide +kernel, rfl, by decide +kernel, by decide +kernel⟩
theorem fn_Memory_page (F : W K mg) {fd : FuncData} (D : FunD K d_Memory_page.name d_Memory_page.qual d_Memory_page.params d_Memory_page.body d_Memory_page.scope (d_Memory_page.dvs K) (d_Memory_page.kws K) (He.fAd K d_Memory_page.at_) fd) :
    FnG P w K mg base (L2.CX P w) 2 (He.fAd K d_Memory_page.at_) fd ["self", "number"] (spM ⟨K, tN K⟩ 2 m_Memory_page) :=
  def_MD D sc_Memory_page b_Memory_page fun cdv A outer s H E hs hr => by
    have sc := sc_Memory_page
    exact js_one (js_ret (je_call (ok_without_end F) hs (hr.mono (by decide)) pass_M (by rfl) (F.glo 55) (ja_cons (je_dget2 (hu_of hr) (je_fld (je_var (pv 0)) (fk_Memory__rows F) n__rows) (je_var (pv 1)) (je_lst (ja_nil)) ⟨rfl, rfl, rfl, rfl⟩) (ja_nil))))
theorem ok_Memory_page (F : W K mg) : FM P w K mg base (tN K) 2 (He.fAd K d_Memory_page.at_) 2 [] m_Memory_page := by
  obtain ⟨fd, D⟩ := F.c.def_ 24 (d := d_Memory_page) rfl
  exact FM.of0 (ps := ["self", "number"]) D (fn_Memory_page F D) rfl (fun _ _ _ _ _ _ us hl => match us, hl with | [_, _], _ => rfl)
abbrev sl_Memory_changed : List Str := ["self", "number", "page"]
def b_Memory_changed : MS := gRet (gCB (f1 mSortedB) (gCons (gLock (pkF 0 1953625185185451595341496415) (gLc (gWalk itIs (gFld [0] 1953625185185451595341496415 (gVar 0))) (.row [1, 2]) (gB (gBin mNeX (gMeth 0 931561028721326424176 m_Memory_page [] 2 (gVar 0) (gCons (gVar 1) (gNil))) (gVar 2))) (gVar 1) [1, 2])) (gNil)))
def m_Memory_changed : MF := gBody 3 b_Memory_changed
theorem sc_Memory_changed : FnScope ["self", "number", "page"] ["self"] (defScope s_Memory_changed) :=
  ⟨rfl, rfl, rfl, by decide +kernel, rfl, by decide +kernel, by decide +kernel⟩
theorem fn_Memory_changed (F : W K mg) {fd : FuncData} (D : FunD K d_Memory_changed.name d_Memory_changed.qual d_Memory_changed.params d_Memory_changed.body d_Memory_changed.scope (d_Memory_changed.dvs K) (d_Memory_changed.kws K) (He.fAd K d_Memory_changed.at_) fd) :
    FnG P w K mg base (L2.CX P w) 3 (He.fAd K d_Memory_changed.at_) fd ["self"] (spM ⟨K, tN K⟩ 1 m_Memory_changed) :=
  def_MD D sc_Memory_changed b_Memory_changed fun cdv A outer s H E hs hr => by
    have sc := sc_Memory_changed
    exact js_one (js_ret (je_callB (call_sortB rfl) mc_sortedB (by rfl) (F.free 66) (by decide +kernel) (ja_cons (je_lock (pk := (pkF 0 1953625185185451595341496415)) (je_lcA (c := .row [1, 2]) [("number", 1), ("page", 2)] rfl rfl sc.nd (ji_items (je_fld (je_var (pv 0)) (fk_Memory__base F) n__base)) (blkOk_by (own := [("number", 1), ("page", 2)]) (N := sl_Memory_changed) (sc := defScope s_Memory_changed) (by decide +kernel)) (fun _ _ _ _ _ => PG.or (pg_tup rfl (pgs_more (pg_name (i := 1) sc.nd rfl (Or.inl rfl)) (pgs_more (pg_name (i := 2) sc.nd rfl (Or.inl rfl)) (pgs_names))) rfl rfl) (pg_unl rfl (pgs_more (pg_name (i := 1) sc.nd rfl (Or.inl rfl)) (pgs_more (pg_name (i := 2) sc.nd rfl (Or.inl rfl)) (pgs_names))) rfl rfl)) (fun _ _ _ _ _ => jts_one (jt_neF hr.units (je_meth (c := 0) (ok_Memory_page F) (F.cls 53) (F.meth 65) n_page hs (hr.mono (by decide)) pass_E00 (je_var (pv 0)) (ja_cons (je_var (pv 1)) (ja_nil))) (je_var (pv 2)))) (fun _ _ _ _ _ => je_var (pv 1)) (by decide))) (ja_nil))))
theorem ok_Memory_changed (F : W K mg) : FM P w K mg base (tN K) 3 (He.fAd K d_Memory_changed.at_) 1 [] m_Memory_changed := by
  obtain ⟨fd, D⟩ := F.c.def_ 25 (d := d_Memory_changed) rfl
  exact FM.of0 (ps := ["self"]) D (fn_Memory_changed F D) rfl (fun _ _ _ _ _ _ us hl => match us, hl with | [_], _ => rfl)
def b_Memory_freeze : MS := gSeq (gIfS (gB (gNotN (gFld [0] 2243767354222864078911570015 (gVar 0)))) (gRaise0 9) (gNext)) (gSeq (gFldS [0] 2243767354222864078911570015 (gDic) (gVar 0)) (gSeq (gFldS [0] 94941204903626959178789249757594317142006096203679912689759 (gMeth 0 1116028500244747518061 m_Memory_many [] 1 (gVar 0) gNil) (gVar 0)) (gRet (gMeth 0 8507063270072193834987087082683635859555 m_Memory_changed [] 1 (gVar 0) gNil))))
def m_Memory_freeze : MF := gBody 1 b_Memory_freeze
theorem sc_Memory_freeze : FnScope ["self"] ["self"] (defScope s_Memory_freeze) :=
  ⟨rfl, rfl, rfl, by decide +kernel, rfl, by decide +kernel, by decide +kernel⟩
theorem fn_Memory_freeze (F : W K mg) {fd : FuncData} (D : FunD K d_Memory_freeze.name d_Memory_freeze.qual d_Memory_freeze.params d_Memory_freeze.body d_Memory_freeze.scope (d_Memory_freeze.dvs K) (d_Memory_freeze.kws K) (He.fAd K d_Memory_freeze.at_) fd) :
    FnG P w K mg base (L2.CX P w) 4 (He.fAd K d_Memory_freeze.at_) fd ["self"] (spM ⟨K, tN K⟩ 1 m_Memory_freeze) :=
  def_MD D sc_Memory_freeze b_Memory_freeze fun cdv A outer s H E hs hr => by
    have sc := sc_Memory_freeze
    exact js_cons (js_if (jt_notN (je_fld (je_var (pv 0)) (fk_Memory__kept F) n__kept)) (js_one (js_raise0 (c := 9) (takes_of rfl rfl rfl rfl) rfl rfl hs (hr.mono (by decide)) (er_Busy F) (by rfl))) (js_nil)) (js_cons (js_fld (je_var (pv 0)) (je_dic) (fk_Memory__kept F) n__kept) (js_cons (js_fld (je_var (pv 0)) (je_meth0 (c := 0) (ok_Memory_many F) (F.cls 53) (F.meth 68) n_many hs (hr.mono (by decide)) pass_M (je_var (pv 0))) (fk_Memory__kept_many F) n__kept_many) (js_one (js_ret (je_meth0 (c := 0) (ok_Memory_changed F) (F.cls 53) (F.meth 69) n_changed hs (hr.mono (by decide)) pass_M (je_var (pv 0)))))))
theorem ok_Memory_freeze (F : W K mg) : FM P w K mg base (tN K) 4 (He.fAd K d_Memory_freeze.at_) 1 [] m_Memory_freeze := by
  obtain ⟨fd, D⟩ := F.c.def_ 26 (d := d_Memory_freeze) rfl
  exact FM.of0 (ps := ["self"]) D (fn_Memory_freeze F D) rfl (fun _ _ _ _ _ _ us hl => match us, hl with | [_], _ => rfl)
def b_Memory_frozen : MS := gSeq (gExpr (gMeth 0 379596215269537023593716527823455569553730270615374589765347872264421471 m_Memory__need_frozen [] 1 (gVar 0) gNil)) (gRet (gIf (gB (gBin (mIn fun b => b) (gVar 1) (gFld [0] 2243767354222864078911570015 (gVar 0)))) (gBin mIx (gFld [0] 2243767354222864078911570015 (gVar 0)) (gVar 1)) (gMeth 0 931561028721326424176 m_Memory_page [] 2 (gVar 0) (gCons (gVar 1) (gNil)))))
def m_Memory_frozen : MF := gBody 2 b_Memory_frozen
theorem sc_Memory_frozen : FnScope ["self", "number"] ["self", "number"] (defScope s_Memory_frozen) :=
  ⟨rfl, rfl, rfl, by decide +kernel, rfl, by decide +kernel, by decide +kernel⟩
theorem fn_Memory_frozen (F : W K mg) {fd : FuncData} (D : FunD K d_Memory_frozen.name d_Memory_frozen.qual d_Memory_frozen.params d_Memory_frozen.body d_Memory_frozen.scope (d_Memory_frozen.dvs K) (d_Memory_frozen.kws K) (He.fAd K d_Memory_frozen.at_) fd) :
    FnG P w K mg base (L2.CX P w) 4 (He.fAd K d_Memory_frozen.at_) fd ["self", "number"] (spM ⟨K, tN K⟩ 2 m_Memory_frozen) :=
  def_MD D sc_Memory_frozen b_Memory_frozen fun cdv A outer s H E hs hr => by
    have sc := sc_Memory_frozen
    exact js_cons (js_expr (je_meth0 (c := 0) (ok_Memory__need_frozen F) (F.cls 53) (F.meth 63) n__need_frozen hs (hr.mono (by decide)) pass_M (je_var (pv 0)))) (js_one (js_ret (je_if (jt_in (hu_of hr) (je_var (pv 1)) (je_fld (je_var (pv 0)) (fk_Memory__kept F) n__kept)) (je_ix (hu_of hr) (je_fld (je_var (pv 0)) (fk_Memory__kept F) n__kept) (je_var (pv 1))) (je_meth (c := 0) (ok_Memory_page F) (F.cls 53) (F.meth 65) n_page hs (hr.mono (by decide)) pass_M (je_var (pv 0)) (ja_cons (je_var (pv 1)) (ja_nil))))))
theorem ok_Memory_frozen (F : W K mg) : FM P w K mg base (tN K) 4 (He.fAd K d_Memory_frozen.at_) 2 [] m_Memory_frozen := by
  obtain ⟨fd, D⟩ := F.c.def_ 27 (d := d_Memory_frozen) rfl
  exact FM.of0 (ps := ["self", "number"]) D (fn_Memory_frozen F D) rfl (fun _ _ _ _ _ _ us hl => match us, hl with | [_, _], _ => rfl)
abbrev sl_Snapshot___init : List Str := ["self", "memory", "facts", "tree", "free", "changed", "many", "number", "place"]
def b_Snapshot___init : MS := gSeq (gFldS [2] 4908345329165423014454327636918381 (gVar 1) (gVar 0)) (gSeq (gFldS [2] 2224424578002509363421380710 (gVar 2) (gVar 0)) (gSeq (gFldS [2] 931561019925269053542 (gLRev (gVar 4)) (gVar 0)) (gSeq (gAsg (gDc (gIter (gMeth 0 4097049099761768874413419055284326 m_Memory_freeze [] 1 (gVar 1) gNil)) (.one 7) (gYes) (gVar 7) (gC (.bl true)) [7]) (tgName 5)) (gSeq (gAsg (gMeth 0 199106137746051084695716232707638193993864354095133304521565929574 m_Memory_frozen_many [] 1 (gVar 1) gNil) (tgName 6)) (gSeq (gFldS [2] 931561019925269053556 (gMake 1 m_Tree___init [] 3 (gCons (gCall m_depth_for [] 1 (gCons (gVar 6) (gNil))) (gCons (gVar 6) (gNil)))) (gVar 0)) (gSeq (gAsg (gLock (pkE (gBin mIx (gFld [1] 4664956297864632052681773720535148 (gVar 3)) (gC (.int 0)))) (gDc (gWalk itIs (gBin mIx (gFld [1] 4664956297864632052681773720535148 (gVar 3)) (gC (.int 0)))) (.row [7, 8]) (gB (gBin (mIn fun b => !b) (gVar 7) (gVar 5))) (gVar 7) (gVar 8) [7, 8])) (tgSub (gFld [1] 4664956297864632052681773720535148 (gFld [2] 931561019925269053556 (gVar 0))) (gC (.int 0)))) (gSeq (gFldS [2] 1069911662050714583154 (gLock (pkV 5) (gLc (gWalk itK (gVar 5)) (.one 7) (gTru (gMeth 0 4462132066428617242385821292560486 m_Memory_frozen [] 2 (gVar 1) (gCons (gVar 7) (gNil)))) (gVar 7) [7])) (gVar 0)) (gExpr (gBM "list" lRev (gFld [2] 1069911662050714583154 (gVar 0)) gNil)))))))))
def m_Snapshot___init : MF := gBody 9 b_Snapshot___init
theorem sc_Snapshot___init : FnScope ["self", "memory", "facts", "tree", "free", "changed", "many", "number", "place"] ["self", "memory", "facts", "tree", "free"] (defScope s_Snapshot___init) :=
  ⟨rfl, rfl, rfl, by decide +kernel, rfl, by decide +kernel, by decide +kernel⟩
theorem fn_Snapshot___init (F : W K mg) {fd : FuncData} (D : FunD K d_Snapshot___init.name d_Snapshot___init.qual d_Snapshot___init.params d_Snapshot___init.body d_Snapshot___init.scope (d_Snapshot___init.dvs K) (d_Snapshot___init.kws K) (He.fAd K d_Snapshot___init.at_) fd) :
    FnG P w K mg base (L2.CX P w) 5 (He.fAd K d_Snapshot___init.at_) fd ["self", "memory", "facts", "tree", "free"] (spM ⟨K, tN K⟩ 5 m_Snapshot___init) :=
  def_MD D sc_Snapshot___init b_Snapshot___init fun cdv A outer s H E hs hr => by
    have sc := sc_Snapshot___init
    exact js_cons (js_fld (je_var (pv 0)) (je_var (pv 1)) (fk_Snapshot_memory F) n_memory) (js_cons (js_fld (je_var (pv 0)) (je_var (pv 2)) (fk_Snapshot_facts F) n_facts) (js_cons (js_fld (je_var (pv 0)) (je_lRev rfl (by rfl) (F.free 11) (by rfl) (F.free 13) (je_var (pv 4))) (fk_Snapshot_free F) n_free) (js_cons (js_set (i := 5) sc.nd rfl (Or.inr rfl) (je_dcA (c := .one 7) [("number", 7)] rfl rfl sc.nd (ji_seq (je_meth0 (c := 0) (ok_Memory_freeze F) (F.cls 53) (F.meth 74) n_freeze hs (hr.mono (by decide)) pass_M (je_var (pv 1)))) (blkOk_by (own := [("number", 7)]) (N := sl_Snapshot___init) (sc := defScope s_Snapshot___init) (by decide +kernel)) (fun _ _ _ _ _ => pg_name (i := 7) sc.nd rfl (Or.inl rfl)) (fun _ _ _ _ _ => jts_nil) (fun _ _ _ _ _ => je_var (pv 7)) (fun _ _ _ _ _ => je_bl) (by decide))) (js_cons (js_set (i := 6) sc.nd rfl (Or.inl rfl) (je_meth0 (c := 0) (ok_Memory_frozen_many F) (F.cls 53) (F.meth 75) n_frozen_many hs (hr.mono (by decide)) pass_M (je_var (pv 1)))) (js_cons (js_fld (je_var (pv 0)) (je_make (c := 1) (ok_Tree___init F) (F.mkr 38) hs (hr.mono (by decide)) pass_M (by rfl) (F.glo 37) (ja_cons (je_call (ok_depth_for F) hs (hr.mono (by decide)) pass_M (by rfl) (F.glo 29) (ja_cons (je_var (pv 6)) (ja_nil))) (ja_cons (je_var (pv 6)) (ja_nil)))) (fk_Snapshot_tree F) n_tree) (js_cons (js_asg (je_lock (pk := (pkE (gBin mIx (gFld [1] 4664956297864632052681773720535148 (gVar 3)) (gC (.int 0))))) (je_dcA (c := .row [7, 8]) [("number", 7), ("place", 8)] rfl rfl sc.nd (ji_items (je_ix (hu_of hr) (je_fld (je_var (pv 3)) (fk_Tree_levels F) n_levels) (je_int))) (blkOk_by (own := [("number", 7), ("place", 8)]) (N := sl_Snapshot___init) (sc := defScope s_Snapshot___init) (by decide +kernel)) (fun _ _ _ _ _ => PG.or (pg_tup rfl (pgs_more (pg_name (i := 7) sc.nd rfl (Or.inl rfl)) (pgs_more (pg_name (i := 8) sc.nd rfl (Or.inl rfl)) (pgs_names))) rfl rfl) (pg_unl rfl (pgs_more (pg_name (i := 7) sc.nd rfl (Or.inl rfl)) (pgs_more (pg_name (i := 8) sc.nd rfl (Or.inl rfl)) (pgs_names))) rfl rfl)) (fun _ _ _ _ _ => jts_one (jt_notIn (hu_of hr) (je_var (pv 7)) (je_var (pv 5)))) (fun _ _ _ _ _ => je_var (pv 7)) (fun _ _ _ _ _ => je_var (pv 8)) (by decide))) (jg_sub (hu_of hr) (je_fld (je_fld (je_var (pv 0)) (fk_Snapshot_tree F) n_tree) (fk_Tree_levels F) n_levels) (je_int))) (js_cons (js_fld (je_var (pv 0)) (je_lock (pk := (pkV 5)) (je_lcA (c := .one 7) [("number", 7)] rfl rfl sc.nd (ji_keys (je_var (pv 5))) (blkOk_by (own := [("number", 7)]) (N := sl_Snapshot___init) (sc := defScope s_Snapshot___init) (by decide +kernel)) (fun _ _ _ _ _ => pg_name (i := 7) sc.nd rfl (Or.inl rfl)) (fun _ _ _ _ _ => jts_one (jt_tru (je_meth (c := 0) (ok_Memory_frozen F) (F.cls 53) (F.meth 77) n_frozen hs (hr.mono (by decide)) pass_E00 (je_var (pv 1)) (ja_cons (je_var (pv 7)) (ja_nil))))) (fun _ _ _ _ _ => je_var (pv 7)) (by decide))) (fk_Snapshot_rest F) n_rest) (js_one (js_expr (je_bm0 PySem.F.plainAttrs_list PySem.F.slot_list_reverse PySem.F.type_list_reverse mt_reverse mm_rev (je_fld (je_var (pv 0)) (fk_Snapshot_rest F) n_rest)))))))))))
theorem ok_Snapshot___init (F : W K mg) : FM P w K mg base (tN K) 5 (He.fAd K d_Snapshot___init.at_) 5 [] m_Snapshot___init := by
  obtain ⟨fd, D⟩ := F.c.def_ 28 (d := d_Snapshot___init) rfl
  exact FM.of0 (ps := ["self", "memory", "facts", "tree", "free"]) D (fn_Snapshot___init F D) rfl (fun _ _ _ _ _ _ us hl => match us, hl with | [_, _, _, _, _], _ => rfl)
abbrev sl_Tree_places : List Str := ["self", "level", "place"]
def b_Tree_places : MS := gRet (gDc2 (gIter (gFld [1] 4664956297864632052681773720535148 (gVar 0))) (.one 1) (pkV 1) (gWalk itVs (gVar 1)) (.one 2) (gVar 2) (gC (.bl true)) [1, 2] [2])
def m_Tree_places : MF := gBody 3 b_Tree_places
theorem sc_Tree_places : FnScope ["self", "level", "place"] ["self"] (defScope s_Tree_places) :=
  ⟨rfl, rfl, rfl, by decide +kernel, rfl, by decide +kernel, by decide +kernel⟩
theorem fn_Tree_places (F : W K mg) {fd : FuncData} (D : FunD K d_Tree_places.name d_Tree_places.qual d_Tree_places.params d_Tree_places.body d_Tree_places.scope (d_Tree_places.dvs K) (d_Tree_places.kws K) (He.fAd K d_Tree_places.at_) fd) :
    FnG P w K mg base (L2.CX P w) 1 (He.fAd K d_Tree_places.at_) fd ["self"] (spM ⟨K, tN K⟩ 1 m_Tree_places) :=
  def_MD D sc_Tree_places b_Tree_places fun cdv A outer s H E hs hr => by
    have sc := sc_Tree_places
    exact js_one (js_ret (je_dc2 (c := .one 1) (c1 := .one 2) (pk := pkV 1) [("level", 1), ("place", 2)] rfl rfl sc.nd (ji_seq (je_fld (je_var (pv 0)) (fk_Tree_levels F) n_levels)) (blkOk_by (own := [("level", 1), ("place", 2)]) (N := sl_Tree_places) (sc := defScope s_Tree_places) (by decide +kernel)) (fun _ _ _ _ _ => pg_name (i := 1) sc.nd rfl (Or.inl rfl)) (fun _ _ _ _ _ => ji_values (je_var (pv 1))) (fun _ _ _ _ _ => pg_name (i := 2) sc.nd rfl (Or.inl rfl)) (fun _ _ _ _ _ => je_var (pv 2)) (fun _ _ _ _ _ => je_bl) (by decide) (by decide) (by decide)))
theorem ok_Tree_places (F : W K mg) : FM P w K mg base (tN K) 1 (He.fAd K d_Tree_places.at_) 1 [] m_Tree_places := by
  obtain ⟨fd, D⟩ := F.c.def_ 29 (d := d_Tree_places) rfl
  exact FM.of0 (ps := ["self"]) D (fn_Tree_places F D) rfl (fun _ _ _ _ _ _ us hl => match us, hl with | [_], _ => rfl)
abbrev sl_Store_free : List Str := ["self", "used", "place"]
def b_Store_free : MS := gSeq (gIfS (gB (gNotN (gFld [3] 43400772425249076700374875251346462017735525220221023 (gVar 0)))) (gRet (gLRev (gFld [2] 931561019925269053542 (gFld [3] 43400772425249076700374875251346462017735525220221023 (gVar 0))))) (gNext)) (gSeq (gAsg (gMeth 1 4664956162464921809006873481838704 m_Tree_places [] 1 (gFld [3] 1953625056058317846203072607 (gVar 0)) gNil) (tgName 1)) (gRet (gLc (gRng2 (gFld [3] 1097581760569107546207 (gVar 0)) (gFld [3] 2011653513846524537854754911 (gVar 0))) (.one 2) (gB (gBin (mIn fun b => !b) (gVar 2) (gVar 1))) (gVar 2) [2])))
def m_Store_free : MF := gBody 3 b_Store_free
theorem sc_Store_free : FnScope ["self", "used", "place"] ["self"] (defScope s_Store_free) :=
  ⟨rfl, rfl, rfl, by decide +kernel, rfl, by decide +kernel, by decide +kernel⟩
theorem fn_Store_free (F : W K mg) {fd : FuncData} (D : FunD K d_Store_free.name d_Store_free.qual d_Store_free.params d_Store_free.body d_Store_free.scope (d_Store_free.dvs K) (d_Store_free.kws K) (He.fAd K d_Store_free.at_) fd) :
    FnG P w K mg base (L2.CX P w) 2 (He.fAd K d_Store_free.at_) fd ["self"] (spM ⟨K, tN K⟩ 1 m_Store_free) :=
  def_MD D sc_Store_free b_Store_free fun cdv A outer s H E hs hr => by
    have sc := sc_Store_free
    exact js_cons (js_if (jt_notN (je_fld (je_var (pv 0)) (fk_Store__snapshot F) n__snapshot)) (js_one (js_ret (je_lRev rfl (by rfl) (F.free 11) (by rfl) (F.free 13) (je_fld (je_fld (je_var (pv 0)) (fk_Store__snapshot F) n__snapshot) (fk_Snapshot_free F) n_free)))) (js_nil)) (js_cons (js_set (i := 1) sc.nd rfl (Or.inr rfl) (je_meth0 (c := 1) (ok_Tree_places F) (F.cls 33) (F.meth 80) n_places hs (hr.mono (by decide)) pass_M (je_fld (je_var (pv 0)) (fk_Store__tree F) n__tree))) (js_one (js_ret (je_lcA (c := .one 2) [("place", 2)] rfl rfl sc.nd (ji_range2 (by rfl) (F.free 30) (je_fld (je_var (pv 0)) (fk_Store__low F) n__low) (je_fld (je_var (pv 0)) (fk_Store__high F) n__high)) (blkOk_by (own := [("place", 2)]) (N := sl_Store_free) (sc := defScope s_Store_free) (by decide +kernel)) (fun _ _ _ _ _ => pg_name (i := 2) sc.nd rfl (Or.inl rfl)) (fun _ _ _ _ _ => jts_one (jt_notIn (hu_of hr) (je_var (pv 2)) (je_var (pv 1)))) (fun _ _ _ _ _ => je_var (pv 2)) (by decide)))))
theorem ok_Store_free (F : W K mg) : FM P w K mg base (tN K) 2 (He.fAd K d_Store_free.at_) 1 [] m_Store_free := by
  obtain ⟨fd, D⟩ := F.c.def_ 30 (d := d_Store_free) rfl
  exact FM.of0 (ps := ["self"]) D (fn_Store_free F D) rfl (fun _ _ _ _ _ _ us hl => match us, hl with | [_], _ => rfl)
def b_Store_begin : MS := gSeq (gIfS (gB (gNotN (gFld [3] 43400772425249076700374875251346462017735525220221023 (gVar 0)))) (gRaise0 9) (gNext)) (gFldS [3] 43400772425249076700374875251346462017735525220221023 (gMake 2 m_Snapshot___init [] 5 (gCons (gVar 1) (gCons (gCB (f1 mTuple) (gCons (gVar 2) (gNil))) (gCons (gFld [3] 1953625056058317846203072607 (gVar 0)) (gCons (gMeth 3 931561019925269053542 m_Store_free [] 1 (gVar 0) gNil) (gNil)))))) (gVar 0))
def m_Store_begin : MF := gBody 3 b_Store_begin
theorem sc_Store_begin : FnScope ["self", "memory", "facts"] ["self", "memory", "facts"] (defScope s_Store_begin) :=
  ⟨rfl, rfl, rfl, by decide +kernel, rfl, by decide +kernel, by decide +kernel⟩
theorem fn_Store_begin (F : W K mg) {fd : FuncData} (D : FunD K d_Store_begin.name d_Store_begin.qual d_Store_begin.params d_Store_begin.body d_Store_begin.scope (d_Store_begin.dvs K) (d_Store_begin.kws K) (He.fAd K d_Store_begin.at_) fd) :
    FnG P w K mg base (L2.CX P w) 7 (He.fAd K d_Store_begin.at_) fd ["self", "memory", "facts"] (spM ⟨K, tN K⟩ 3 m_Store_begin) :=
  def_MD D sc_Store_begin b_Store_begin fun cdv A outer s H E hs hr => by
    have sc := sc_Store_begin
    exact js_cons (js_if (jt_notN (je_fld (je_var (pv 0)) (fk_Store__snapshot F) n__snapshot)) (js_one (js_raise0 (c := 9) (takes_of rfl rfl rfl rfl) rfl rfl hs (hr.mono (by decide)) (er_Busy F) (by rfl))) (js_nil)) (js_one (js_fld (je_var (pv 0)) (je_make (c := 2) (ok_Snapshot___init F) (F.mkr 81) hs (hr.mono (by decide)) pass_M (by rfl) (F.glo 79) (ja_cons (je_var (pv 1)) (ja_cons (je_callT call_tuple_of mc_tuple (by rfl) (F.free 10) PyProof.Rows.boot_tuple (ja_cons (je_var (pv 2)) (ja_nil))) (ja_cons (je_fld (je_var (pv 0)) (fk_Store__tree F) n__tree) (ja_cons (je_meth0 (c := 3) (ok_Store_free F) (F.cls 42) (F.meth 82) n_free hs (hr.mono (by decide)) pass_M (je_var (pv 0))) (ja_nil)))))) (fk_Store__snapshot F) n__snapshot))
theorem ok_Store_begin (F : W K mg) : FM P w K mg base (tN K) 7 (He.fAd K d_Store_begin.at_) 3 [] m_Store_begin := by
  obtain ⟨fd, D⟩ := F.c.def_ 31 (d := d_Store_begin) rfl
  exact FM.of0 (ps := ["self", "memory", "facts"]) D (fn_Store_begin F D) rfl (fun _ _ _ _ _ _ us hl => match us, hl with | [_, _, _], _ => rfl)
end
end K57
set_option Elab.async false
set_option linter.all false
set_option maxRecDepth 100000
set_option maxHeartbeats 8000000
namespace K57
open PySem PySem.Spec PyProof.Rows L2 JB MI
section
variable {P : Program} {w : World} {K : PySem.W.Frag} {mg : Str → Option Value} {base : Heap}
def b_Store__need_snapshot : MS := gIfS (gB (gIsN (gFld [3] 43400772425249076700374875251346462017735525220221023 (gVar 0)))) (gRaise0 8) (gNext)
def m_Store__need_snapshot : MF := gBody 1 b_Store__need_snapshot
theorem sc_Store__need_snapshot : FnScope ["self"] ["self"] (defScope s_Store__need_snapshot) :=
  ⟨rfl, rfl, rfl, by decide +kernel, rfl, by decide +kernel, by decide +kernel⟩
theorem fn_Store__need_snapshot (F : W K mg) {fd : FuncData} (D : FunD K d_Store__need_snapshot.name d_Store__need_snapshot.qual d_Store__need_snapshot.params d_Store__need_snapshot.body d_Store__need_snapshot.scope (d_Store__need_snapshot.dvs K) (d_Store__need_snapshot.kws K) (He.fAd K d_Store__need_snapshot.at_) fd) :
    FnG P w K mg base (L2.CX P w) 3 (He.fAd K d_Store__need_snapshot.at_) fd ["self"] (spM ⟨K, tN K⟩ 1 m_Store__need_snapshot) :=
  def_MD D sc_Store__need_snapshot b_Store__need_snapshot fun cdv A outer s H E hs hr => by
    have sc := sc_Store__need_snapshot
    exact js_one (js_if (jt_isN (je_fld (je_var (pv 0)) (fk_Store__snapshot F) n__snapshot)) (js_one (js_raise0 (c := 8) (takes_of rfl rfl rfl rfl) rfl rfl hs (hr.mono (by decide)) (er_Idle F) (by rfl))) (js_nil))
theorem ok_Store__need_snapshot (F : W K mg) : FM P w K mg base (tN K) 3 (He.fAd K d_Store__need_snapshot.at_) 1 [] m_Store__need_snapshot := by
  obtain ⟨fd, D⟩ := F.c.def_ 32 (d := d_Store__need_snapshot) rfl
  exact FM.of0 (ps := ["self"]) D (fn_Store__need_snapshot F D) rfl (fun _ _ _ _ _ _ us hl => match us, hl with | [_], _ => rfl)
def b_Memory_thaw : MS := gSeq (gExpr (gMeth 0 379596215269537023593716527823455569553730270615374589765347872264421471 m_Memory__need_frozen [] 1 (gVar 0) gNil)) (gFldS [0] 2243767354222864078911570015 (gC .non) (gVar 0))
def m_Memory_thaw : MF := gBody 1 b_Memory_thaw
theorem sc_Memory_thaw : FnScope ["self"] ["self"] (defScope s_Memory_thaw) :=
  ⟨rfl, rfl, rfl, by decide +kernel, rfl, by decide +kernel, by decide +kernel⟩
theorem fn_Memory_thaw (F : W K mg) {fd : FuncData} (D : FunD K d_Memory_thaw.name d_Memory_thaw.qual d_Memory_thaw.params d_Memory_thaw.body d_Memory_thaw.scope (d_Memory_thaw.dvs K) (d_Memory_thaw.kws K) (He.fAd K d_Memory_thaw.at_) fd) :
    FnG P w K mg base (L2.CX P w) 4 (He.fAd K d_Memory_thaw.at_) fd ["self"] (spM ⟨K, tN K⟩ 1 m_Memory_thaw) :=
  def_MD D sc_Memory_thaw b_Memory_thaw fun cdv A outer s H E hs hr => by
    have sc := sc_Memory_thaw
    exact js_cons (js_expr (je_meth0 (c := 0) (ok_Memory__need_frozen F) (F.cls 53) (F.meth 63) n__need_frozen hs (hr.mono (by decide)) pass_M (je_var (pv 0)))) (js_one (js_fld (je_var (pv 0)) (je_non) (fk_Memory__kept F) n__kept))
theorem ok_Memory_thaw (F : W K mg) : FM P w K mg base (tN K) 4 (He.fAd K d_Memory_thaw.at_) 1 [] m_Memory_thaw := by
  obtain ⟨fd, D⟩ := F.c.def_ 33 (d := d_Memory_thaw) rfl
  exact FM.of0 (ps := ["self"]) D (fn_Memory_thaw F D) rfl (fun _ _ _ _ _ _ us hl => match us, hl with | [_], _ => rfl)
def b_Store__write : MS := gSeq (gIfS (gNot (gTru (gFld [2] 931561019925269053542 (gFld [3] 43400772425249076700374875251346462017735525220221023 (gVar 0))))) (gSeq (gExpr (gMeth 0 1097581698996448002164 m_Memory_thaw [] 1 (gFld [2] 4908345329165423014454327636918381 (gFld [3] 43400772425249076700374875251346462017735525220221023 (gVar 0))) gNil)) (gSeq (gFldS [3] 43400772425249076700374875251346462017735525220221023 (gC .non) (gVar 0)) (gRaise1 10 2243767335776190373954584675 (gBin mSub (gFld [3] 2011653513846524537854754911 (gVar 0)) (gFld [3] 1097581760569107546207 (gVar 0)))))) (gNext)) (gSeq (gAsg (gBM "list" lPop (gFld [2] 931561019925269053542 (gFld [3] 43400772425249076700374875251346462017735525220221023 (gVar 0))) gNil) (tgName 2)) (gSeq (gExpr (gMeth 4 1953625194408858816601915511 m_Disk_write [] 3 (gFld [3] 2069682063868491180489572447 (gVar 0)) (gCons (gVar 2) (gCons (gVar 1) (gNil))))) (gRet (gVar 2))))
def m_Store__write : MF := gBody 3 b_Store__write
theorem sc_Store__write : FnScope ["self", "block", "place"] ["self", "block"] (defScope s_Store__write) :=
  ⟨rfl, rfl, rfl, by decide +kernel, rfl, by decide +kernel, by decide +kernel⟩
theorem fn_Store__write (F : W K mg) {fd : FuncData} (D : FunD K d_Store__write.name d_Store__write.qual d_Store__write.params d_Store__write.body d_Store__write.scope (d_Store__write.dvs K) (d_Store__write.kws K) (He.fAd K d_Store__write.at_) fd) :
    FnG P w K mg base (L2.CX P w) 5 (He.fAd K d_Store__write.at_) fd ["self", "block"] (spM ⟨K, tN K⟩ 2 m_Store__write) :=
  def_MD D sc_Store__write b_Store__write fun cdv A outer s H E hs hr => by
    have sc := sc_Store__write
    exact js_cons (js_if (jt_not (jt_tru (je_fld (je_fld (je_var (pv 0)) (fk_Store__snapshot F) n__snapshot) (fk_Snapshot_free F) n_free))) (js_cons (js_expr (je_meth0 (c := 0) (ok_Memory_thaw F) (F.cls 53) (F.meth 83) n_thaw hs (hr.mono (by decide)) pass_M (je_fld (je_fld (je_var (pv 0)) (fk_Store__snapshot F) n__snapshot) (fk_Snapshot_memory F) n_memory))) (js_cons (js_fld (je_var (pv 0)) (je_non) (fk_Store__snapshot F) n__snapshot) (js_one (js_raise1 (c := 10) n_count (takes_of rfl rfl rfl rfl) rfl rfl hs (hr.mono (by decide)) (er_Full F) (by rfl) (je_sub (je_fld (je_var (pv 0)) (fk_Store__high F) n__high) (je_fld (je_var (pv 0)) (fk_Store__low F) n__low)))))) (js_nil)) (js_cons (js_set (i := 2) sc.nd rfl (Or.inl rfl) (je_bm0 PySem.F.plainAttrs_list PySem.F.slot_list_pop PySem.F.type_list_pop mt_pop mm_pop (je_fld (je_fld (je_var (pv 0)) (fk_Store__snapshot F) n__snapshot) (fk_Snapshot_free F) n_free))) (js_cons (js_expr (je_meth (c := 4) (ok_Disk_write F) (F.cls 3) (F.meth 22) n_write hs (hr.mono (by decide)) pass_M (je_fld (je_var (pv 0)) (fk_Store__disk F) n__disk) (ja_cons (je_var (pv 2)) (ja_cons (je_var (pv 1)) (ja_nil))))) (js_one (js_ret (je_var (pv 2))))))
theorem ok_Store__write (F : W K mg) : FM P w K mg base (tN K) 5 (He.fAd K d_Store__write.at_) 2 [] m_Store__write := by
  obtain ⟨fd, D⟩ := F.c.def_ 34 (d := d_Store__write) rfl
  exact FM.of0 (ps := ["self", "block"]) D (fn_Store__write F D) rfl (fun _ _ _ _ _ _ us hl => match us, hl with | [_, _], _ => rfl)
def b_Store_step : MS := gSeq (gExpr (gMeth 3 1760544486887544945401134325370868396511515351509288434565822573596797015893808775263 m_Store__need_snapshot [] 1 (gVar 0) gNil)) (gSeq (gAsg (gFld [2] 1069911662050714583154 (gFld [3] 43400772425249076700374875251346462017735525220221023 (gVar 0))) (tgName 3)) (gSeq (gWhile (gAnd (gB (gBin mGtI (gVar 1) (gC (.int 0)))) (gTru (gVar 3))) (gSeq (gAug 1 (fun i j => i - j) (gC (.int 1))) (gSeq (gAsg (gBin mIx (gVar 3) (gUn mNeg (gC (.int 1)))) (tgName 2)) (gSeq (gAsg (gMeth 3 4097048983704927084954340317724767 m_Store__write [] 2 (gVar 0) (gCons (gMeth 0 4462132066428617242385821292560486 m_Memory_frozen [] 2 (gFld [2] 4908345329165423014454327636918381 (gFld [3] 43400772425249076700374875251346462017735525220221023 (gVar 0))) (gCons (gVar 2) (gNil))) (gNil))) (tgSub (gBin mIx (gFld [1] 4664956297864632052681773720535148 (gFld [2] 931561019925269053556 (gFld [3] 43400772425249076700374875251346462017735525220221023 (gVar 0)))) (gC (.int 0))) (gVar 2))) (gExpr (gBM "list" lPop (gVar 3) gNil))))) 100000) (gRet (gCB (f1 mLenV) (gCons (gVar 3) (gNil))))))
def m_Store_step : MF := gBody 4 b_Store_step
theorem sc_Store_step : FnScope ["self", "count", "number", "rest"] ["self", "count"] (defScope s_Store_step) :=
  ⟨rfl, rfl, rfl, by decide +kernel, rfl, by decide +kernel, by decide +kernel⟩
theorem fn_Store_step (F : W K mg) {fd : FuncData} (D : FunD K d_Store_step.name d_Store_step.qual d_Store_step.params d_Store_step.body d_Store_step.scope (d_Store_step.dvs K) (d_Store_step.kws K) (He.fAd K d_Store_step.at_) fd) :
    FnG P w K mg base (L2.CX P w) 6 (He.fAd K d_Store_step.at_) fd ["self", "count"] (spM ⟨K, tN K⟩ 2 m_Store_step) :=
  def_MD D sc_Store_step b_Store_step fun cdv A outer s H E hs hr => by
    have sc := sc_Store_step
    exact js_cons (js_expr (je_meth0 (c := 3) (ok_Store__need_snapshot F) (F.cls 42) (F.meth 85) n__need_snapshot hs (hr.mono (by decide)) pass_M (je_var (pv 0)))) (js_cons (js_set (i := 3) sc.nd rfl (Or.inl rfl) (je_fld (je_fld (je_var (pv 0)) (fk_Store__snapshot F) n__snapshot) (fk_Snapshot_rest F) n_rest)) (js_cons (js_while 100000 own_M (PW.pt (jw_and (jt_gt (je_var (pv 1)) (je_int)) (jw_and1 (jt_tru (je_var (pv 3)))))) (js_cons (js_aug ip_sub sc.nd rfl (Or.inl rfl) (je_int)) (js_cons (js_set (i := 2) sc.nd rfl (Or.inl rfl) (je_ix (hu_of hr) (je_var (pv 3)) (je_neg (je_int)))) (js_cons (js_asg (je_meth (c := 3) (ok_Store__write F) (F.cls 42) (F.meth 86) n__write hs (hr.mono (by decide)) pass_M (je_var (pv 0)) (ja_cons (je_meth (c := 0) (ok_Memory_frozen F) (F.cls 53) (F.meth 77) n_frozen hs (hr.mono (by decide)) pass_M (je_fld (je_fld (je_var (pv 0)) (fk_Store__snapshot F) n__snapshot) (fk_Snapshot_memory F) n_memory) (ja_cons (je_var (pv 2)) (ja_nil))) (ja_nil))) (jg_sub (hu_of hr) (je_ix (hu_of hr) (je_fld (je_fld (je_fld (je_var (pv 0)) (fk_Store__snapshot F) n__snapshot) (fk_Snapshot_tree F) n_tree) (fk_Tree_levels F) n_levels) (je_int)) (je_var (pv 2)))) (js_one (js_expr (je_bm0 PySem.F.plainAttrs_list PySem.F.slot_list_pop PySem.F.type_list_pop mt_pop mm_pop (je_var (pv 3))))))))) (js_one (js_ret (je_callB call_lenM mc_len (by rfl) (F.free 5) PySem.boot_len (ja_cons (je_var (pv 3)) (ja_nil)))))))
theorem ok_Store_step (F : W K mg) : FM P w K mg base (tN K) 6 (He.fAd K d_Store_step.at_) 2 [] m_Store_step := by
  obtain ⟨fd, D⟩ := F.c.def_ 35 (d := d_Store_step) rfl
  exact FM.of0 (ps := ["self", "count"]) D (fn_Store_step F D) rfl (fun _ _ _ _ _ _ us hl => match us, hl with | [_, _], _ => rfl)
def b_Memory_settle : MS := gSeq (gExpr (gMeth 0 379596215269537023593716527823455569553730270615374589765347872264421471 m_Memory__need_frozen [] 1 (gVar 0) gNil)) (gSeq (gFldS [0] 1953625185185451595341496415 (gFld [0] 2243767354222864078911570015 (gVar 0)) (gVar 0)) (gFldS [0] 2243767354222864078911570015 (gC .non) (gVar 0)))
def m_Memory_settle : MF := gBody 1 b_Memory_settle
theorem sc_Memory_settle : FnScope ["self"] ["self"] (defScope s_Memory_settle) :=
  ⟨rfl, rfl, rfl, by decide +kernel, rfl, by decide +kernel, by decide +kernel⟩
theorem fn_Memory_settle (F : W K mg) {fd : FuncData} (D : FunD K d_Memory_settle.name d_Memory_settle.qual d_Memory_settle.params d_Memory_settle.body d_Memory_settle.scope (d_Memory_settle.dvs K) (d_Memory_settle.kws K) (He.fAd K d_Memory_settle.at_) fd) :
    FnG P w K mg base (L2.CX P w) 4 (He.fAd K d_Memory_settle.at_) fd ["self"] (spM ⟨K, tN K⟩ 1 m_Memory_settle) :=
  def_MD D sc_Memory_settle b_Memory_settle fun cdv A outer s H E hs hr => by
    have sc := sc_Memory_settle
    exact js_cons (js_expr (je_meth0 (c := 0) (ok_Memory__need_frozen F) (F.cls 53) (F.meth 63) n__need_frozen hs (hr.mono (by decide)) pass_M (je_var (pv 0)))) (js_cons (js_fld (je_var (pv 0)) (je_fld (je_var (pv 0)) (fk_Memory__kept F) n__kept) (fk_Memory__base F) n__base) (js_one (js_fld (je_var (pv 0)) (je_non) (fk_Memory__kept F) n__kept)))
theorem ok_Memory_settle (F : W K mg) : FM P w K mg base (tN K) 4 (He.fAd K d_Memory_settle.at_) 1 [] m_Memory_settle := by
  obtain ⟨fd, D⟩ := F.c.def_ 36 (d := d_Memory_settle) rfl
  exact FM.of0 (ps := ["self"]) D (fn_Memory_settle F D) rfl (fun _ _ _ _ _ _ us hl => match us, hl with | [_], _ => rfl)
abbrev sl_Tree_parts_above : List Str := ["self", "level", "part"]
def b_Tree_parts_above : MS := gRet (gLock (pkE (gBin mIx (gFld [1] 4664956297864632052681773720535148 (gVar 0)) (gBin mSub (gVar 1) (gC (.int 1))))) (gSortC (gWalk itK (gBin mIx (gFld [1] 4664956297864632052681773720535148 (gVar 0)) (gBin mSub (gVar 1) (gC (.int 1))))) (.one 2) (gYes) (gBin mDiv (gVar 2) (gC (.int 4))) [2]))
def m_Tree_parts_above : MF := gBody 3 b_Tree_parts_above
theorem sc_Tree_parts_above : FnScope ["self", "level", "part"] ["self", "level"] (defScope s_Tree_parts_above) :=
  ⟨rfl, rfl, rfl, by decide +kernel, rfl, by decide +kernel, by decide +kernel⟩
theorem fn_Tree_parts_above (F : W K mg) {fd : FuncData} (D : FunD K d_Tree_parts_above.name d_Tree_parts_above.qual d_Tree_parts_above.params d_Tree_parts_above.body d_Tree_parts_above.scope (d_Tree_parts_above.dvs K) (d_Tree_parts_above.kws K) (He.fAd K d_Tree_parts_above.at_) fd) :
    FnG P w K mg base (L2.CX P w) 1 (He.fAd K d_Tree_parts_above.at_) fd ["self", "level"] (spM ⟨K, tN K⟩ 2 m_Tree_parts_above) :=
  def_MD D sc_Tree_parts_above b_Tree_parts_above fun cdv A outer s H E hs hr => by
    have sc := sc_Tree_parts_above
    exact js_one (js_ret (je_lock (pk := (pkE (gBin mIx (gFld [1] 4664956297864632052681773720535148 (gVar 0)) (gBin mSub (gVar 1) (gC (.int 1)))))) (je_sortC (c := .one 2) [("part", 2)] rfl rfl sc.nd (by rfl) (F.free 66) (ji_keys (je_ix (hu_of hr) (je_fld (je_var (pv 0)) (fk_Tree_levels F) n_levels) (je_sub (je_var (pv 1)) (je_int)))) (blkOk_by (own := [("part", 2)]) (N := sl_Tree_parts_above) (sc := defScope s_Tree_parts_above) (by decide +kernel)) (fun _ _ _ _ _ => pg_name (i := 2) sc.nd rfl (Or.inl rfl)) (fun _ _ _ _ _ => jts_nil) (fun _ _ _ _ _ => je_div (je_var (pv 2)) (je_glI (by rfl) (F.int 25))) (by decide))))
theorem ok_Tree_parts_above (F : W K mg) : FM P w K mg base (tN K) 1 (He.fAd K d_Tree_parts_above.at_) 2 [] m_Tree_parts_above := by
  obtain ⟨fd, D⟩ := F.c.def_ 37 (d := d_Tree_parts_above) rfl
  exact FM.of0 (ps := ["self", "level"]) D (fn_Tree_parts_above F D) rfl (fun _ _ _ _ _ _ us hl => match us, hl with | [_, _], _ => rfl)
abbrev sl_Tree_index : List Str := ["self", "level", "part", "below", "at"]
def b_Tree_index : MS := gSeq (gIfS (gB (gBin mGtI (gVar 1) (gFld [1] 2011653633750391803286126692 (gVar 0)))) (gRet (gTup (gNil))) (gNext)) (gSeq (gAsg (gBin mIx (gFld [1] 4664956297864632052681773720535148 (gVar 0)) (gBin mSub (gVar 1) (gC (.int 1)))) (tgName 3)) (gRet (gCall m_without_end [] 1 (gCons (gLc (gRng1 (gC (.int 4))) (.one 4) (gYes) (gDget (gVar 3) (gBin mAdd (gBin mMulA (gVar 2) (gC (.int 4))) (gVar 4))) [4]) (gNil)))))
def m_Tree_index : MF := gBody 5 b_Tree_index
theorem sc_Tree_index : FnScope ["self", "level", "part", "below", "at"] ["self", "level", "part"] (defScope s_Tree_index) :=
  ⟨rfl, rfl, rfl, by decide +kernel, rfl, by decide +kernel, by decide +kernel⟩
theorem fn_Tree_index (F : W K mg) {fd : FuncData} (D : FunD K d_Tree_index.name d_Tree_index.qual d_Tree_index.params d_Tree_index.body d_Tree_index.scope (d_Tree_index.dvs K) (d_Tree_index.kws K) (He.fAd K d_Tree_index.at_) fd) :
    FnG P w K mg base (L2.CX P w) 2 (He.fAd K d_Tree_index.at_) fd ["self", "level", "part"] (spM ⟨K, tN K⟩ 3 m_Tree_index) :=
  def_MD D sc_Tree_index b_Tree_index fun cdv A outer s H E hs hr => by
    have sc := sc_Tree_index
    exact js_cons (js_if (jt_gt (je_var (pv 1)) (je_fld (je_var (pv 0)) (fk_Tree_depth F) n_depth)) (js_one (js_ret (je_tup (ja_nil)))) (js_nil)) (js_cons (js_set (i := 3) sc.nd rfl (Or.inr rfl) (je_ix (hu_of hr) (je_fld (je_var (pv 0)) (fk_Tree_levels F) n_levels) (je_sub (je_var (pv 1)) (je_int)))) (js_one (js_ret (je_call (ok_without_end F) hs (hr.mono (by decide)) pass_M (by rfl) (F.glo 55) (ja_cons (je_lcA (c := .one 4) [("at", 4)] rfl rfl sc.nd (ji_range1 (by rfl) (F.free 30) (je_glI (by rfl) (F.int 25))) (blkOk_by (own := [("at", 4)]) (N := sl_Tree_index) (sc := defScope s_Tree_index) (by decide +kernel)) (fun _ _ _ _ _ => pg_name (i := 4) sc.nd rfl (Or.inl rfl)) (fun _ _ _ _ _ => jts_nil) (fun _ _ _ _ _ => je_dget (hu_of hr) (je_var (pv 3)) (je_add (je_mulA (je_var (pv 2)) (je_glI (by rfl) (F.int 25))) (je_var (pv 4))) ⟨rfl, rfl, rfl, rfl⟩) (by decide)) (ja_nil))))))
theorem ok_Tree_index (F : W K mg) : FM P w K mg base (tN K) 2 (He.fAd K d_Tree_index.at_) 3 [] m_Tree_index := by
  obtain ⟨fd, D⟩ := F.c.def_ 38 (d := d_Tree_index) rfl
  exact FM.of0 (ps := ["self", "level", "part"]) D (fn_Tree_index F D) rfl (fun _ _ _ _ _ _ us hl => match us, hl with | [_, _, _], _ => rfl)
def b_Tree_place : MS := gRet (gIf (gB (gBin mLeI (gVar 1) (gFld [1] 2011653633750391803286126692 (gVar 0)))) (gDget (gBin mIx (gFld [1] 4664956297864632052681773720535148 (gVar 0)) (gVar 1)) (gVar 2)) (gC .non))
def m_Tree_place : MF := gBody 3 b_Tree_place
theorem sc_Tree_place : FnScope ["self", "level", "part"] ["self", "level", "part"] (defScope s_Tree_place) :=
  ⟨rfl, rfl, rfl, by decide +kernel, rfl, by decide +kernel, by decide +kernel⟩
theorem fn_Tree_place (F : W K mg) {fd : FuncData} (D : FunD K d_Tree_place.name d_Tree_place.qual d_Tree_place.params d_Tree_place.body d_Tree_place.scope (d_Tree_place.dvs K) (d_Tree_place.kws K) (He.fAd K d_Tree_place.at_) fd) :
    FnG P w K mg base (L2.CX P w) 1 (He.fAd K d_Tree_place.at_) fd ["self", "level", "part"] (spM ⟨K, tN K⟩ 3 m_Tree_place) :=
  def_MD D sc_Tree_place b_Tree_place fun cdv A outer s H E hs hr => by
    have sc := sc_Tree_place
    exact js_one (js_ret (je_if (jt_le (je_var (pv 1)) (je_fld (je_var (pv 0)) (fk_Tree_depth F) n_depth)) (je_dget (hu_of hr) (je_ix (hu_of hr) (je_fld (je_var (pv 0)) (fk_Tree_levels F) n_levels) (je_var (pv 1))) (je_var (pv 2)) ⟨rfl, rfl, rfl, rfl⟩) (je_non)))
theorem ok_Tree_place (F : W K mg) : FM P w K mg base (tN K) 1 (He.fAd K d_Tree_place.at_) 3 [] m_Tree_place := by
  obtain ⟨fd, D⟩ := F.c.def_ 39 (d := d_Tree_place) rfl
  exact FM.of0 (ps := ["self", "level", "part"]) D (fn_Tree_place F D) rfl (fun _ _ _ _ _ _ us hl => match us, hl with | [_, _, _], _ => rfl)
end
end K57
set_option Elab.async false
set_option linter.all false
set_option maxRecDepth 100000
set_option maxHeartbeats 8000000
namespace K57
open PySem PySem.Spec PyProof.Rows L2 JB MI
section
variable {P : Program} {w : World} {K : PySem.W.Frag} {mg : Str → Option Value} {base : Heap}
def b_Store__write_level : MS := gFor (gIter (gMeth 1 166196052876733937259203341441009329260313286344994585974790946928 m_Tree_parts_above [] 2 (gVar 1) (gCons (gVar 2) (gNil)))) (tgName 4) (gSeq (gAsg (gMeth 1 2321138505221103542650011753 m_Tree_index [] 3 (gVar 1) (gCons (gVar 2) (gCons (gVar 4) (gNil)))) (tgName 3)) (gSeq (gIfS (gB (gBin mEqX (gVar 3) (gMeth 1 2321138505221103542650011753 m_Tree_index [] 3 (gFld [3] 1953625056058317846203072607 (gVar 0)) (gCons (gVar 2) (gCons (gVar 4) (gNil)))))) (gAsg (gMeth 1 1953625037611499005686055024 m_Tree_place [] 3 (gFld [3] 1953625056058317846203072607 (gVar 0)) (gCons (gVar 2) (gCons (gVar 4) (gNil)))) (tgName 5)) (gAsg (gMeth 3 4097048983704927084954340317724767 m_Store__write [] 2 (gVar 0) (gCons (gVar 3) (gNil))) (tgName 5))) (gAsg (gVar 5) (tgSub (gBin mIx (gFld [1] 4664956297864632052681773720535148 (gVar 1)) (gVar 2)) (gVar 4)))))
def m_Store__write_level : MF := gBody 6 b_Store__write_level
theorem sc_Store__write_level : FnScope ["self", "tree", "level", "block", "part", "place"] ["self", "tree", "level"] (defScope s_Store__write_level) :=
  ⟨rfl, rfl, rfl, by decide +kernel, rfl, by decide +kernel, by decide +kernel⟩
theorem fn_Store__write_level (F : W K mg) {fd : FuncData} (D : FunD K d_Store__write_level.name d_Store__write_level.qual d_Store__write_level.params d_Store__write_level.body d_Store__write_level.scope (d_Store__write_level.dvs K) (d_Store__write_level.kws K) (He.fAd K d_Store__write_level.at_) fd) :
    FnG P w K mg base (L2.CX P w) 6 (He.fAd K d_Store__write_level.at_) fd ["self", "tree", "level"] (spM ⟨K, tN K⟩ 3 m_Store__write_level) :=
  def_MD D sc_Store__write_level b_Store__write_level fun cdv A outer s H E hs hr => by
    have sc := sc_Store__write_level
    exact js_one (js_for own_M rfl (ji_seq (je_meth (c := 1) (ok_Tree_parts_above F) (F.cls 33) (F.meth 87) n_parts_above hs (hr.mono (by decide)) pass_M (je_var (pv 1)) (ja_cons (je_var (pv 2)) (ja_nil)))) (jg_name (pg_name (i := 4) sc.nd rfl (Or.inl rfl))) (js_cons (js_set (i := 3) sc.nd rfl (Or.inl rfl) (je_meth (c := 1) (ok_Tree_index F) (F.cls 33) (F.meth 88) n_index hs (hr.mono (by decide)) pass_M (je_var (pv 1)) (ja_cons (je_var (pv 2)) (ja_cons (je_var (pv 4)) (ja_nil))))) (js_cons (js_if (jt_eqF hr.units (je_var (pv 3)) (je_meth (c := 1) (ok_Tree_index F) (F.cls 33) (F.meth 88) n_index hs (hr.mono (by decide)) pass_M (je_fld (je_var (pv 0)) (fk_Store__tree F) n__tree) (ja_cons (je_var (pv 2)) (ja_cons (je_var (pv 4)) (ja_nil))))) (js_one (js_set (i := 5) sc.nd rfl (Or.inl rfl) (je_meth (c := 1) (ok_Tree_place F) (F.cls 33) (F.meth 89) n_place hs (hr.mono (by decide)) pass_M (je_fld (je_var (pv 0)) (fk_Store__tree F) n__tree) (ja_cons (je_var (pv 2)) (ja_cons (je_var (pv 4)) (ja_nil)))))) (js_one (js_set (i := 5) sc.nd rfl (Or.inl rfl) (je_meth (c := 3) (ok_Store__write F) (F.cls 42) (F.meth 86) n__write hs (hr.mono (by decide)) pass_M (je_var (pv 0)) (ja_cons (je_var (pv 3)) (ja_nil)))))) (js_one (js_asg (je_var (pv 5)) (jg_sub (hu_of hr) (je_ix (hu_of hr) (je_fld (je_var (pv 1)) (fk_Tree_levels F) n_levels) (je_var (pv 2))) (je_var (pv 4))))))))
theorem ok_Store__write_level (F : W K mg) : FM P w K mg base (tN K) 6 (He.fAd K d_Store__write_level.at_) 3 [] m_Store__write_level := by
  obtain ⟨fd, D⟩ := F.c.def_ 40 (d := d_Store__write_level) rfl
  exact FM.of0 (ps := ["self", "tree", "level"]) D (fn_Store__write_level F D) rfl (fun _ _ _ _ _ _ us hl => match us, hl with | [_, _, _], _ => rfl)
def b_Tree_top : MS := gRet (gDget (gBin mIx (gFld [1] 4664956297864632052681773720535148 (gVar 0)) (gFld [1] 2011653633750391803286126692 (gVar 0))) (gC (.int 0)))
def m_Tree_top : MF := gBody 1 b_Tree_top
theorem sc_Tree_top : FnScope ["self"] ["self"] (defScope s_Tree_top) :=
  ⟨rfl, rfl, rfl, by decide +kernel, rfl, by decide +kernel, by decide +kernel⟩
theorem fn_Tree_top (F : W K mg) {fd : FuncData} (D : FunD K d_Tree_top.name d_Tree_top.qual d_Tree_top.params d_Tree_top.body d_Tree_top.scope (d_Tree_top.dvs K) (d_Tree_top.kws K) (He.fAd K d_Tree_top.at_) fd) :
    FnG P w K mg base (L2.CX P w) 1 (He.fAd K d_Tree_top.at_) fd ["self"] (spM ⟨K, tN K⟩ 1 m_Tree_top) :=
  def_MD D sc_Tree_top b_Tree_top fun cdv A outer s H E hs hr => by
    have sc := sc_Tree_top
    exact js_one (js_ret (je_dget (hu_of hr) (je_ix (hu_of hr) (je_fld (je_var (pv 0)) (fk_Tree_levels F) n_levels) (je_fld (je_var (pv 0)) (fk_Tree_depth F) n_depth)) (je_int) ⟨rfl, rfl, rfl, rfl⟩))
theorem ok_Tree_top (F : W K mg) : FM P w K mg base (tN K) 1 (He.fAd K d_Tree_top.at_) 1 [] m_Tree_top := by
  obtain ⟨fd, D⟩ := F.c.def_ 41 (d := d_Tree_top) rfl
  exact FM.of0 (ps := ["self"]) D (fn_Tree_top F D) rfl (fun _ _ _ _ _ _ us hl => match us, hl with | [_], _ => rfl)
def b_Store_finish : MS := gSeq (gExpr (gMeth 3 1760544486887544945401134325370868396511515351509288434565822573596797015893808775263 m_Store__need_snapshot [] 1 (gVar 0) gNil)) (gSeq (gExpr (gMeth 3 1033018112330675781747 m_Store_step [] 2 (gVar 0) (gCons (gCB (f1 mLenV) (gCons (gFld [2] 1069911662050714583154 (gFld [3] 43400772425249076700374875251346462017735525220221023 (gVar 0))) (gNil))) (gNil)))) (gSeq (gAsg (gFld [2] 931561019925269053556 (gFld [3] 43400772425249076700374875251346462017735525220221023 (gVar 0))) (tgName 3)) (gSeq (gFor (gRng2 (gC (.int 1)) (gBin mAdd (gFld [1] 2011653633750391803286126692 (gVar 3)) (gC (.int 1)))) (tgName 1) (gExpr (gMeth 3 372694468922743321251672633358793149712597491426945796269437328614752351 m_Store__write_level [] 3 (gVar 0) (gCons (gVar 3) (gCons (gVar 1) (gNil)))))) (gSeq (gAsg (gBin mAdd (gFld [3] 9698051554295381743034105754284936134751 (gVar 0)) (gC (.int 1))) (tgName 2)) (gSeq (gExpr (gMeth 4 9698051554295517142772019439742610309218 m_Disk_barrier [] 1 (gFld [3] 2069682063868491180489572447 (gVar 0)) gNil)) (gSeq (gExpr (gMeth 4 1953625194408858816601915511 m_Disk_write [] 3 (gFld [3] 2069682063868491180489572447 (gVar 0)) (gCons (gBin mMod (gVar 2) (gC (.int 2))) (gCons (gCall m_root_block [] 5 (gCons (gVar 2) (gCons (gMeth 1 492581442027636 m_Tree_top [] 1 (gVar 3) gNil) (gCons (gFld [1] 2011653633750391803286126692 (gVar 3)) (gCons (gFld [1] 1116028500244747518061 (gVar 3)) (gCons (gFld [2] 2224424578002509363421380710 (gFld [3] 43400772425249076700374875251346462017735525220221023 (gVar 0))) (gNil))))))) (gNil))))) (gSeq (gExpr (gMeth 4 9698051554295517142772019439742610309218 m_Disk_barrier [] 1 (gFld [3] 2069682063868491180489572447 (gVar 0)) gNil)) (gSeq (gExpr (gMeth 0 4097048828962523631383007413141619 m_Memory_settle [] 1 (gFld [2] 4908345329165423014454327636918381 (gFld [3] 43400772425249076700374875251346462017735525220221023 (gVar 0))) gNil)) (gSeq (gFldS [3] 9698051554295381743034105754284936134751 (gVar 2) (gVar 0)) (gSeq (gFldS [3] 4664956452607118516517875398738015 (gFld [2] 2224424578002509363421380710 (gFld [3] 43400772425249076700374875251346462017735525220221023 (gVar 0))) (gVar 0)) (gSeq (gFldS [3] 1953625056058317846203072607 (gVar 3) (gVar 0)) (gSeq (gFldS [3] 43400772425249076700374875251346462017735525220221023 (gC .non) (gVar 0)) (gRet (gVar 2))))))))))))))
def m_Store_finish : MF := gBody 4 b_Store_finish
theorem sc_Store_finish : FnScope ["self", "level", "number", "tree"] ["self"] (defScope s_Store_finish) :=
  ⟨rfl, rfl, rfl, by decide +kernel, rfl, by decide +kernel, by decide +kernel⟩
theorem fn_Store_finish (F : W K mg) {fd : FuncData} (D : FunD K d_Store_finish.name d_Store_finish.qual d_Store_finish.params d_Store_finish.body d_Store_finish.scope (d_Store_finish.dvs K) (d_Store_finish.kws K) (He.fAd K d_Store_finish.at_) fd) :
    FnG P w K mg base (L2.CX P w) 7 (He.fAd K d_Store_finish.at_) fd ["self"] (spM ⟨K, tN K⟩ 1 m_Store_finish) :=
  def_MD D sc_Store_finish b_Store_finish fun cdv A outer s H E hs hr => by
    have sc := sc_Store_finish
    exact js_cons (js_expr (je_meth0 (c := 3) (ok_Store__need_snapshot F) (F.cls 42) (F.meth 85) n__need_snapshot hs (hr.mono (by decide)) pass_M (je_var (pv 0)))) (js_cons (js_expr (je_meth (c := 3) (ok_Store_step F) (F.cls 42) (F.meth 90) n_step hs (hr.mono (by decide)) pass_M (je_var (pv 0)) (ja_cons (je_callB call_lenM mc_len (by rfl) (F.free 5) PySem.boot_len (ja_cons (je_fld (je_fld (je_var (pv 0)) (fk_Store__snapshot F) n__snapshot) (fk_Snapshot_rest F) n_rest) (ja_nil))) (ja_nil)))) (js_cons (js_set (i := 3) sc.nd rfl (Or.inl rfl) (je_fld (je_fld (je_var (pv 0)) (fk_Store__snapshot F) n__snapshot) (fk_Snapshot_tree F) n_tree)) (js_cons (js_for own_M rfl (ji_range2 (by rfl) (F.free 30) (je_int) (je_add (je_fld (je_var (pv 3)) (fk_Tree_depth F) n_depth) (je_int))) (jg_name (pg_name (i := 1) sc.nd rfl (Or.inl rfl))) (js_one (js_expr (je_meth (c := 3) (ok_Store__write_level F) (F.cls 42) (F.meth 91) n__write_level hs (hr.mono (by decide)) pass_M (je_var (pv 0)) (ja_cons (je_var (pv 3)) (ja_cons (je_var (pv 1)) (ja_nil))))))) (js_cons (js_set (i := 2) sc.nd rfl (Or.inl rfl) (je_add (je_fld (je_var (pv 0)) (fk_Store__number F) n__number) (je_int))) (js_cons (js_expr (je_meth0 (c := 4) (ok_Disk_barrier F) (F.cls 3) (F.meth 24) n_barrier hs (hr.mono (by decide)) pass_M (je_fld (je_var (pv 0)) (fk_Store__disk F) n__disk))) (js_cons (js_expr (je_meth (c := 4) (ok_Disk_write F) (F.cls 3) (F.meth 22) n_write hs (hr.mono (by decide)) pass_M (je_fld (je_var (pv 0)) (fk_Store__disk F) n__disk) (ja_cons (je_mod (je_var (pv 2)) (je_int)) (ja_cons (je_call (ok_root_block F) hs (hr.mono (by decide)) pass_M (by rfl) (F.glo 23) (ja_cons (je_var (pv 2)) (ja_cons (je_meth0 (c := 1) (ok_Tree_top F) (F.cls 33) (F.meth 92) n_top hs (hr.mono (by decide)) pass_M (je_var (pv 3))) (ja_cons (je_fld (je_var (pv 3)) (fk_Tree_depth F) n_depth) (ja_cons (je_fld (je_var (pv 3)) (fk_Tree_many F) n_many) (ja_cons (je_fld (je_fld (je_var (pv 0)) (fk_Store__snapshot F) n__snapshot) (fk_Snapshot_facts F) n_facts) (ja_nil))))))) (ja_nil))))) (js_cons (js_expr (je_meth0 (c := 4) (ok_Disk_barrier F) (F.cls 3) (F.meth 24) n_barrier hs (hr.mono (by decide)) pass_M (je_fld (je_var (pv 0)) (fk_Store__disk F) n__disk))) (js_cons (js_expr (je_meth0 (c := 0) (ok_Memory_settle F) (F.cls 53) (F.meth 93) n_settle hs (hr.mono (by decide)) pass_M (je_fld (je_fld (je_var (pv 0)) (fk_Store__snapshot F) n__snapshot) (fk_Snapshot_memory F) n_memory))) (js_cons (js_fld (je_var (pv 0)) (je_var (pv 2)) (fk_Store__number F) n__number) (js_cons (js_fld (je_var (pv 0)) (je_fld (je_fld (je_var (pv 0)) (fk_Store__snapshot F) n__snapshot) (fk_Snapshot_facts F) n_facts) (fk_Store__facts F) n__facts) (js_cons (js_fld (je_var (pv 0)) (je_var (pv 3)) (fk_Store__tree F) n__tree) (js_cons (js_fld (je_var (pv 0)) (je_non) (fk_Store__snapshot F) n__snapshot) (js_one (js_ret (je_var (pv 2))))))))))))))))
theorem ok_Store_finish (F : W K mg) : FM P w K mg base (tN K) 7 (He.fAd K d_Store_finish.at_) 1 [] m_Store_finish := by
  obtain ⟨fd, D⟩ := F.c.def_ 42 (d := d_Store_finish) rfl
  exact FM.of0 (ps := ["self"]) D (fn_Store_finish F D) rfl (fun _ _ _ _ _ _ us hl => match us, hl with | [_], _ => rfl)
def b_Memory__keep : MS := gSeq (gIfS (gB (gBin (mIn fun b => !b) (gVar 1) (gFld [0] 1953625185185451595341496415 (gVar 0)))) (gAsg (gMeth 0 931561028721326424176 m_Memory_page [] 2 (gVar 0) (gCons (gVar 1) (gNil))) (tgSub (gFld [0] 1953625185185451595341496415 (gVar 0)) (gVar 1))) (gNext)) (gIfS (gAnd (gB (gNotN (gFld [0] 2243767354222864078911570015 (gVar 0)))) (gB (gBin (mIn fun b => !b) (gVar 1) (gFld [0] 2243767354222864078911570015 (gVar 0))))) (gAsg (gMeth 0 931561028721326424176 m_Memory_page [] 2 (gVar 0) (gCons (gVar 1) (gNil))) (tgSub (gFld [0] 2243767354222864078911570015 (gVar 0)) (gVar 1))) (gNext))
def m_Memory__keep : MF := gBody 2 b_Memory__keep
theorem sc_Memory__keep : FnScope ["self", "number"] ["self", "number"] (defScope s_Memory__keep) :=
  ⟨rfl, rfl, rfl, by decide +kernel, rfl, by decide +kernel, by decide +kernel⟩
theorem fn_Memory__keep (F : W K mg) {fd : FuncData} (D : FunD K d_Memory__keep.name d_Memory__keep.qual d_Memory__keep.params d_Memory__keep.body d_Memory__keep.scope (d_Memory__keep.dvs K) (d_Memory__keep.kws K) (He.fAd K d_Memory__keep.at_) fd) :
    FnG P w K mg base (L2.CX P w) 3 (He.fAd K d_Memory__keep.at_) fd ["self", "number"] (spM ⟨K, tN K⟩ 2 m_Memory__keep) :=
  def_MD D sc_Memory__keep b_Memory__keep fun cdv A outer s H E hs hr => by
    have sc := sc_Memory__keep
    exact js_cons (js_if (jt_notIn (hu_of hr) (je_var (pv 1)) (je_fld (je_var (pv 0)) (fk_Memory__base F) n__base)) (js_one (js_asg (je_meth (c := 0) (ok_Memory_page F) (F.cls 53) (F.meth 65) n_page hs (hr.mono (by decide)) pass_M (je_var (pv 0)) (ja_cons (je_var (pv 1)) (ja_nil))) (jg_sub (hu_of hr) (je_fld (je_var (pv 0)) (fk_Memory__base F) n__base) (je_var (pv 1))))) (js_nil)) (js_one (js_if (PW.pt (jw_and (jt_notN (je_fld (je_var (pv 0)) (fk_Memory__kept F) n__kept)) (jw_and1 (jt_notIn (hu_of hr) (je_var (pv 1)) (je_fld (je_var (pv 0)) (fk_Memory__kept F) n__kept))))) (js_one (js_asg (je_meth (c := 0) (ok_Memory_page F) (F.cls 53) (F.meth 65) n_page hs (hr.mono (by decide)) pass_M (je_var (pv 0)) (ja_cons (je_var (pv 1)) (ja_nil))) (jg_sub (hu_of hr) (je_fld (je_var (pv 0)) (fk_Memory__kept F) n__kept) (je_var (pv 1))))) (js_nil)))
theorem ok_Memory__keep (F : W K mg) : FM P w K mg base (tN K) 3 (He.fAd K d_Memory__keep.at_) 2 [] m_Memory__keep := by
  obtain ⟨fd, D⟩ := F.c.def_ 43 (d := d_Memory__keep) rfl
  exact FM.of0 (ps := ["self", "number"]) D (fn_Memory__keep F D) rfl (fun _ _ _ _ _ _ us hl => match us, hl with | [_, _], _ => rfl)
def b_Memory_get : MS := gSeq (gIfS (gB (gBin (mIn fun b => !b) (gBin mDiv (gVar 1) (gC (.int 8))) (gFld [0] 2224424605672678250579492959 (gVar 0)))) (gRet (gC .non)) (gNext)) (gRet (gBin mIx (gBin mIx (gFld [0] 2224424605672678250579492959 (gVar 0)) (gBin mDiv (gVar 1) (gC (.int 8)))) (gBin mMod (gVar 1) (gC (.int 8)))))
def m_Memory_get : MF := gBody 2 b_Memory_get
theorem sc_Memory_get : FnScope ["self", "cell"] ["self", "cell"] (defScope s_Memory_get) :=
  ⟨rfl, rfl, rfl, by decide +kernel, rfl, by decide +kernel, by decide +kernel⟩
theorem fn_Memory_get (F : W K mg) {fd : FuncData} (D : FunD K d_Memory_get.name d_Memory_get.qual d_Memory_get.params d_Memory_get.body d_Memory_get.scope (d_Memory_get.dvs K) (d_Memory_get.kws K) (He.fAd K d_Memory_get.at_) fd) :
    FnG P w K mg base (L2.CX P w) 1 (He.fAd K d_Memory_get.at_) fd ["self", "cell"] (spM ⟨K, tN K⟩ 2 m_Memory_get) :=
  def_MD D sc_Memory_get b_Memory_get fun cdv A outer s H E hs hr => by
    have sc := sc_Memory_get
    exact js_cons (js_if (jt_notIn (hu_of hr) (je_div (je_var (pv 1)) (je_glI (by rfl) (F.int 56))) (je_fld (je_var (pv 0)) (fk_Memory__rows F) n__rows)) (js_one (js_ret (je_non))) (js_nil)) (js_one (js_ret (je_ix (hu_of hr) (je_ix (hu_of hr) (je_fld (je_var (pv 0)) (fk_Memory__rows F) n__rows) (je_div (je_var (pv 1)) (je_glI (by rfl) (F.int 56)))) (je_mod (je_var (pv 1)) (je_glI (by rfl) (F.int 56))))))
theorem ok_Memory_get (F : W K mg) : FM P w K mg base (tN K) 1 (He.fAd K d_Memory_get.at_) 2 [] m_Memory_get := by
  obtain ⟨fd, D⟩ := F.c.def_ 44 (d := d_Memory_get) rfl
  exact FM.of0 (ps := ["self", "cell"]) D (fn_Memory_get F D) rfl (fun _ _ _ _ _ _ us hl => match us, hl with | [_, _], _ => rfl)
def b_Memory_put : MS := gSeq (gIfS (gB (gBin mEqX (gMeth 0 510173607100519 m_Memory_get [] 2 (gVar 0) (gCons (gVar 1) (gNil))) (gVar 2))) (gRetN) (gNext)) (gSeq (gAsg (gBin mDiv (gVar 1) (gC (.int 8))) (tgName 3)) (gSeq (gExpr (gMeth 0 2166396000310435406327840863 m_Memory__keep [] 2 (gVar 0) (gCons (gVar 3) (gNil)))) (gSeq (gAsg (gSetd (gFld [0] 2224424605672678250579492959 (gVar 0)) (gVar 3) (gBin mMulA (gLst (gCons (gC .non) (gNil))) (gC (.int 8)))) (tgName 4)) (gSeq (gAsg (gVar 2) (tgSub (gVar 4) (gBin mMod (gVar 1) (gC (.int 8))))) (gSeq (gIfS (gNot (gTru (gCall m_without_end [] 1 (gCons (gVar 4) (gNil))))) (gDel (gFld [0] 2224424605672678250579492959 (gVar 0)) (gVar 3)) (gNext)) (gFldAug [0] 2224424578002588528290037855 (fun i j => i + j) (gVar 0) (gC (.int 1))))))))
def m_Memory_put : MF := gBody 5 b_Memory_put
theorem sc_Memory_put : FnScope ["self", "cell", "atom", "number", "row"] ["self", "cell", "atom"] (defScope s_Memory_put) :=
  ⟨rfl, rfl, rfl, by decide +kernel, rfl, by decide +kernel, by decide +kernel⟩
theorem fn_Memory_put (F : W K mg) {fd : FuncData} (D : FunD K d_Memory_put.name d_Memory_put.qual d_Memory_put.params d_Memory_put.body d_Memory_put.scope (d_Memory_put.dvs K) (d_Memory_put.kws K) (He.fAd K d_Memory_put.at_) fd) :
    FnG P w K mg base (L2.CX P w) 4 (He.fAd K d_Memory_put.at_) fd ["self", "cell", "atom"] (spM ⟨K, tN K⟩ 3 m_Memory_put) :=
  def_MD D sc_Memory_put b_Memory_put fun cdv A outer s H E hs hr => by
    have sc := sc_Memory_put
    exact js_cons (js_if (jt_eqF hr.units (je_meth (c := 0) (ok_Memory_get F) (F.cls 53) (F.meth 94) n_get hs (hr.mono (by decide)) pass_M (je_var (pv 0)) (ja_cons (je_var (pv 1)) (ja_nil))) (je_var (pv 2))) (js_one (js_retN)) (js_nil)) (js_cons (js_set (i := 3) sc.nd rfl (Or.inl rfl) (je_div (je_var (pv 1)) (je_glI (by rfl) (F.int 56)))) (js_cons (js_expr (je_meth (c := 0) (ok_Memory__keep F) (F.cls 53) (F.meth 95) n__keep hs (hr.mono (by decide)) pass_M (je_var (pv 0)) (ja_cons (je_var (pv 3)) (ja_nil)))) (js_cons (js_set (i := 4) sc.nd rfl (Or.inl rfl) (je_setd (je_fld (je_var (pv 0)) (fk_Memory__rows F) n__rows) (je_var (pv 3)) (je_mulA (je_lst (ja_cons (je_non) (ja_nil))) (je_glI (by rfl) (F.int 56))) ⟨rfl, rfl, rfl, rfl⟩)) (js_cons (js_asg (je_var (pv 2)) (jg_sub (hu_of hr) (je_var (pv 4)) (je_mod (je_var (pv 1)) (je_glI (by rfl) (F.int 56))))) (js_cons (js_if (jt_not (jt_tru (je_call (ok_without_end F) hs (hr.mono (by decide)) pass_M (by rfl) (F.glo 55) (ja_cons (je_var (pv 4)) (ja_nil))))) (js_one (js_del (je_fld (je_var (pv 0)) (fk_Memory__rows F) n__rows) (je_var (pv 3)))) (js_nil)) (js_one (js_fldaug (je_var (pv 0)) (je_int) (fk_Memory__puts F) n__puts aug_add)))))))
theorem ok_Memory_put (F : W K mg) : FM P w K mg base (tN K) 4 (He.fAd K d_Memory_put.at_) 3 [] m_Memory_put := by
  obtain ⟨fd, D⟩ := F.c.def_ 45 (d := d_Memory_put) rfl
  exact FM.of0 (ps := ["self", "cell", "atom"]) D (fn_Memory_put F D) rfl (fun _ _ _ _ _ _ us hl => match us, hl with | [_, _, _], _ => rfl)
def b_law_shot : MS := gSeq (gFor (gIter (gVar 2)) (tgTup [3, 4]) (gExpr (gMeth 0 510173640654960 m_Memory_put [] 3 (gVar 1) (gCons (gVar 3) (gCons (gVar 4) (gNil)))))) (gSeq (gExpr (gMeth 3 2127710410976264216236785762 m_Store_begin [] 3 (gVar 0) (gCons (gVar 1) (gCons (gTup (gCons (gC (.str [102])) (gCons (gCB (f1 mLenV) (gCons (gVar 2) (gNil))) (gNil)))) (gNil))))) (gRet (gMeth 3 4218743421984023993646364814737510 m_Store_finish [] 1 (gVar 0) gNil)))
def m_law_shot : MF := gBody 5 b_law_shot
theorem sc_law_shot : FnScope ["_law_shop", "_law_field", "_law_puts_so", "_law_at", "_law_atom"] ["_law_shop", "_law_field", "_law_puts_so"] (defScope s_law_shot) :=
  ⟨rfl, rfl, rfl, by decide +kernel, rfl, by decide +kernel, by decide +kernel⟩
theorem fn_law_shot (F : W K mg) {fd : FuncData} (D : FunD K d_law_shot.name d_law_shot.qual d_law_shot.params d_law_shot.body d_law_shot.scope (d_law_shot.dvs K) (d_law_shot.kws K) (He.fAd K d_law_shot.at_) fd) :
    FnG P w K mg base (L2.CX P w) 8 (He.fAd K d_law_shot.at_) fd ["_law_shop", "_law_field", "_law_puts_so"] (spM ⟨K, tN K⟩ 3 m_law_shot) :=
  def_MD D sc_law_shot b_law_shot fun cdv A outer s H E hs hr => by
    have sc := sc_law_shot
    exact js_cons (js_for own_M rfl (ji_seq (je_var (pv 2))) (jg_tup (is := [3, 4]) rfl (pgs_more (pg_name (i := 3) sc.nd rfl (Or.inl rfl)) (pgs_more (pg_name (i := 4) sc.nd rfl (Or.inl rfl)) (pgs_names)))) (js_one (js_expr (je_meth (c := 0) (ok_Memory_put F) (F.cls 53) (F.meth 96) n_put hs (hr.mono (by decide)) pass_M (je_var (pv 1)) (ja_cons (je_var (pv 3)) (ja_cons (je_var (pv 4)) (ja_nil))))))) (js_cons (js_expr (je_meth (c := 3) (ok_Store_begin F) (F.cls 42) (F.meth 97) n_begin hs (hr.mono (by decide)) pass_M (je_var (pv 0)) (ja_cons (je_var (pv 1)) (ja_cons (je_tup (ja_cons (je_str (l := [102])) (ja_cons (je_callB call_lenM mc_len (by rfl) (F.free 5) PySem.boot_len (ja_cons (je_var (pv 2)) (ja_nil))) (ja_nil)))) (ja_nil))))) (js_one (js_ret (je_meth0 (c := 3) (ok_Store_finish F) (F.cls 42) (F.meth 98) n_finish hs (hr.mono (by decide)) pass_M (je_var (pv 0))))))
theorem ok_law_shot (F : W K mg) : FM P w K mg base (tN K) 8 (He.fAd K d_law_shot.at_) 3 [] m_law_shot := by
  obtain ⟨fd, D⟩ := F.c.def_ 46 (d := d_law_shot) rfl
  exact FM.of0 (ps := ["_law_shop", "_law_field", "_law_puts_so"]) D (fn_law_shot F D) rfl (fun _ _ _ _ _ _ us hl => match us, hl with | [_, _, _], _ => rfl)
def b_Store_many : MS := gRet (gFld [1] 1116028500244747518061 (gFld [3] 1953625056058317846203072607 (gVar 0)))
def m_Store_many : MF := gBody 1 b_Store_many
theorem sc_Store_many : FnScope ["self"] ["self"] (defScope s_Store_many) :=
  ⟨rfl, rfl, rfl, by decide +kernel, rfl, by decide +kernel, by decide +kernel⟩
theorem fn_Store_many (F : W K mg) {fd : FuncData} (D : FunD K d_Store_many.name d_Store_many.qual d_Store_many.params d_Store_many.body d_Store_many.scope (d_Store_many.dvs K) (d_Store_many.kws K) (He.fAd K d_Store_many.at_) fd) :
    FnG P w K mg base (L2.CX P w) 1 (He.fAd K d_Store_many.at_) fd ["self"] (spM ⟨K, tN K⟩ 1 m_Store_many) :=
  def_MD D sc_Store_many b_Store_many fun cdv A outer s H E hs hr => by
    have sc := sc_Store_many
    exact js_one (js_ret (je_fld (je_fld (je_var (pv 0)) (fk_Store__tree F) n__tree) (fk_Tree_many F) n_many))
theorem ok_Store_many (F : W K mg) : FM P w K mg base (tN K) 1 (He.fAd K d_Store_many.at_) 1 [] m_Store_many := by
  obtain ⟨fd, D⟩ := F.c.def_ 47 (d := d_Store_many) rfl
  exact FM.of0 (ps := ["self"]) D (fn_Store_many F D) rfl (fun _ _ _ _ _ _ us hl => match us, hl with | [_], _ => rfl)
end
end K57
set_option Elab.async false
set_option linter.all false
set_option maxRecDepth 100000
set_option maxHeartbeats 8000000
namespace K57
open PySem PySem.Spec PyProof.Rows L2 JB MI
section
variable {P : Program} {w : World} {K : PySem.W.Frag} {mg : Str → Option Value} {base : Heap}
def b_Store_page : MS := gSeq (gAsg (gIf (gB (gBin mLtI (gVar 1) (gMeth 3 1116028500244747518061 m_Store_many [] 1 (gVar 0) gNil))) (gMeth 1 1953625037611499005686055024 m_Tree_place [] 3 (gFld [3] 1953625056058317846203072607 (gVar 0)) (gCons (gC (.int 0)) (gCons (gVar 1) (gNil)))) (gC .non)) (tgName 2)) (gRet (gIf (gB (gIsN (gVar 2))) (gTup (gNil)) (gMeth 4 922337630296200970354 m_Disk_read [] 2 (gFld [3] 2069682063868491180489572447 (gVar 0)) (gCons (gVar 2) (gNil)))))
def m_Store_page : MF := gBody 3 b_Store_page
theorem sc_Store_page : FnScope ["self", "number", "place"] ["self", "number"] (defScope s_Store_page) :=
  ⟨rfl, rfl, rfl, by decide +kernel, rfl, by decide +kernel, by decide +kernel⟩
theorem fn_Store_page (F : W K mg) {fd : FuncData} (D : FunD K d_Store_page.name d_Store_page.qual d_Store_page.params d_Store_page.body d_Store_page.scope (d_Store_page.dvs K) (d_Store_page.kws K) (He.fAd K d_Store_page.at_) fd) :
    FnG P w K mg base (L2.CX P w) 5 (He.fAd K d_Store_page.at_) fd ["self", "number"] (spM ⟨K, tN K⟩ 2 m_Store_page) :=
  def_MD D sc_Store_page b_Store_page fun cdv A outer s H E hs hr => by
    have sc := sc_Store_page
    exact js_cons (js_set (i := 2) sc.nd rfl (Or.inl rfl) (je_if (jt_lt (je_var (pv 1)) (je_meth0 (c := 3) (ok_Store_many F) (F.cls 42) (F.meth 99) n_many hs (hr.mono (by decide)) pass_M (je_var (pv 0)))) (je_meth (c := 1) (ok_Tree_place F) (F.cls 33) (F.meth 89) n_place hs (hr.mono (by decide)) pass_M (je_fld (je_var (pv 0)) (fk_Store__tree F) n__tree) (ja_cons (je_int) (ja_cons (je_var (pv 1)) (ja_nil)))) (je_non))) (js_one (js_ret (je_if (jt_isN (je_var (pv 2))) (je_tup (ja_nil)) (je_meth (c := 4) (ok_Disk_read F) (F.cls 3) (F.meth 32) n_read hs (hr.mono (by decide)) pass_M (je_fld (je_var (pv 0)) (fk_Store__disk F) n__disk) (ja_cons (je_var (pv 2)) (ja_nil))))))
theorem ok_Store_page (F : W K mg) : FM P w K mg base (tN K) 5 (He.fAd K d_Store_page.at_) 2 [] m_Store_page := by
  obtain ⟨fd, D⟩ := F.c.def_ 48 (d := d_Store_page) rfl
  exact FM.of0 (ps := ["self", "number"]) D (fn_Store_page F D) rfl (fun _ _ _ _ _ _ us hl => match us, hl with | [_, _], _ => rfl)
def b_Disk_writes : MS := gRet (gFld [4] 9783122146025964529499104918003653804127 (gVar 0))
def m_Disk_writes : MF := gBody 1 b_Disk_writes
theorem sc_Disk_writes : FnScope ["self"] ["self"] (defScope s_Disk_writes) :=
  ⟨rfl, rfl, rfl, by decide +kernel, rfl, by decide +kernel, by decide +kernel⟩
theorem fn_Disk_writes (F : W K mg) {fd : FuncData} (D : FunD K d_Disk_writes.name d_Disk_writes.qual d_Disk_writes.params d_Disk_writes.body d_Disk_writes.scope (d_Disk_writes.dvs K) (d_Disk_writes.kws K) (He.fAd K d_Disk_writes.at_) fd) :
    FnG P w K mg base (L2.CX P w) 1 (He.fAd K d_Disk_writes.at_) fd ["self"] (spM ⟨K, tN K⟩ 1 m_Disk_writes) :=
  def_MD D sc_Disk_writes b_Disk_writes fun cdv A outer s H E hs hr => by
    have sc := sc_Disk_writes
    exact js_one (js_ret (je_fld (je_var (pv 0)) (fk_Disk__writes F) n__writes))
theorem ok_Disk_writes (F : W K mg) : FM P w K mg base (tN K) 1 (He.fAd K d_Disk_writes.at_) 1 [] m_Disk_writes := by
  obtain ⟨fd, D⟩ := F.c.def_ 49 (d := d_Disk_writes) rfl
  exact FM.of0 (ps := ["self"]) D (fn_Disk_writes F D) rfl (fun _ _ _ _ _ _ us hl => match us, hl with | [_], _ => rfl)
def b_Disk_image : MS := gRet (gCB (f1 mTuple) (gCons (gFld [4] 4462132414599151834275831881924703 (gVar 0)) (gNil)))
def m_Disk_image : MF := gBody 1 b_Disk_image
theorem sc_Disk_image : FnScope ["self"] ["self"] (defScope s_Disk_image) :=
  ⟨rfl, rfl, rfl, by decide +kernel, rfl, by decide +kernel, by decide +kernel⟩
theorem fn_Disk_image (F : W K mg) {fd : FuncData} (D : FunD K d_Disk_image.name d_Disk_image.qual d_Disk_image.params d_Disk_image.body d_Disk_image.scope (d_Disk_image.dvs K) (d_Disk_image.kws K) (He.fAd K d_Disk_image.at_) fd) :
    FnG P w K mg base (L2.CX P w) 1 (He.fAd K d_Disk_image.at_) fd ["self"] (spM ⟨K, tN K⟩ 1 m_Disk_image) :=
  def_MD D sc_Disk_image b_Disk_image fun cdv A outer s H E hs hr => by
    have sc := sc_Disk_image
    exact js_one (js_ret (je_callT call_tuple_of mc_tuple (by rfl) (F.free 10) PyProof.Rows.boot_tuple (ja_cons (je_fld (je_var (pv 0)) (fk_Disk__shown F) n__shown) (ja_nil))))
theorem ok_Disk_image (F : W K mg) : FM P w K mg base (tN K) 1 (He.fAd K d_Disk_image.at_) 1 [] m_Disk_image := by
  obtain ⟨fd, D⟩ := F.c.def_ 50 (d := d_Disk_image) rfl
  exact FM.of0 (ps := ["self"]) D (fn_Disk_image F D) rfl (fun _ _ _ _ _ _ us hl => match us, hl with | [_], _ => rfl)
def b_law_small_right : MS := gSeq (gPar 3 2 (gCons (gMake 4 m_Disk___init [] 2 (gCons (gC (.int 12)) (gNil))) (gCons (gMake 0 m_Memory___init [.ktp []] 2 gNil) (gNil)))) (gSeq (gExpr (gCall m_make_store [] 4 (gCons (gVar 3) (gCons (gC (.int 2)) (gCons (gC (.int 12)) (gCons (gTup (gCons (gVar 0) (gNil))) (gNil))))))) (gSeq (gAsg (gMake 3 m_Store___init [] 4 (gCons (gVar 3) (gCons (gC (.int 2)) (gCons (gC (.int 12)) (gNil))))) (tgName 4)) (gSeq (gAsg (gLst (gCons (gCall m_law_shot [] 3 (gCons (gVar 4) (gCons (gVar 2) (gCons (gLst (gCons (gTup (gCons (gC (.int 3)) (gCons (gVar 0) (gNil)))) (gNil))) (gNil))))) (gCons (gSl (gMeth 4 1953625074504987153107255401 m_Disk_image [] 1 (gVar 3) gNil) (gPn) (gPs (gC (.int 4)))) (gCons (gMeth 3 931561019925269053542 m_Store_free [] 1 (gVar 4) gNil) (gNil))))) (tgName 5)) (gSeq (gAsg (gTup (gCons (gTup (gCons (gC (.str [114, 111, 111, 116])) (gCons (gC (.int 0)) (gCons (gC .non) (gCons (gC (.int 0)) (gCons (gC (.int 0)) (gCons (gVar 0) (gNil)))))))) (gCons (gTup (gCons (gC (.str [114, 111, 111, 116])) (gCons (gC (.int 1)) (gCons (gC (.int 2)) (gCons (gC (.int 0)) (gCons (gC (.int 1)) (gCons (gC (.str [102])) (gCons (gC (.int 1)) (gNil))))))))) (gCons (gTup (gCons (gC .non) (gCons (gC .non) (gCons (gC .non) (gCons (gVar 0) (gNil)))))) (gCons (gTup (gNil)) (gNil)))))) (tgName 1)) (gSeq (gAsg (gLst (gCons (gC (.int 1)) (gCons (gVar 1) (gCons (gLrg2 (gC (.int 3)) (gC (.int 12))) (gNil))))) (tgName 1)) (gSeq (gIfS (gNot (gTru (gCall m_law_same [] 2 (gCons (gVar 5) (gCons (gVar 1) (gNil)))))) (gRet (gC (.bl false))) (gNext)) (gSeq (gAsg (gLst (gCons (gCall m_law_shot [] 3 (gCons (gVar 4) (gCons (gVar 2) (gCons (gLst (gCons (gTup (gCons (gC (.int 8)) (gCons (gC (.str [98])) (gNil)))) (gCons (gTup (gCons (gC (.int 15)) (gCons (gVar 0) (gNil)))) (gNil)))) (gNil))))) (gCons (gSl (gMeth 4 1953625074504987153107255401 m_Disk_image [] 1 (gVar 3) gNil) (gPn) (gPs (gC (.int 6)))) (gCons (gMeth 3 931561019925269053542 m_Store_free [] 1 (gVar 4) gNil) (gNil))))) (tgName 5)) (gSeq (gAsg (gLst (gCons (gTup (gCons (gC (.str [114, 111, 111, 116])) (gCons (gC (.int 2)) (gCons (gC (.int 4)) (gCons (gC (.int 1)) (gCons (gC (.int 2)) (gCons (gC (.str [102])) (gCons (gC (.int 2)) (gNil))))))))) (gCons (gTup (gCons (gC (.str [114, 111, 111, 116])) (gCons (gC (.int 1)) (gCons (gC (.int 2)) (gCons (gC (.int 0)) (gCons (gC (.int 1)) (gCons (gC (.str [102])) (gCons (gC (.int 1)) (gNil))))))))) (gCons (gTup (gCons (gC .non) (gCons (gC .non) (gCons (gC .non) (gCons (gVar 0) (gNil)))))) (gNil))))) (tgName 1)) (gSeq (gAsg (gLst (gCons (gC (.int 2)) (gCons (gCB (f1 mTuple) (gCons (gBin mAdd (gVar 1) (gLst (gCons (gTup (gCons (gC (.str [98])) (gCons (gC .non) (gCons (gC .non) (gCons (gC .non) (gCons (gC .non) (gCons (gC .non) (gCons (gC .non) (gCons (gVar 0) (gNil)))))))))) (gCons (gTup (gCons (gC (.int 2)) (gCons (gC (.int 3)) (gNil)))) (gCons (gTup (gNil)) (gNil)))))) (gNil))) (gCons (gLrg2 (gC (.int 5)) (gC (.int 12))) (gNil))))) (tgName 1)) (gSeq (gIfS (gNot (gTru (gCall m_law_same [] 2 (gCons (gVar 5) (gCons (gVar 1) (gNil)))))) (gRet (gC (.bl false))) (gNext)) (gSeq (gAsg (gLst (gCons (gCall m_law_shot [] 3 (gCons (gVar 4) (gCons (gVar 2) (gCons (gLst (gCons (gTup (gCons (gC (.int 8)) (gCons (gC .non) (gNil)))) (gCons (gTup (gCons (gC (.int 15)) (gCons (gC .non) (gNil)))) (gNil)))) (gNil))))) (gCons (gSl (gMeth 4 1953625074504987153107255401 m_Disk_image [] 1 (gVar 3) gNil) (gPn) (gPs (gC (.int 6)))) (gCons (gMeth 3 931561019925269053542 m_Store_free [] 1 (gVar 4) gNil) (gNil))))) (tgName 5)) (gSeq (gAsg (gLst (gCons (gC (.int 3)) (gCons (gBin mAdd (gBin mAdd (gSl (gBin mIx (gVar 1) (gC (.int 1))) (gPn) (gPs (gC (.int 1)))) (gTup (gCons (gTup (gCons (gC (.str [114, 111, 111, 116])) (gCons (gC (.int 3)) (gCons (gC (.int 2)) (gCons (gC (.int 0)) (gCons (gC (.int 1)) (gCons (gC (.str [102])) (gCons (gC (.int 2)) (gNil))))))))) (gNil)))) (gSl (gBin mIx (gVar 1) (gC (.int 1))) (gPs (gC (.int 2))) (gPn))) (gCons (gLrg2 (gC (.int 3)) (gC (.int 12))) (gNil))))) (tgName 1)) (gSeq (gIfS (gNot (gTru (gCall m_law_same [] 2 (gCons (gVar 5) (gCons (gVar 1) (gNil)))))) (gRet (gC (.bl false))) (gNext)) (gSeq (gAsg (gLst (gCons (gCall m_law_shot [] 3 (gCons (gVar 4) (gCons (gVar 2) (gCons (gLst (gCons (gTup (gCons (gC (.int 3)) (gCons (gC .non) (gNil)))) (gNil))) (gNil))))) (gCons (gMeth 4 922337630296200970354 m_Disk_read [] 2 (gVar 3) (gCons (gC (.int 0)) (gNil))) (gCons (gMeth 3 931561019925269053542 m_Store_free [] 1 (gVar 4) gNil) (gCons (gMeth 3 931561028721326424176 m_Store_page [] 2 (gVar 4) (gCons (gC (.int 0)) (gNil))) (gCons (gMeth 3 1116028500244747518061 m_Store_many [] 1 (gVar 4) gNil) (gCons (gMeth 4 4664956162465078606366684397699191 m_Disk_writes [] 1 (gVar 3) gNil) (gNil)))))))) (tgName 5)) (gRet (gCall m_law_same [] 2 (gCons (gVar 5) (gCons (gLst (gCons (gC (.int 4)) (gCons (gTup (gCons (gC (.str [114, 111, 111, 116])) (gCons (gC (.int 4)) (gCons (gC .non) (gCons (gC (.int 0)) (gCons (gC (.int 0)) (gCons (gC (.str [102])) (gCons (gC (.int 1)) (gNil))))))))) (gCons (gLrg2 (gC (.int 2)) (gC (.int 12))) (gCons (gTup (gNil)) (gCons (gC (.int 0)) (gCons (gC (.int 8)) (gNil)))))))) (gNil)))))))))))))))))))
def m_law_small_right : MF := gBody 6 b_law_small_right
theorem sc_law_small_right : FnScope ["_law_own", "_law_due", "_law_field", "_law_plate", "_law_shop", "_law_told"] ["_law_own"] (defScope s_law_small_right) :=
  ⟨rfl, rfl, rfl, by decide +kernel, rfl, by decide +kernel, by decide +kernel⟩
theorem fn_law_small_right (F : W K mg) {fd : FuncData} (D : FunD K d_law_small_right.name d_law_small_right.qual d_law_small_right.params d_law_small_right.body d_law_small_right.scope (d_law_small_right.dvs K) (d_law_small_right.kws K) (He.fAd K d_law_small_right.at_) fd) :
    FnG P w K mg base (L2.CX P w) 9 (He.fAd K d_law_small_right.at_) fd ["_law_own"] (spM ⟨K, tN K⟩ 1 m_law_small_right) :=
  def_MD D sc_law_small_right b_law_small_right fun cdv A outer s H E hs hr => by
    have sc := sc_law_small_right
    exact js_cons (js_par (i := 3) (j := 2) rfl sc.nd rfl rfl (by decide) rfl rfl (ja_cons (je_make (c := 4) (ok_Disk___init F) (F.mkr 100) hs (hr.mono (by decide)) pass_M (by rfl) (F.glo 7) (ja_cons (je_int) (ja_nil))) (ja_cons (je_make0 (c := 0) (ok_Memory___init_d1 F) (F.mkr 101) hs (hr.mono (by decide)) pass_M (by rfl) (F.glo 61)) (ja_nil)))) (js_cons (js_expr (je_call (ok_make_store F) hs (hr.mono (by decide)) pass_M (by rfl) (F.glo 102) (ja_cons (je_var (pv 3)) (ja_cons (je_int) (ja_cons (je_int) (ja_cons (je_tup (ja_cons (je_var (pv 0)) (ja_nil))) (ja_nil))))))) (js_cons (js_set (i := 4) sc.nd rfl (Or.inl rfl) (je_make (c := 3) (ok_Store___init F) (F.mkr 103) hs (hr.mono (by decide)) pass_M (by rfl) (F.glo 51) (ja_cons (je_var (pv 3)) (ja_cons (je_int) (ja_cons (je_int) (ja_nil)))))) (js_cons (js_set (i := 5) sc.nd rfl (Or.inl rfl) (je_lst (ja_cons (je_call (ok_law_shot F) hs (hr.mono (by decide)) pass_M (by rfl) (F.glo 104) (ja_cons (je_var (pv 4)) (ja_cons (je_var (pv 2)) (ja_cons (je_lst (ja_cons (je_tup (ja_cons (je_int) (ja_cons (je_var (pv 0)) (ja_nil)))) (ja_nil))) (ja_nil))))) (ja_cons (je_slice (je_meth0 (c := 4) (ok_Disk_image F) (F.cls 3) (F.meth 105) n_image hs (hr.mono (by decide)) pass_M (je_var (pv 3))) (jp_none) (jp_some (je_int))) (ja_cons (je_meth0 (c := 3) (ok_Store_free F) (F.cls 42) (F.meth 82) n_free hs (hr.mono (by decide)) pass_M (je_var (pv 4))) (ja_nil)))))) (js_cons (js_set (i := 1) sc.nd rfl (Or.inl rfl) (je_tup (ja_cons (je_tup (ja_cons (je_str (l := [114, 111, 111, 116])) (ja_cons (je_int) (ja_cons (je_non) (ja_cons (je_int) (ja_cons (je_int) (ja_cons (je_var (pv 0)) (ja_nil)))))))) (ja_cons (je_tup (ja_cons (je_str (l := [114, 111, 111, 116])) (ja_cons (je_int) (ja_cons (je_int) (ja_cons (je_int) (ja_cons (je_int) (ja_cons (je_str (l := [102])) (ja_cons (je_int) (ja_nil))))))))) (ja_cons (je_tup (ja_cons (je_non) (ja_cons (je_non) (ja_cons (je_non) (ja_cons (je_var (pv 0)) (ja_nil)))))) (ja_cons (je_tup (ja_nil)) (ja_nil))))))) (js_cons (js_set (i := 1) sc.nd rfl (Or.inl rfl) (je_lst (ja_cons (je_int) (ja_cons (je_var (pv 1)) (ja_cons (je_listRg2 rfl (by rfl) (F.free 11) (by rfl) (F.free 30) (je_int) (je_int)) (ja_nil)))))) (js_cons (js_if (jt_not (jt_tru (je_call (ok_law_same F) hs (hr.mono (by decide)) pass_M (by rfl) (F.glo 106) (ja_cons (je_var (pv 5)) (ja_cons (je_var (pv 1)) (ja_nil)))))) (js_one (js_ret (je_bl))) (js_nil)) (js_cons (js_set (i := 5) sc.nd rfl (Or.inl rfl) (je_lst (ja_cons (je_call (ok_law_shot F) hs (hr.mono (by decide)) pass_M (by rfl) (F.glo 104) (ja_cons (je_var (pv 4)) (ja_cons (je_var (pv 2)) (ja_cons (je_lst (ja_cons (je_tup (ja_cons (je_int) (ja_cons (je_str (l := [98])) (ja_nil)))) (ja_cons (je_tup (ja_cons (je_int) (ja_cons (je_var (pv 0)) (ja_nil)))) (ja_nil)))) (ja_nil))))) (ja_cons (je_slice (je_meth0 (c := 4) (ok_Disk_image F) (F.cls 3) (F.meth 105) n_image hs (hr.mono (by decide)) pass_M (je_var (pv 3))) (jp_none) (jp_some (je_int))) (ja_cons (je_meth0 (c := 3) (ok_Store_free F) (F.cls 42) (F.meth 82) n_free hs (hr.mono (by decide)) pass_M (je_var (pv 4))) (ja_nil)))))) (js_cons (js_set (i := 1) sc.nd rfl (Or.inl rfl) (je_lst (ja_cons (je_tup (ja_cons (je_str (l := [114, 111, 111, 116])) (ja_cons (je_int) (ja_cons (je_int) (ja_cons (je_int) (ja_cons (je_int) (ja_cons (je_str (l := [102])) (ja_cons (je_int) (ja_nil))))))))) (ja_cons (je_tup (ja_cons (je_str (l := [114, 111, 111, 116])) (ja_cons (je_int) (ja_cons (je_int) (ja_cons (je_int) (ja_cons (je_int) (ja_cons (je_str (l := [102])) (ja_cons (je_int) (ja_nil))))))))) (ja_cons (je_tup (ja_cons (je_non) (ja_cons (je_non) (ja_cons (je_non) (ja_cons (je_var (pv 0)) (ja_nil)))))) (ja_nil)))))) (js_cons (js_set (i := 1) sc.nd rfl (Or.inl rfl) (je_lst (ja_cons (je_int) (ja_cons (je_callT call_tuple_of mc_tuple (by rfl) (F.free 10) PyProof.Rows.boot_tuple (ja_cons (je_add (je_var (pv 1)) (je_lst (ja_cons (je_tup (ja_cons (je_str (l := [98])) (ja_cons (je_non) (ja_cons (je_non) (ja_cons (je_non) (ja_cons (je_non) (ja_cons (je_non) (ja_cons (je_non) (ja_cons (je_var (pv 0)) (ja_nil)))))))))) (ja_cons (je_tup (ja_cons (je_int) (ja_cons (je_int) (ja_nil)))) (ja_cons (je_tup (ja_nil)) (ja_nil)))))) (ja_nil))) (ja_cons (je_listRg2 rfl (by rfl) (F.free 11) (by rfl) (F.free 30) (je_int) (je_int)) (ja_nil)))))) (js_cons (js_if (jt_not (jt_tru (je_call (ok_law_same F) hs (hr.mono (by decide)) pass_M (by rfl) (F.glo 106) (ja_cons (je_var (pv 5)) (ja_cons (je_var (pv 1)) (ja_nil)))))) (js_one (js_ret (je_bl))) (js_nil)) (js_cons (js_set (i := 5) sc.nd rfl (Or.inl rfl) (je_lst (ja_cons (je_call (ok_law_shot F) hs (hr.mono (by decide)) pass_M (by rfl) (F.glo 104) (ja_cons (je_var (pv 4)) (ja_cons (je_var (pv 2)) (ja_cons (je_lst (ja_cons (je_tup (ja_cons (je_int) (ja_cons (je_non) (ja_nil)))) (ja_cons (je_tup (ja_cons (je_int) (ja_cons (je_non) (ja_nil)))) (ja_nil)))) (ja_nil))))) (ja_cons (je_slice (je_meth0 (c := 4) (ok_Disk_image F) (F.cls 3) (F.meth 105) n_image hs (hr.mono (by decide)) pass_M (je_var (pv 3))) (jp_none) (jp_some (je_int))) (ja_cons (je_meth0 (c := 3) (ok_Store_free F) (F.cls 42) (F.meth 82) n_free hs (hr.mono (by decide)) pass_M (je_var (pv 4))) (ja_nil)))))) (js_cons (js_set (i := 1) sc.nd rfl (Or.inl rfl) (je_lst (ja_cons (je_int) (ja_cons (je_add (je_add (je_slice (je_ix (hu_of hr) (je_var (pv 1)) (je_int)) (jp_none) (jp_some (je_int))) (je_tup (ja_cons (je_tup (ja_cons (je_str (l := [114, 111, 111, 116])) (ja_cons (je_int) (ja_cons (je_int) (ja_cons (je_int) (ja_cons (je_int) (ja_cons (je_str (l := [102])) (ja_cons (je_int) (ja_nil))))))))) (ja_nil)))) (je_slice (je_ix (hu_of hr) (je_var (pv 1)) (je_int)) (jp_some (je_int)) (jp_none))) (ja_cons (je_listRg2 rfl (by rfl) (F.free 11) (by rfl) (F.free 30) (je_int) (je_int)) (ja_nil)))))) (js_cons (js_if (jt_not (jt_tru (je_call (ok_law_same F) hs (hr.mono (by decide)) pass_M (by rfl) (F.glo 106) (ja_cons (je_var (pv 5)) (ja_cons (je_var (pv 1)) (ja_nil)))))) (js_one (js_ret (je_bl))) (js_nil)) (js_cons (js_set (i := 5) sc.nd rfl (Or.inl rfl) (je_lst (ja_cons (je_call (ok_law_shot F) hs (hr.mono (by decide)) pass_M (by rfl) (F.glo 104) (ja_cons (je_var (pv 4)) (ja_cons (je_var (pv 2)) (ja_cons (je_lst (ja_cons (je_tup (ja_cons (je_int) (ja_cons (je_non) (ja_nil)))) (ja_nil))) (ja_nil))))) (ja_cons (je_meth (c := 4) (ok_Disk_read F) (F.cls 3) (F.meth 32) n_read hs (hr.mono (by decide)) pass_M (je_var (pv 3)) (ja_cons (je_int) (ja_nil))) (ja_cons (je_meth0 (c := 3) (ok_Store_free F) (F.cls 42) (F.meth 82) n_free hs (hr.mono (by decide)) pass_M (je_var (pv 4))) (ja_cons (je_meth (c := 3) (ok_Store_page F) (F.cls 42) (F.meth 107) n_page hs (hr.mono (by decide)) pass_M (je_var (pv 4)) (ja_cons (je_int) (ja_nil))) (ja_cons (je_meth0 (c := 3) (ok_Store_many F) (F.cls 42) (F.meth 99) n_many hs (hr.mono (by decide)) pass_M (je_var (pv 4))) (ja_cons (je_meth0 (c := 4) (ok_Disk_writes F) (F.cls 3) (F.meth 108) n_writes hs (hr.mono (by decide)) pass_M (je_var (pv 3))) (ja_nil))))))))) (js_one (js_ret (je_call (ok_law_same F) hs (hr.mono (by decide)) pass_M (by rfl) (F.glo 106) (ja_cons (je_var (pv 5)) (ja_cons (je_lst (ja_cons (je_int) (ja_cons (je_tup (ja_cons (je_str (l := [114, 111, 111, 116])) (ja_cons (je_int) (ja_cons (je_non) (ja_cons (je_int) (ja_cons (je_int) (ja_cons (je_str (l := [102])) (ja_cons (je_int) (ja_nil))))))))) (ja_cons (je_listRg2 rfl (by rfl) (F.free 11) (by rfl) (F.free 30) (je_int) (je_int)) (ja_cons (je_tup (ja_nil)) (ja_cons (je_int) (ja_cons (je_int) (ja_nil)))))))) (ja_nil))))))))))))))))))))
theorem ok_law_small_right (F : W K mg) : FM P w K mg base (tN K) 9 (He.fAd K d_law_small_right.at_) 1 [] m_law_small_right := by
  obtain ⟨fd, D⟩ := F.c.def_ 51 (d := d_law_small_right) rfl
  exact FM.of0 (ps := ["_law_own"]) D (fn_law_small_right F D) rfl (fun _ _ _ _ _ _ us hl => match us, hl with | [_], _ => rfl)
abbrev sl_law_wide_right : List Str := ["_law_own", "_law_due", "_law_field", "_law_leaf", "_law_plate", "_law_shop", "_law_told", "_law_k"]
def b_law_wide_right : MS := gSeq (gPar 4 2 (gCons (gMake 4 m_Disk___init [] 2 (gCons (gC (.int 30)) (gNil))) (gCons (gMake 0 m_Memory___init [.ktp []] 2 gNil) (gNil)))) (gSeq (gExpr (gCall m_make_store [] 4 (gCons (gVar 4) (gCons (gC (.int 4)) (gCons (gC (.int 30)) (gCons (gTup (gNil)) (gNil))))))) (gSeq (gAsg (gMake 3 m_Store___init [] 4 (gCons (gVar 4) (gCons (gC (.int 4)) (gCons (gC (.int 30)) (gNil))))) (tgName 5)) (gSeq (gAsg (gLst (gCons (gCall m_law_shot [] 3 (gCons (gVar 5) (gCons (gVar 2) (gCons (gLst (gCons (gTup (gCons (gC (.int 0)) (gCons (gC (.int 1)) (gNil)))) (gCons (gTup (gCons (gC (.int 8)) (gCons (gC (.int 2)) (gNil)))) (gCons (gTup (gCons (gC (.int 24)) (gCons (gVar 0) (gNil)))) (gCons (gTup (gCons (gC (.int 32)) (gCons (gC (.str [120])) (gNil)))) (gNil)))))) (gNil))))) (gCons (gSl (gMeth 4 1953625074504987153107255401 m_Disk_image [] 1 (gVar 4) gNil) (gPs (gC (.int 4))) (gPs (gC (.int 12)))) (gCons (gMeth 4 922337630296200970354 m_Disk_read [] 2 (gVar 4) (gCons (gC (.int 1)) (gNil))) (gNil))))) (tgName 6)) (gSeq (gAsg (gLst (gCons (gC (.int 1)) (gCons (gTup (gCons (gTup (gCons (gC (.int 1)) (gNil))) (gCons (gTup (gCons (gC (.int 2)) (gNil))) (gCons (gTup (gCons (gVar 0) (gNil))) (gCons (gTup (gCons (gC (.str [120])) (gNil))) (gCons (gTup (gCons (gC (.int 4)) (gCons (gC (.int 5)) (gCons (gC .non) (gCons (gC (.int 6)) (gNil)))))) (gCons (gTup (gCons (gC (.int 7)) (gNil))) (gCons (gTup (gCons (gC (.int 8)) (gCons (gC (.int 9)) (gNil)))) (gCons (gTup (gNil)) (gNil)))))))))) (gCons (gTup (gCons (gC (.str [114, 111, 111, 116])) (gCons (gC (.int 1)) (gCons (gC (.int 10)) (gCons (gC (.int 2)) (gCons (gC (.int 5)) (gCons (gC (.str [102])) (gCons (gC (.int 4)) (gNil))))))))) (gNil))))) (tgName 1)) (gSeq (gIfS (gNot (gTru (gCall m_law_same [] 2 (gCons (gVar 6) (gCons (gVar 1) (gNil)))))) (gRet (gC (.bl false))) (gNext)) (gSeq (gAsg (gLst (gCons (gCall m_law_shot [] 3 (gCons (gVar 5) (gCons (gVar 2) (gCons (gLst (gCons (gTup (gCons (gC (.int 9)) (gCons (gVar 0) (gNil)))) (gNil))) (gNil))))) (gCons (gSl (gMeth 4 1953625074504987153107255401 m_Disk_image [] 1 (gVar 4) gNil) (gPs (gC (.int 4))) (gPs (gC (.int 15)))) (gCons (gMeth 4 922337630296200970354 m_Disk_read [] 2 (gVar 4) (gCons (gC (.int 0)) (gNil))) (gCons (gSl (gMeth 3 931561019925269053542 m_Store_free [] 1 (gVar 5) gNil) (gPn) (gPs (gC (.int 3)))) (gNil)))))) (tgName 6)) (gSeq (gAsg (gTup (gCons (gTup (gCons (gC (.int 1)) (gNil))) (gCons (gTup (gCons (gC (.int 2)) (gNil))) (gCons (gTup (gCons (gVar 0) (gNil))) (gCons (gTup (gCons (gC (.str [120])) (gNil))) (gCons (gTup (gCons (gC (.int 4)) (gCons (gC (.int 5)) (gCons (gC .non) (gCons (gC (.int 6)) (gNil)))))) (gCons (gTup (gCons (gC (.int 7)) (gNil))) (gCons (gTup (gCons (gC (.int 8)) (gCons (gC (.int 9)) (gNil)))) (gCons (gTup (gCons (gC (.int 2)) (gCons (gVar 0) (gNil)))) (gCons (gTup (gCons (gC (.int 4)) (gCons (gC (.int 11)) (gCons (gC .non) (gCons (gC (.int 6)) (gNil)))))) (gCons (gTup (gCons (gC (.int 12)) (gCons (gC (.int 9)) (gNil)))) (gCons (gTup (gNil)) (gNil))))))))))))) (tgName 1)) (gSeq (gIfS (gNot (gTru (gCall m_law_same [] 2 (gCons (gVar 6) (gCons (gLst (gCons (gC (.int 2)) (gCons (gVar 1) (gCons (gTup (gCons (gC (.str [114, 111, 111, 116])) (gCons (gC (.int 2)) (gCons (gC (.int 13)) (gCons (gC (.int 2)) (gCons (gC (.int 5)) (gCons (gC (.str [102])) (gCons (gC (.int 1)) (gNil))))))))) (gCons (gLst (gCons (gC (.int 5)) (gCons (gC (.int 8)) (gCons (gC (.int 10)) (gNil))))) (gNil)))))) (gNil)))))) (gRet (gC (.bl false))) (gNext)) (gSeq (gAsg (gLst (gCons (gCall m_law_shot [] 3 (gCons (gVar 5) (gCons (gVar 2) (gCons (gLst (gCons (gTup (gCons (gC (.int 32)) (gCons (gC .non) (gNil)))) (gNil))) (gNil))))) (gCons (gMeth 4 922337630296200970354 m_Disk_read [] 2 (gVar 4) (gCons (gC (.int 1)) (gNil))) (gCons (gMeth 4 4664956162465078606366684397699191 m_Disk_writes [] 1 (gVar 4) gNil) (gCons (gSl (gMeth 3 931561019925269053542 m_Store_free [] 1 (gVar 5) gNil) (gPn) (gPs (gC (.int 6)))) (gNil)))))) (tgName 6)) (gSeq (gIfS (gNot (gTru (gCall m_law_same [] 2 (gCons (gVar 6) (gCons (gLst (gCons (gC (.int 3)) (gCons (gTup (gCons (gC (.str [114, 111, 111, 116])) (gCons (gC (.int 3)) (gCons (gC (.int 12)) (gCons (gC (.int 1)) (gCons (gC (.int 4)) (gCons (gC (.str [102])) (gCons (gC (.int 1)) (gNil))))))))) (gCons (gC (.int 14)) (gCons (gLst (gCons (gC (.int 5)) (gCons (gC (.int 7)) (gCons (gC (.int 8)) (gCons (gC (.int 9)) (gCons (gC (.int 10)) (gCons (gC (.int 13)) (gNil)))))))) (gNil)))))) (gNil)))))) (gRet (gC (.bl false))) (gNext)) (gSeq (gAsg (gLst (gCons (gCall m_law_shot [] 3 (gCons (gVar 5) (gCons (gVar 2) (gCons (gLst (gCons (gTup (gCons (gC (.int 0)) (gCons (gC .non) (gNil)))) (gCons (gTup (gCons (gC (.int 8)) (gCons (gC .non) (gNil)))) (gCons (gTup (gCons (gC (.int 9)) (gCons (gC .non) (gNil)))) (gCons (gTup (gCons (gC (.int 24)) (gCons (gC .non) (gNil)))) (gCons (gTup (gCons (gC (.int 39)) (gCons (gVar 0) (gNil)))) (gNil))))))) (gNil))))) (gCons (gMeth 4 922337630296200970354 m_Disk_read [] 2 (gVar 4) (gCons (gC (.int 0)) (gNil))) (gNil)))) (tgName 6)) (gSeq (gAsg (gBin mAdd (gVar 6) (gLst (gCons (gMeth 4 922337630296200970354 m_Disk_read [] 2 (gVar 4) (gCons (gC (.int 5)) (gNil))) (gCons (gMeth 4 922337630296200970354 m_Disk_read [] 2 (gVar 4) (gCons (gC (.int 7)) (gNil))) (gCons (gMeth 4 922337630296200970354 m_Disk_read [] 2 (gVar 4) (gCons (gC (.int 8)) (gNil))) (gCons (gSl (gMeth 3 931561019925269053542 m_Store_free [] 1 (gVar 5) gNil) (gPn) (gPs (gC (.int 4)))) (gCons (gLc (gRng1 (gC (.int 5))) (.one 7) (gYes) (gMeth 3 931561028721326424176 m_Store_page [] 2 (gVar 5) (gCons (gVar 7) (gNil))) [7]) (gNil)))))))) (tgName 6)) (gSeq (gAsg (gBin mAdd (gBin mMulA (gTup (gCons (gC .non) (gNil))) (gC (.int 7))) (gTup (gCons (gVar 0) (gNil)))) (tgName 3)) (gSeq (gAsg (gLst (gCons (gC (.int 4)) (gCons (gTup (gCons (gC (.str [114, 111, 111, 116])) (gCons (gC (.int 4)) (gCons (gC (.int 8)) (gCons (gC (.int 2)) (gCons (gC (.int 5)) (gCons (gC (.str [102])) (gCons (gC (.int 5)) (gNil))))))))) (gCons (gVar 3) (gCons (gTup (gCons (gC (.int 5)) (gNil))) (gCons (gTup (gCons (gC .non) (gCons (gC (.int 7)) (gNil)))) (gCons (gLst (gCons (gC (.int 4)) (gCons (gC (.int 6)) (gCons (gC (.int 9)) (gCons (gC (.int 10)) (gNil)))))) (gCons (gLst (gCons (gTup (gNil)) (gCons (gTup (gNil)) (gCons (gTup (gNil)) (gCons (gTup (gNil)) (gCons (gVar 3) (gNil))))))) (gNil))))))))) (tgName 1)) (gRet (gCall m_law_same [] 2 (gCons (gVar 6) (gCons (gVar 1) (gNil)))))))))))))))))))
def m_law_wide_right : MF := gBody 8 b_law_wide_right
theorem sc_law_wide_right : FnScope ["_law_own", "_law_due", "_law_field", "_law_leaf", "_law_plate", "_law_shop", "_law_told", "_law_k"] ["_law_own"] (defScope s_law_wide_right) :=
  ⟨rfl, rfl, rfl, by decide +kernel, rfl, by decide +kernel, by decide +kernel⟩
theorem fn_law_wide_right (F : W K mg) {fd : FuncData} (D : FunD K d_law_wide_right.name d_law_wide_right.qual d_law_wide_right.params d_law_wide_right.body d_law_wide_right.scope (d_law_wide_right.dvs K) (d_law_wide_right.kws K) (He.fAd K d_law_wide_right.at_) fd) :
    FnG P w K mg base (L2.CX P w) 9 (He.fAd K d_law_wide_right.at_) fd ["_law_own"] (spM ⟨K, tN K⟩ 1 m_law_wide_right) :=
  def_MD D sc_law_wide_right b_law_wide_right fun cdv A outer s H E hs hr => by
    have sc := sc_law_wide_right
    exact js_cons (js_par (i := 4) (j := 2) rfl sc.nd rfl rfl (by decide) rfl rfl (ja_cons (je_make (c := 4) (ok_Disk___init F) (F.mkr 100) hs (hr.mono (by decide)) pass_M (by rfl) (F.glo 7) (ja_cons (je_int) (ja_nil))) (ja_cons (je_make0 (c := 0) (ok_Memory___init_d1 F) (F.mkr 101) hs (hr.mono (by decide)) pass_M (by rfl) (F.glo 61)) (ja_nil)))) (js_cons (js_expr (je_call (ok_make_store F) hs (hr.mono (by decide)) pass_M (by rfl) (F.glo 102) (ja_cons (je_var (pv 4)) (ja_cons (je_int) (ja_cons (je_int) (ja_cons (je_tup (ja_nil)) (ja_nil))))))) (js_cons (js_set (i := 5) sc.nd rfl (Or.inr rfl) (je_make (c := 3) (ok_Store___init F) (F.mkr 103) hs (hr.mono (by decide)) pass_M (by rfl) (F.glo 51) (ja_cons (je_var (pv 4)) (ja_cons (je_int) (ja_cons (je_int) (ja_nil)))))) (js_cons (js_set (i := 6) sc.nd rfl (Or.inl rfl) (je_lst (ja_cons (je_call (ok_law_shot F) hs (hr.mono (by decide)) pass_M (by rfl) (F.glo 104) (ja_cons (je_var (pv 5)) (ja_cons (je_var (pv 2)) (ja_cons (je_lst (ja_cons (je_tup (ja_cons (je_int) (ja_cons (je_int) (ja_nil)))) (ja_cons (je_tup (ja_cons (je_int) (ja_cons (je_int) (ja_nil)))) (ja_cons (je_tup (ja_cons (je_int) (ja_cons (je_var (pv 0)) (ja_nil)))) (ja_cons (je_tup (ja_cons (je_int) (ja_cons (je_str (l := [120])) (ja_nil)))) (ja_nil)))))) (ja_nil))))) (ja_cons (je_slice (je_meth0 (c := 4) (ok_Disk_image F) (F.cls 3) (F.meth 105) n_image hs (hr.mono (by decide)) pass_M (je_var (pv 4))) (jp_some (je_int)) (jp_some (je_int))) (ja_cons (je_meth (c := 4) (ok_Disk_read F) (F.cls 3) (F.meth 32) n_read hs (hr.mono (by decide)) pass_M (je_var (pv 4)) (ja_cons (je_int) (ja_nil))) (ja_nil)))))) (js_cons (js_set (i := 1) sc.nd rfl (Or.inl rfl) (je_lst (ja_cons (je_int) (ja_cons (je_tup (ja_cons (je_tup (ja_cons (je_int) (ja_nil))) (ja_cons (je_tup (ja_cons (je_int) (ja_nil))) (ja_cons (je_tup (ja_cons (je_var (pv 0)) (ja_nil))) (ja_cons (je_tup (ja_cons (je_str (l := [120])) (ja_nil))) (ja_cons (je_tup (ja_cons (je_int) (ja_cons (je_int) (ja_cons (je_non) (ja_cons (je_int) (ja_nil)))))) (ja_cons (je_tup (ja_cons (je_int) (ja_nil))) (ja_cons (je_tup (ja_cons (je_int) (ja_cons (je_int) (ja_nil)))) (ja_cons (je_tup (ja_nil)) (ja_nil)))))))))) (ja_cons (je_tup (ja_cons (je_str (l := [114, 111, 111, 116])) (ja_cons (je_int) (ja_cons (je_int) (ja_cons (je_int) (ja_cons (je_int) (ja_cons (je_str (l := [102])) (ja_cons (je_int) (ja_nil))))))))) (ja_nil)))))) (js_cons (js_if (jt_not (jt_tru (je_call (ok_law_same F) hs (hr.mono (by decide)) pass_M (by rfl) (F.glo 106) (ja_cons (je_var (pv 6)) (ja_cons (je_var (pv 1)) (ja_nil)))))) (js_one (js_ret (je_bl))) (js_nil)) (js_cons (js_set (i := 6) sc.nd rfl (Or.inl rfl) (je_lst (ja_cons (je_call (ok_law_shot F) hs (hr.mono (by decide)) pass_M (by rfl) (F.glo 104) (ja_cons (je_var (pv 5)) (ja_cons (je_var (pv 2)) (ja_cons (je_lst (ja_cons (je_tup (ja_cons (je_int) (ja_cons (je_var (pv 0)) (ja_nil)))) (ja_nil))) (ja_nil))))) (ja_cons (je_slice (je_meth0 (c := 4) (ok_Disk_image F) (F.cls 3) (F.meth 105) n_image hs (hr.mono (by decide)) pass_M (je_var (pv 4))) (jp_some (je_int)) (jp_some (je_int))) (ja_cons (je_meth (c := 4) (ok_Disk_read F) (F.cls 3) (F.meth 32) n_read hs (hr.mono (by decide)) pass_M (je_var (pv 4)) (ja_cons (je_int) (ja_nil))) (ja_cons (je_slice (je_meth0 (c := 3) (ok_Store_free F) (F.cls 42) (F.meth 82) n_free hs (hr.mono (by decide)) pass_M (je_var (pv 5))) (jp_none) (jp_some (je_int))) (ja_nil))))))) (js_cons (js_set (i := 1) sc.nd rfl (Or.inl rfl) (je_tup (ja_cons (je_tup (ja_cons (je_int) (ja_nil))) (ja_cons (je_tup (ja_cons (je_int) (ja_nil))) (ja_cons (je_tup (ja_cons (je_var (pv 0)) (ja_nil))) (ja_cons (je_tup (ja_cons (je_str (l := [120])) (ja_nil))) (ja_cons (je_tup (ja_cons (je_int) (ja_cons (je_int) (ja_cons (je_non) (ja_cons (je_int) (ja_nil)))))) (ja_cons (je_tup (ja_cons (je_int) (ja_nil))) (ja_cons (je_tup (ja_cons (je_int) (ja_cons (je_int) (ja_nil)))) (ja_cons (je_tup (ja_cons (je_int) (ja_cons (je_var (pv 0)) (ja_nil)))) (ja_cons (je_tup (ja_cons (je_int) (ja_cons (je_int) (ja_cons (je_non) (ja_cons (je_int) (ja_nil)))))) (ja_cons (je_tup (ja_cons (je_int) (ja_cons (je_int) (ja_nil)))) (ja_cons (je_tup (ja_nil)) (ja_nil)))))))))))))) (js_cons (js_if (jt_not (jt_tru (je_call (ok_law_same F) hs (hr.mono (by decide)) pass_M (by rfl) (F.glo 106) (ja_cons (je_var (pv 6)) (ja_cons (je_lst (ja_cons (je_int) (ja_cons (je_var (pv 1)) (ja_cons (je_tup (ja_cons (je_str (l := [114, 111, 111, 116])) (ja_cons (je_int) (ja_cons (je_int) (ja_cons (je_int) (ja_cons (je_int) (ja_cons (je_str (l := [102])) (ja_cons (je_int) (ja_nil))))))))) (ja_cons (je_lst (ja_cons (je_int) (ja_cons (je_int) (ja_cons (je_int) (ja_nil))))) (ja_nil)))))) (ja_nil)))))) (js_one (js_ret (je_bl))) (js_nil)) (js_cons (js_set (i := 6) sc.nd rfl (Or.inl rfl) (je_lst (ja_cons (je_call (ok_law_shot F) hs (hr.mono (by decide)) pass_M (by rfl) (F.glo 104) (ja_cons (je_var (pv 5)) (ja_cons (je_var (pv 2)) (ja_cons (je_lst (ja_cons (je_tup (ja_cons (je_int) (ja_cons (je_non) (ja_nil)))) (ja_nil))) (ja_nil))))) (ja_cons (je_meth (c := 4) (ok_Disk_read F) (F.cls 3) (F.meth 32) n_read hs (hr.mono (by decide)) pass_M (je_var (pv 4)) (ja_cons (je_int) (ja_nil))) (ja_cons (je_meth0 (c := 4) (ok_Disk_writes F) (F.cls 3) (F.meth 108) n_writes hs (hr.mono (by decide)) pass_M (je_var (pv 4))) (ja_cons (je_slice (je_meth0 (c := 3) (ok_Store_free F) (F.cls 42) (F.meth 82) n_free hs (hr.mono (by decide)) pass_M (je_var (pv 5))) (jp_none) (jp_some (je_int))) (ja_nil))))))) (js_cons (js_if (jt_not (jt_tru (je_call (ok_law_same F) hs (hr.mono (by decide)) pass_M (by rfl) (F.glo 106) (ja_cons (je_var (pv 6)) (ja_cons (je_lst (ja_cons (je_int) (ja_cons (je_tup (ja_cons (je_str (l := [114, 111, 111, 116])) (ja_cons (je_int) (ja_cons (je_int) (ja_cons (je_int) (ja_cons (je_int) (ja_cons (je_str (l := [102])) (ja_cons (je_int) (ja_nil))))))))) (ja_cons (je_int) (ja_cons (je_lst (ja_cons (je_int) (ja_cons (je_int) (ja_cons (je_int) (ja_cons (je_int) (ja_cons (je_int) (ja_cons (je_int) (ja_nil)))))))) (ja_nil)))))) (ja_nil)))))) (js_one (js_ret (je_bl))) (js_nil)) (js_cons (js_set (i := 6) sc.nd rfl (Or.inl rfl) (je_lst (ja_cons (je_call (ok_law_shot F) hs (hr.mono (by decide)) pass_M (by rfl) (F.glo 104) (ja_cons (je_var (pv 5)) (ja_cons (je_var (pv 2)) (ja_cons (je_lst (ja_cons (je_tup (ja_cons (je_int) (ja_cons (je_non) (ja_nil)))) (ja_cons (je_tup (ja_cons (je_int) (ja_cons (je_non) (ja_nil)))) (ja_cons (je_tup (ja_cons (je_int) (ja_cons (je_non) (ja_nil)))) (ja_cons (je_tup (ja_cons (je_int) (ja_cons (je_non) (ja_nil)))) (ja_cons (je_tup (ja_cons (je_int) (ja_cons (je_var (pv 0)) (ja_nil)))) (ja_nil))))))) (ja_nil))))) (ja_cons (je_meth (c := 4) (ok_Disk_read F) (F.cls 3) (F.meth 32) n_read hs (hr.mono (by decide)) pass_M (je_var (pv 4)) (ja_cons (je_int) (ja_nil))) (ja_nil))))) (js_cons (js_set (i := 6) sc.nd rfl (Or.inl rfl) (je_add (je_var (pv 6)) (je_lst (ja_cons (je_meth (c := 4) (ok_Disk_read F) (F.cls 3) (F.meth 32) n_read hs (hr.mono (by decide)) pass_M (je_var (pv 4)) (ja_cons (je_int) (ja_nil))) (ja_cons (je_meth (c := 4) (ok_Disk_read F) (F.cls 3) (F.meth 32) n_read hs (hr.mono (by decide)) pass_M (je_var (pv 4)) (ja_cons (je_int) (ja_nil))) (ja_cons (je_meth (c := 4) (ok_Disk_read F) (F.cls 3) (F.meth 32) n_read hs (hr.mono (by decide)) pass_M (je_var (pv 4)) (ja_cons (je_int) (ja_nil))) (ja_cons (je_slice (je_meth0 (c := 3) (ok_Store_free F) (F.cls 42) (F.meth 82) n_free hs (hr.mono (by decide)) pass_M (je_var (pv 5))) (jp_none) (jp_some (je_int))) (ja_cons (je_lcA (c := .one 7) [("_law_k", 7)] rfl rfl sc.nd (ji_range1 (by rfl) (F.free 30) (je_int)) (blkOk_by (own := [("_law_k", 7)]) (N := sl_law_wide_right) (sc := defScope s_law_wide_right) (by decide +kernel)) (fun _ _ _ _ _ => pg_name (i := 7) sc.nd rfl (Or.inl rfl)) (fun _ _ _ _ _ => jts_nil) (fun _ _ _ _ _ => je_meth (c := 3) (ok_Store_page F) (F.cls 42) (F.meth 107) n_page hs (hr.mono (by decide)) pass_E00 (je_var (pv 5)) (ja_cons (je_var (pv 7)) (ja_nil))) (by decide)) (ja_nil))))))))) (js_cons (js_set (i := 3) sc.nd rfl (Or.inl rfl) (je_add (je_mulA (je_tup (ja_cons (je_non) (ja_nil))) (je_int)) (je_tup (ja_cons (je_var (pv 0)) (ja_nil))))) (js_cons (js_set (i := 1) sc.nd rfl (Or.inl rfl) (je_lst (ja_cons (je_int) (ja_cons (je_tup (ja_cons (je_str (l := [114, 111, 111, 116])) (ja_cons (je_int) (ja_cons (je_int) (ja_cons (je_int) (ja_cons (je_int) (ja_cons (je_str (l := [102])) (ja_cons (je_int) (ja_nil))))))))) (ja_cons (je_var (pv 3)) (ja_cons (je_tup (ja_cons (je_int) (ja_nil))) (ja_cons (je_tup (ja_cons (je_non) (ja_cons (je_int) (ja_nil)))) (ja_cons (je_lst (ja_cons (je_int) (ja_cons (je_int) (ja_cons (je_int) (ja_cons (je_int) (ja_nil)))))) (ja_cons (je_lst (ja_cons (je_tup (ja_nil)) (ja_cons (je_tup (ja_nil)) (ja_cons (je_tup (ja_nil)) (ja_cons (je_tup (ja_nil)) (ja_cons (je_var (pv 3)) (ja_nil))))))) (ja_nil)))))))))) (js_one (js_ret (je_call (ok_law_same F) hs (hr.mono (by decide)) pass_M (by rfl) (F.glo 106) (ja_cons (je_var (pv 6)) (ja_cons (je_var (pv 1)) (ja_nil))))))))))))))))))))
theorem ok_law_wide_right (F : W K mg) : FM P w K mg base (tN K) 9 (He.fAd K d_law_wide_right.at_) 1 [] m_law_wide_right := by
  obtain ⟨fd, D⟩ := F.c.def_ 52 (d := d_law_wide_right) rfl
  exact FM.of0 (ps := ["_law_own"]) D (fn_law_wide_right F D) rfl (fun _ _ _ _ _ _ us hl => match us, hl with | [_], _ => rfl)
def b_Disk_fail_after : MS := gFldS [4] 2243767261989143710365909087 (gVar 1) (gVar 0)
def m_Disk_fail_after : MF := gBody 2 b_Disk_fail_after
theorem sc_Disk_fail_after : FnScope ["self", "many"] ["self", "many"] (defScope s_Disk_fail_after) :=
  ⟨rfl, rfl, rfl, by decide +kernel, rfl, by decide +kernel, by decide +kernel⟩
theorem fn_Disk_fail_after (F : W K mg) {fd : FuncData} (D : FunD K d_Disk_fail_after.name d_Disk_fail_after.qual d_Disk_fail_after.params d_Disk_fail_after.body d_Disk_fail_after.scope (d_Disk_fail_after.dvs K) (d_Disk_fail_after.kws K) (He.fAd K d_Disk_fail_after.at_) fd) :
    FnG P w K mg base (L2.CX P w) 1 (He.fAd K d_Disk_fail_after.at_) fd ["self", "many"] (spM ⟨K, tN K⟩ 2 m_Disk_fail_after) :=
  def_MD D sc_Disk_fail_after b_Disk_fail_after fun cdv A outer s H E hs hr => by
    have sc := sc_Disk_fail_after
    exact js_one (js_fld (je_var (pv 0)) (je_var (pv 1)) (fk_Disk__left F) n__left)
theorem ok_Disk_fail_after (F : W K mg) : FM P w K mg base (tN K) 1 (He.fAd K d_Disk_fail_after.at_) 2 [] m_Disk_fail_after := by
  obtain ⟨fd, D⟩ := F.c.def_ 53 (d := d_Disk_fail_after) rfl
  exact FM.of0 (ps := ["self", "many"]) D (fn_Disk_fail_after F D) rfl (fun _ _ _ _ _ _ us hl => match us, hl with | [_, _], _ => rfl)
def b_Disk_crash : MS := gSeq (gFor (gIter (gVar 1)) (tgName 3) (gIfS (gOr (gB (gBin mLtI (gVar 3) (gC (.int 0)))) (gB (gBin mGeI (gVar 3) (gCB (f1 mLenV) (gCons (gFld [4] 4097048964362169311339300488478815 (gVar 0)) (gNil)))))) (gRaise1 11 4624391343257609244839718701498478 (gVar 3)) (gNext))) (gSeq (gFor (gIter (gVar 1)) (tgName 3) (gSeq (gAsg (gBin mIx (gFld [4] 4097048964362169311339300488478815 (gVar 0)) (gVar 3)) (tgTup [4, 2])) (gAsg (gVar 2) (tgSub (gFld [4] 18375823401358583102693711332145945774615691359 (gVar 0)) (gVar 4))))) (gSeq (gExpr (gMeth 4 922337678674733564008 m_Disk_hold [] 2 (gVar 0) (gCons (gFld [4] 18375823401358583102693711332145945774615691359 (gVar 0)) (gNil)))) (gFldS [4] 2243767261989143710365909087 (gC .non) (gVar 0))))
def m_Disk_crash : MF := gBody 5 b_Disk_crash
theorem sc_Disk_crash : FnScope ["self", "kept", "block", "index", "place"] ["self", "kept"] (defScope s_Disk_crash) :=
  ⟨rfl, rfl, rfl, by decide +kernel, rfl, by decide +kernel, by decide +kernel⟩
theorem fn_Disk_crash (F : W K mg) {fd : FuncData} (D : FunD K d_Disk_crash.name d_Disk_crash.qual d_Disk_crash.params d_Disk_crash.body d_Disk_crash.scope (d_Disk_crash.dvs K) (d_Disk_crash.kws K) (He.fAd K d_Disk_crash.at_) fd) :
    FnG P w K mg base (L2.CX P w) 3 (He.fAd K d_Disk_crash.at_) fd ["self", "kept"] (spM ⟨K, tN K⟩ 2 m_Disk_crash) :=
  def_MD D sc_Disk_crash b_Disk_crash fun cdv A outer s H E hs hr => by
    have sc := sc_Disk_crash
    exact js_cons (js_for own_M rfl (ji_seq (je_var (pv 1))) (jg_name (pg_name (i := 3) sc.nd rfl (Or.inl rfl))) (js_one (js_if (PW.pt (jw_or (jt_lt (je_var (pv 3)) (je_int)) (jw_or1 (jt_ge (je_var (pv 3)) (je_callB call_lenM mc_len (by rfl) (F.free 5) PySem.boot_len (ja_cons (je_fld (je_var (pv 0)) (fk_Disk__loose F) n__loose) (ja_nil))))))) (js_one (js_raise1 (c := 11) n_number (takes_of rfl rfl rfl rfl) rfl rfl hs (hr.mono (by decide)) (er_NoLoose F) (by rfl) (je_var (pv 3)))) (js_nil)))) (js_cons (js_for own_M rfl (ji_seq (je_var (pv 1))) (jg_name (pg_name (i := 3) sc.nd rfl (Or.inl rfl))) (js_cons (js_asg (je_ix (hu_of hr) (je_fld (je_var (pv 0)) (fk_Disk__loose F) n__loose) (je_var (pv 3))) (jg_tup (is := [4, 2]) rfl (pgs_more (pg_name (i := 4) sc.nd rfl (Or.inl rfl)) (pgs_more (pg_name (i := 2) sc.nd rfl (Or.inl rfl)) (pgs_names))))) (js_one (js_asg (je_var (pv 2)) (jg_sub (hu_of hr) (je_fld (je_var (pv 0)) (fk_Disk__lasting F) n__lasting) (je_var (pv 4))))))) (js_cons (js_expr (je_meth (c := 4) (ok_Disk_hold F) (F.cls 3) (F.meth 20) n_hold hs (hr.mono (by decide)) pass_M (je_var (pv 0)) (ja_cons (je_fld (je_var (pv 0)) (fk_Disk__lasting F) n__lasting) (ja_nil)))) (js_one (js_fld (je_var (pv 0)) (je_non) (fk_Disk__left F) n__left))))
theorem ok_Disk_crash (F : W K mg) : FM P w K mg base (tN K) 3 (He.fAd K d_Disk_crash.at_) 2 [] m_Disk_crash := by
  obtain ⟨fd, D⟩ := F.c.def_ 54 (d := d_Disk_crash) rfl
  exact FM.of0 (ps := ["self", "kept"]) D (fn_Disk_crash F D) rfl (fun _ _ _ _ _ _ us hl => match us, hl with | [_, _], _ => rfl)
def b_Store_newest : MS := gRet (gFld [3] 9698051554295381743034105754284936134751 (gVar 0))
def m_Store_newest : MF := gBody 1 b_Store_newest
theorem sc_Store_newest : FnScope ["self"] ["self"] (defScope s_Store_newest) :=
  ⟨rfl, rfl, rfl, by decide +kernel, rfl, by decide +kernel, by decide +kernel⟩
theorem fn_Store_newest (F : W K mg) {fd : FuncData} (D : FunD K d_Store_newest.name d_Store_newest.qual d_Store_newest.params d_Store_newest.body d_Store_newest.scope (d_Store_newest.dvs K) (d_Store_newest.kws K) (He.fAd K d_Store_newest.at_) fd) :
    FnG P w K mg base (L2.CX P w) 1 (He.fAd K d_Store_newest.at_) fd ["self"] (spM ⟨K, tN K⟩ 1 m_Store_newest) :=
  def_MD D sc_Store_newest b_Store_newest fun cdv A outer s H E hs hr => by
    have sc := sc_Store_newest
    exact js_one (js_ret (je_fld (je_var (pv 0)) (fk_Store__number F) n__number))
theorem ok_Store_newest (F : W K mg) : FM P w K mg base (tN K) 1 (He.fAd K d_Store_newest.at_) 1 [] m_Store_newest := by
  obtain ⟨fd, D⟩ := F.c.def_ 55 (d := d_Store_newest) rfl
  exact FM.of0 (ps := ["self"]) D (fn_Store_newest F D) rfl (fun _ _ _ _ _ _ us hl => match us, hl with | [_], _ => rfl)
end
end K57
set_option Elab.async false
set_option linter.all false
set_option maxRecDepth 100000
set_option maxHeartbeats 8000000
namespace K57
open PySem PySem.Spec PyProof.Rows L2 JB MI
section
variable {P : Program} {w : World} {K : PySem.W.Frag} {mg : Str → Option Value} {base : Heap}
def b_Disk_loose : MS := gRet (gCB (f1 mList) (gCons (gFld [4] 4097048964362169311339300488478815 (gVar 0)) (gNil)))
def m_Disk_loose : MF := gBody 1 b_Disk_loose
theorem sc_Disk_loose : FnScope ["self"] ["self"] (defScope s_Disk_loose) :=
  ⟨rfl, rfl, rfl, by decide +kernel, rfl, by decide +kernel, by decide +kernel⟩
theorem fn_Disk_loose (F : W K mg) {fd : FuncData} (D : FunD K d_Disk_loose.name d_Disk_loose.qual d_Disk_loose.params d_Disk_loose.body d_Disk_loose.scope (d_Disk_loose.dvs K) (d_Disk_loose.kws K) (He.fAd K d_Disk_loose.at_) fd) :
    FnG P w K mg base (L2.CX P w) 1 (He.fAd K d_Disk_loose.at_) fd ["self"] (spM ⟨K, tN K⟩ 1 m_Disk_loose) :=
  def_MD D sc_Disk_loose b_Disk_loose fun cdv A outer s H E hs hr => by
    have sc := sc_Disk_loose
    exact js_one (js_ret (je_callT call_list_of mc_list (by rfl) (F.free 11) PyProof.Rows.boot_list (ja_cons (je_fld (je_var (pv 0)) (fk_Disk__loose F) n__loose) (ja_nil))))
theorem ok_Disk_loose (F : W K mg) : FM P w K mg base (tN K) 1 (He.fAd K d_Disk_loose.at_) 1 [] m_Disk_loose := by
  obtain ⟨fd, D⟩ := F.c.def_ 56 (d := d_Disk_loose) rfl
  exact FM.of0 (ps := ["self"]) D (fn_Disk_loose F D) rfl (fun _ _ _ _ _ _ us hl => match us, hl with | [_], _ => rfl)
def b_law_lost_right : MS := gSeq (gPar 5 3 (gCons (gMake 4 m_Disk___init [] 2 (gCons (gC (.int 12)) (gNil))) (gCons (gMake 0 m_Memory___init [.ktp []] 2 gNil) (gNil)))) (gSeq (gExpr (gCall m_make_store [] 4 (gCons (gVar 5) (gCons (gC (.int 2)) (gCons (gC (.int 12)) (gCons (gTup (gNil)) (gNil))))))) (gSeq (gAsg (gMake 3 m_Store___init [] 4 (gCons (gVar 5) (gCons (gC (.int 2)) (gCons (gC (.int 12)) (gNil))))) (tgName 6)) (gSeq (gExpr (gCall m_law_shot [] 3 (gCons (gVar 6) (gCons (gVar 3) (gCons (gLst (gCons (gTup (gCons (gC (.int 0)) (gCons (gVar 0) (gNil)))) (gCons (gTup (gCons (gC (.int 8)) (gCons (gVar 0) (gNil)))) (gNil)))) (gNil)))))) (gSeq (gFor (gIter (gTup (gCons (gC (.bl false)) (gCons (gC (.bl true)) (gNil))))) (tgName 4) (gSeq (gExpr (gMeth 4 89448737517867230812707293064732857783211392600279667966054 m_Disk_fail_after [] 2 (gVar 5) (gCons (gC (.int 4)) (gNil)))) (gSeq (gAsg (gC .non) (tgName 1)) (gSeq (gTryK (List.lookup · [(11, false), (5, false), (9, true), (8, true), (6, true), (7, true), (10, true)]) 8 (gCall m_law_shot [] 3 (gCons (gVar 6) (gCons (gVar 3) (gCons (gLst (gCons (gTup (gCons (gC (.int 0)) (gCons (gC (.str [110, 101, 119])) (gNil)))) (gNil))) (gNil))))) (gAsg (gVar 8) (tgName 1))) (gSeq (gIfS (gOr (gNot (gTru (gUn (mIsE (List.lookup · [(11, false), (5, false), (9, false), (8, false), (6, true), (7, false), (10, false)])) (gVar 1)))) (gB (gBin mNeX (gCB (f1 mLenV) (gCons (gMeth 4 1953625185185513168019914860 m_Disk_loose [] 1 (gVar 5) gNil) (gNil))) (gC (.int 1))))) (gRet (gC (.bl false))) (gNext)) (gSeq (gExpr (gMeth 4 2011653624526953795760947299 m_Disk_crash [] 2 (gVar 5) (gCons (gIf (gTru (gVar 4)) (gLst (gCons (gC (.int 0)) (gNil))) (gLst (gNil))) (gNil)))) (gSeq (gPar 6 3 (gCons (gMake 3 m_Store___init [] 4 (gCons (gVar 5) (gCons (gC (.int 2)) (gCons (gC (.int 12)) (gNil))))) (gCons (gMake 0 m_Memory___init [] 2 (gCons (gTup (gCons (gTup (gCons (gVar 0) (gNil))) (gCons (gTup (gCons (gVar 0) (gNil))) (gNil)))) (gNil))) (gNil)))) (gSeq (gAsg (gLst (gCons (gMeth 3 4705521252471627190372533836709998 m_Store_newest [] 1 (gVar 6) gNil) (gCons (gMeth 3 931561028721326424176 m_Store_page [] 2 (gVar 6) (gCons (gC (.int 0)) (gNil))) (gCons (gMeth 3 931561028721326424176 m_Store_page [] 2 (gVar 6) (gCons (gC (.int 1)) (gNil))) (gCons (gMeth 3 931561019925269053542 m_Store_free [] 1 (gVar 6) gNil) (gNil)))))) (tgName 7)) (gSeq (gAsg (gIf (gTru (gVar 4)) (gLst (gCons (gC (.int 2)) (gCons (gTup (gCons (gC (.str [110, 101, 119])) (gNil))) (gCons (gTup (gCons (gVar 0) (gNil))) (gCons (gLst (gCons (gC (.int 2)) (gCons (gC (.int 4)) (gCons (gC (.int 7)) (gCons (gC (.int 8)) (gCons (gC (.int 9)) (gCons (gC (.int 10)) (gCons (gC (.int 11)) (gNil))))))))) (gNil)))))) (gLst (gCons (gC (.int 1)) (gCons (gTup (gCons (gVar 0) (gNil))) (gCons (gTup (gCons (gVar 0) (gNil))) (gCons (gLst (gCons (gC (.int 5)) (gCons (gC (.int 6)) (gCons (gC (.int 7)) (gCons (gC (.int 8)) (gCons (gC (.int 9)) (gCons (gC (.int 10)) (gCons (gC (.int 11)) (gNil))))))))) (gNil))))))) (tgName 2)) (gIfS (gNot (gTru (gCall m_law_same [] 2 (gCons (gVar 7) (gCons (gVar 2) (gNil)))))) (gRet (gC (.bl false))) (gNext))))))))))) (gRet (gC (.bl true)))))))
def m_law_lost_right : MF := gBody 9 b_law_lost_right
theorem sc_law_lost_right : FnScope ["_law_own", "_law_caught", "_law_due", "_law_field", "_law_keeps", "_law_plate", "_law_shop", "_law_told", "error"] ["_law_own"] (defScope s_law_lost_right) :=
  ⟨rfl, rfl, rfl, by decide +kernel, rfl, by decide +kernel, by decide +kernel⟩
theorem fn_law_lost_right (F : W K mg) {fd : FuncData} (D : FunD K d_law_lost_right.name d_law_lost_right.qual d_law_lost_right.params d_law_lost_right.body d_law_lost_right.scope (d_law_lost_right.dvs K) (d_law_lost_right.kws K) (He.fAd K d_law_lost_right.at_) fd) :
    FnG P w K mg base (L2.CX P w) 9 (He.fAd K d_law_lost_right.at_) fd ["_law_own"] (spM ⟨K, tN K⟩ 1 m_law_lost_right) :=
  def_MD D sc_law_lost_right b_law_lost_right fun cdv A outer s H E hs hr => by
    have sc := sc_law_lost_right
    exact js_cons (js_par (i := 5) (j := 3) rfl sc.nd rfl rfl (by decide) rfl rfl (ja_cons (je_make (c := 4) (ok_Disk___init F) (F.mkr 100) hs (hr.mono (by decide)) pass_M (by rfl) (F.glo 7) (ja_cons (je_int) (ja_nil))) (ja_cons (je_make0 (c := 0) (ok_Memory___init_d1 F) (F.mkr 101) hs (hr.mono (by decide)) pass_M (by rfl) (F.glo 61)) (ja_nil)))) (js_cons (js_expr (je_call (ok_make_store F) hs (hr.mono (by decide)) pass_M (by rfl) (F.glo 102) (ja_cons (je_var (pv 5)) (ja_cons (je_int) (ja_cons (je_int) (ja_cons (je_tup (ja_nil)) (ja_nil))))))) (js_cons (js_set (i := 6) sc.nd rfl (Or.inl rfl) (je_make (c := 3) (ok_Store___init F) (F.mkr 103) hs (hr.mono (by decide)) pass_M (by rfl) (F.glo 51) (ja_cons (je_var (pv 5)) (ja_cons (je_int) (ja_cons (je_int) (ja_nil)))))) (js_cons (js_expr (je_call (ok_law_shot F) hs (hr.mono (by decide)) pass_M (by rfl) (F.glo 104) (ja_cons (je_var (pv 6)) (ja_cons (je_var (pv 3)) (ja_cons (je_lst (ja_cons (je_tup (ja_cons (je_int) (ja_cons (je_var (pv 0)) (ja_nil)))) (ja_cons (je_tup (ja_cons (je_int) (ja_cons (je_var (pv 0)) (ja_nil)))) (ja_nil)))) (ja_nil)))))) (js_cons (js_for own_M rfl (ji_seq (je_tup (ja_cons (je_bl) (ja_cons (je_bl) (ja_nil))))) (jg_name (pg_name (i := 4) sc.nd rfl (Or.inl rfl))) (js_cons (js_expr (je_meth (c := 4) (ok_Disk_fail_after F) (F.cls 3) (F.meth 110) n_fail_after hs (hr.mono (by decide)) pass_M (je_var (pv 5)) (ja_cons (je_int) (ja_nil)))) (js_cons (js_set (i := 1) sc.nd rfl (Or.inl rfl) (je_non)) (js_cons (js_tryK (tb := (List.lookup · [(11, false), (5, false), (9, true), (8, true), (6, true), (7, true), (10, true)])) (i := 8) rfl rfl rfl sc.nd rfl rfl (test_t5 (by rfl) (F.glo 67) (by rfl) (F.glo 84) (by rfl) (F.glo 62) (by rfl) (F.glo 41) (by rfl) (F.glo 9)) (Tab.at (l := [(11, false), (5, false), (9, true), (8, true), (6, true), (7, true), (10, true)]) (.cons (exm_of (F.extra 1 (f := .raw (exmB "NoLoose" ["Busy", "Full", "Idle", "NoRoot", "Stopped"] false)))) (.cons (exm_of (F.extra 2 (f := .raw (exmB "NoBlock" ["Busy", "Full", "Idle", "NoRoot", "Stopped"] false)))) (.cons (exm_of (F.extra 3 (f := .raw (exmB "Busy" ["Busy", "Full", "Idle", "NoRoot", "Stopped"] true)))) (.cons (exm_of (F.extra 4 (f := .raw (exmB "Idle" ["Busy", "Full", "Idle", "NoRoot", "Stopped"] true)))) (.cons (exm_of (F.extra 5 (f := .raw (exmB "Stopped" ["Busy", "Full", "Idle", "NoRoot", "Stopped"] true)))) (.cons (exm_of (F.extra 6 (f := .raw (exmB "NoRoot" ["Busy", "Full", "Idle", "NoRoot", "Stopped"] true)))) (.cons (exm_of (F.extra 7 (f := .raw (exmB "Full" ["Busy", "Full", "Idle", "NoRoot", "Stopped"] true)))) (.nil))))))))) (takes_of rfl rfl rfl rfl) (fun pn xe => je_callW (ok_law_shot F) hs (hr.mono (by decide)) (by rfl) (F.glo 104) (fun E => ja_cons (je_var (pv 6)) (ja_cons (je_var (pv 3)) (ja_cons (je_lst (ja_cons (je_tup (ja_cons (je_int) (ja_cons (je_str (l := [110, 101, 119])) (ja_nil)))) (ja_nil))) (ja_nil))))) (fun a pn => js_one (js_set (i := 1) sc.nd rfl (Or.inl rfl) (je_var (pv 8))))) (js_cons (js_if (PW.pt (jw_or (jt_not (jt_tru (je_isE (tb := (List.lookup · [(11, false), (5, false), (9, false), (8, false), (6, true), (7, false), (10, false)])) (clsG_ok (F.extra 22 (f := .raw (clsGB)))) (by rfl) (F.free 12) (Tab.at (l := [(11, false), (5, false), (9, false), (8, false), (6, true), (7, false), (10, false)]) (.cons ⟨(isEx_of (k := 0) (F.extra 9 (f := .raw (exkB "NoLoose" 0)))), (kit1_of (F.extra 8 (f := .raw (kit1B "NoLoose" (.inl "Stopped") false))))⟩ (.cons ⟨(isEx_of (k := 1) (F.extra 11 (f := .raw (exkB "NoBlock" 1)))), (kit1_of (F.extra 10 (f := .raw (kit1B "NoBlock" (.inl "Stopped") false))))⟩ (.cons ⟨(isEx_of (k := 2) (F.extra 13 (f := .raw (exkB "Busy" 2)))), (kit1_of (F.extra 12 (f := .raw (kit1B "Busy" (.inl "Stopped") false))))⟩ (.cons ⟨(isEx_of (k := 2) (F.extra 15 (f := .raw (exkB "Idle" 2)))), (kit1_of (F.extra 14 (f := .raw (kit1B "Idle" (.inl "Stopped") false))))⟩ (.cons ⟨(isEx_of (k := 2) (F.extra 17 (f := .raw (exkB "Stopped" 2)))), (kit1_of (F.extra 16 (f := .raw (kit1B "Stopped" (.inl "Stopped") true))))⟩ (.cons ⟨(isEx_of (k := 2) (F.extra 19 (f := .raw (exkB "NoRoot" 2)))), (kit1_of (F.extra 18 (f := .raw (kit1B "NoRoot" (.inl "Stopped") false))))⟩ (.cons ⟨(isEx_of (k := 3) (F.extra 21 (f := .raw (exkB "Full" 3)))), (kit1_of (F.extra 20 (f := .raw (kit1B "Full" (.inl "Stopped") false))))⟩ (.nil))))))))) (je_var (pv 1)) (pe_glob (v := .ref (He.ga K "Stopped")) (by rfl) (F.glo 9) rfl) (.own _)))) (jw_or1 (jt_neF hr.units (je_callB call_lenM mc_len (by rfl) (F.free 5) PySem.boot_len (ja_cons (je_meth0 (c := 4) (ok_Disk_loose F) (F.cls 3) (F.meth 111) n_loose hs (hr.mono (by decide)) pass_M (je_var (pv 5))) (ja_nil))) (je_int))))) (js_one (js_ret (je_bl))) (js_nil)) (js_cons (js_expr (je_meth (c := 4) (ok_Disk_crash F) (F.cls 3) (F.meth 112) n_crash hs (hr.mono (by decide)) pass_M (je_var (pv 5)) (ja_cons (je_if (jt_tru (je_var (pv 4))) (je_lst (ja_cons (je_int) (ja_nil))) (je_lst (ja_nil))) (ja_nil)))) (js_cons (js_par (i := 6) (j := 3) rfl sc.nd rfl rfl (by decide) rfl rfl (ja_cons (je_make (c := 3) (ok_Store___init F) (F.mkr 103) hs (hr.mono (by decide)) pass_M (by rfl) (F.glo 51) (ja_cons (je_var (pv 5)) (ja_cons (je_int) (ja_cons (je_int) (ja_nil))))) (ja_cons (je_make (c := 0) (ok_Memory___init_d0 F) (F.mkr 101) hs (hr.mono (by decide)) pass_M (by rfl) (F.glo 61) (ja_cons (je_tup (ja_cons (je_tup (ja_cons (je_var (pv 0)) (ja_nil))) (ja_cons (je_tup (ja_cons (je_var (pv 0)) (ja_nil))) (ja_nil)))) (ja_nil))) (ja_nil)))) (js_cons (js_set (i := 7) sc.nd rfl (Or.inl rfl) (je_lst (ja_cons (je_meth0 (c := 3) (ok_Store_newest F) (F.cls 42) (F.meth 113) n_newest hs (hr.mono (by decide)) pass_M (je_var (pv 6))) (ja_cons (je_meth (c := 3) (ok_Store_page F) (F.cls 42) (F.meth 107) n_page hs (hr.mono (by decide)) pass_M (je_var (pv 6)) (ja_cons (je_int) (ja_nil))) (ja_cons (je_meth (c := 3) (ok_Store_page F) (F.cls 42) (F.meth 107) n_page hs (hr.mono (by decide)) pass_M (je_var (pv 6)) (ja_cons (je_int) (ja_nil))) (ja_cons (je_meth0 (c := 3) (ok_Store_free F) (F.cls 42) (F.meth 82) n_free hs (hr.mono (by decide)) pass_M (je_var (pv 6))) (ja_nil))))))) (js_cons (js_set (i := 2) sc.nd rfl (Or.inl rfl) (je_if (jt_tru (je_var (pv 4))) (je_lst (ja_cons (je_int) (ja_cons (je_tup (ja_cons (je_str (l := [110, 101, 119])) (ja_nil))) (ja_cons (je_tup (ja_cons (je_var (pv 0)) (ja_nil))) (ja_cons (je_lst (ja_cons (je_int) (ja_cons (je_int) (ja_cons (je_int) (ja_cons (je_int) (ja_cons (je_int) (ja_cons (je_int) (ja_cons (je_int) (ja_nil))))))))) (ja_nil)))))) (je_lst (ja_cons (je_int) (ja_cons (je_tup (ja_cons (je_var (pv 0)) (ja_nil))) (ja_cons (je_tup (ja_cons (je_var (pv 0)) (ja_nil))) (ja_cons (je_lst (ja_cons (je_int) (ja_cons (je_int) (ja_cons (je_int) (ja_cons (je_int) (ja_cons (je_int) (ja_cons (je_int) (ja_cons (je_int) (ja_nil))))))))) (ja_nil)))))))) (js_one (js_if (jt_not (jt_tru (je_call (ok_law_same F) hs (hr.mono (by decide)) pass_M (by rfl) (F.glo 106) (ja_cons (je_var (pv 7)) (ja_cons (je_var (pv 2)) (ja_nil)))))) (js_one (js_ret (je_bl))) (js_nil)))))))))))) (js_one (js_ret (je_bl)))))))
theorem ok_law_lost_right (F : W K mg) : FM P w K mg base (tN K) 9 (He.fAd K d_law_lost_right.at_) 1 [] m_law_lost_right := by
  obtain ⟨fd, D⟩ := F.c.def_ 57 (d := d_law_lost_right) rfl
  exact FM.of0 (ps := ["_law_own"]) D (fn_law_lost_right F D) rfl (fun _ _ _ _ _ _ us hl => match us, hl with | [_], _ => rfl)
def b_law : MS := gSeq (gAsg (gBin mAdd (gCB (f1 mList) (gCons (gSl (gVar 0) (gPn) (gPs (gC (.int 3)))) (gNil))) (gLst (gCons (gC (.int 0)) (gNil)))) (tgName 1)) (gSeq (gFor (gRng1 (gCB (f1 mLenV) (gCons (gVar 1) (gNil)))) (tgName 2) (gSeq (gAsg (gCall m_law_take [] 2 (gCons (gCall m_law_box [] 2 (gCons (gVar 1) (gCons (gVar 2) (gNil)))) (gCons (gBin mPow (gC (.int 10)) (gC (.int 9))) (gNil)))) (tgName 3)) (gIfS (gOr (gNot (gTru (gCall m_law_small_right [] 1 (gCons (gVar 3) (gNil))))) (gOr (gNot (gTru (gCall m_law_wide_right [] 1 (gCons (gVar 3) (gNil))))) (gNot (gTru (gCall m_law_lost_right [] 1 (gCons (gVar 3) (gNil))))))) (gRet (gC (.bl false))) (gNext)))) (gRet (gC (.bl true))))
def m_law : MF := gBody 4 b_law
theorem sc_law : FnScope ["_law_script", "_law_cells", "_law_k", "_law_own"] ["_law_script"] (defScope s_law) :=
  ⟨rfl, rfl, rfl, by decide +kernel, rfl, by decide +kernel, by decide +kernel⟩
theorem fn_law (F : W K mg) {fd : FuncData} (D : FunD K d_law.name d_law.qual d_law.params d_law.body d_law.scope (d_law.dvs K) (d_law.kws K) (He.fAd K d_law.at_) fd) :
    FnG P w K mg base (L2.CX P w) 10 (He.fAd K d_law.at_) fd ["_law_script"] (spM ⟨K, tN K⟩ 1 m_law) :=
  def_MD D sc_law b_law fun cdv A outer s H E hs hr => by
    have sc := sc_law
    exact js_cons (js_set (i := 1) sc.nd rfl (Or.inl rfl) (je_add (je_callT call_list_of mc_list (by rfl) (F.free 11) PyProof.Rows.boot_list (ja_cons (je_slice (je_var (pv 0)) (jp_none) (jp_some (je_int))) (ja_nil))) (je_lst (ja_cons (je_int) (ja_nil))))) (js_cons (js_for own_M rfl (ji_range1 (by rfl) (F.free 30) (je_callB call_lenM mc_len (by rfl) (F.free 5) PySem.boot_len (ja_cons (je_var (pv 1)) (ja_nil)))) (jg_name (pg_name (i := 2) sc.nd rfl (Or.inl rfl))) (js_cons (js_set (i := 3) sc.nd rfl (Or.inl rfl) (je_call (ok_law_take F) hs (hr.mono (by decide)) pass_M (by rfl) (F.glo 114) (ja_cons (je_call (ok_law_box F) hs (hr.mono (by decide)) pass_M (by rfl) (F.glo 115) (ja_cons (je_var (pv 1)) (ja_cons (je_var (pv 2)) (ja_nil)))) (ja_cons (je_pow (je_int) (je_int)) (ja_nil))))) (js_one (js_if (PW.pt (jw_or (jt_not (jt_tru (je_call (ok_law_small_right F) hs (hr.mono (by decide)) pass_M (by rfl) (F.glo 116) (ja_cons (je_var (pv 3)) (ja_nil))))) (jw_or (jt_not (jt_tru (je_call (ok_law_wide_right F) hs (hr.mono (by decide)) pass_M (by rfl) (F.glo 117) (ja_cons (je_var (pv 3)) (ja_nil))))) (jw_or1 (jt_not (jt_tru (je_call (ok_law_lost_right F) hs (hr.mono (by decide)) pass_M (by rfl) (F.glo 118) (ja_cons (je_var (pv 3)) (ja_nil))))))))) (js_one (js_ret (je_bl))) (js_nil))))) (js_one (js_ret (je_bl))))
end
end K57
set_option Elab.async false
set_option linter.all false
set_option maxRecDepth 100000
set_option maxHeartbeats 4000000
namespace XG
open MI
open L2 (atI ixN)
def bTake : MS := gSeq (gIfS (gB (gBin mGtI (gBin mIx (gVar 0) (gC (.int 0))) (gC (.int 0)))) (gSeq (gAsg (gBin mMod (gBin mIx (gVar 0) (gC (.int 0))) (gVar 1)) (tgName 3)) (gSeq (gAsg (gBin mDiv (gBin mIx (gVar 0) (gC (.int 0))) (gVar 1)) (tgSub (gVar 0) (gC (.int 0)))) (gRet (gVar 3)))) (gNext)) (gSeq (gPar 5 2 (gCons (gBin mIx (gVar 0) (gC (.int 1))) (gCons (gBin mAdd (gBin mIx (gVar 0) (gC (.int 2))) (gC (.int 1))) (gNil)))) (gSeq (gAsg (gVar 2) (tgSub (gVar 0) (gC (.int 2)))) (gSeq (gAsg (gBin mMod (gBin mMulA (gBin mAdd (gVar 5) (gBin mMulA (gC (.int 48271)) (gVar 2))) (gBin mAdd (gC (.int 39373)) (gVar 2))) (gC (.int 2147483647))) (tgName 4)) (gSeq (gAsg (gBin mMod (gBin mMulA (gBin mAdd (gBin mAdd (gVar 4) (gVar 2)) (gBin mDiv (gVar 5) (gC (.int 1000003)))) (gBin mAdd (gBin mMod (gVar 4) (gC (.int 40009))) (gC (.int 7)))) (gC (.int 2147483629))) (tgName 6)) (gRet (gBin mMod (gBin mDiv (gBin mMod (gBin mAdd (gBin mMulA (gVar 6) (gC (.int 48271))) (gVar 4)) (gC (.int 2147483587))) (gC (.int 64))) (gVar 1)))))))
def mTake : MF := gBody 7 bTake
theorem cm_r {i j : Int} (h : j.natAbs < 18446744073709551616) : cMul i j = true := by
  unfold cMul; simp [h]
theorem cm_l {i j : Int} (h : i.natAbs < 18446744073709551616) : cMul i j = true := by
  unfold cMul; simp [h]
theorem take_pos {h : MH} {i : Nat} {a s f n : Int} (hg : h.get i = some (.lst [.int a, .int s, .int f])) (ha : 0 < a) (hn : 0 < n) (hn2 : n < 1073741824) :
    mTake [.ref i, .int n] h = .ok (.int (a % n)) (h.set i (.lst [.int (a / n), .int s, .int f])) := by
  have x0 : atI [MV.int a, MV.int s, MV.int f] 0 = some (.int a) := rfl
  have x1 : ixN 3 0 = some 0 := rfl
  simp [mTake, bTake, gBody, gSeq, gIfS, gB, gBin, gVar, gC, mIx, isD, hg, mIxS, seqOf, x0, oV, mGtI, mI, Out.bind, Out.bindS, ha, gAsg, tgName, SO.only, SO.next, mMod, mIc, hn, mDiv, hn2, tgSub, putM, x1, gRet]
def onceV (s f : Int) : Int := (s + 48271 * (f + 1)) * (39373 + (f + 1)) % 2147483647
def takeV (s f n : Int) : Int := ((onceV s f + (f + 1) + s / 1000003) * (onceV s f % 40009 + 7) % 2147483629 * 48271 + onceV s f) % 2147483587 / 64 % n
theorem take_neg {h : MH} {i : Nat} {a s f n : Int} (hg : h.get i = some (.lst [.int a, .int s, .int f])) (ha : ¬ 0 < a) (hn : 0 < n) (hf : 0 ≤ f) (hf2 : f < 1000000000000) :
    mTake [.ref i, .int n] h = .ok (.int (takeV s f n)) (h.set i (.lst [.int a, .int s, .int (f + 1)])) := by
  have x0 : atI [MV.int a, MV.int s, MV.int f] 0 = some (.int a) := rfl
  have x1 : atI [MV.int a, MV.int s, MV.int f] 1 = some (.int s) := rfl
  have x2 : atI [MV.int a, MV.int s, MV.int f] 2 = some (.int f) := rfl
  have x3 : ixN 3 2 = some 2 := rfl
  have c1 : cMul 48271 (f + 1) = true := cm_l (by decide)
  have c2 : cMul (s + 48271 * (f + 1)) (39373 + (f + 1)) = true := cm_r (by omega)
  have c3 : ∀ y z : Int, cMul y (z % 40009 + 7) = true := fun y z => cm_r (by omega)
  have c4 : ∀ y : Int, cMul y 48271 = true := fun y => cm_r (by decide)
  simp [mTake, bTake, gBody, gSeq, gIfS, gB, gBin, gVar, gC, mIx, isD, hg, mIxS, seqOf, x0, x1, x2, oV, mGtI, mI, Out.bind, Out.bindS, ha, gAsg, tgName, SO.only, SO.next, mMod, mIc, hn, mDiv, tgSub, putM, x3, gRet, gNext, gPar, gCons, gNil, mAdd, mMulA, isTup, isStr, mMulV, isRep, mMul, c1, c2, c3, c4, takeV, onceV]
def bBox : MS := gSeq (gAsg (gBin mIx (gVar 0) (gVar 1)) (tgName 2)) (gRet (gLst (gCons (gBin mMulA (gCB (f1 mAbs) (gCons (gVar 2) (gNil))) (gCB (f1 mInt) (gCons (gBin mGeI (gCB (f1 mAbs) (gCons (gVar 2) (gNil))) (gBin mPow (gC (.int 10)) (gC (.int 18)))) (gNil)))) (gCons (gBin mAdd (gBin mAdd (gBin mMod (gVar 2) (gC (.int 2305843009213693951))) (gBin mMulA (gC (.int 7919)) (gVar 1))) (gC (.int 61))) (gCons (gC (.int 0)) (gNil))))))
def mBox : MF := gBody 3 bBox
def absV (x : Int) : Int := if x < 0 then -x else x
theorem at_map {cs : List Int} {k : Nat} {x : Int} (hk : cs[k]? = some x) : atI (cs.map MV.int) (k : Int) = some (.int x) := by
  have hl : k < cs.length := (List.getElem?_eq_some_iff.mp hk).1
  unfold atI ixN
  rw [List.length_map, if_pos (by omega), if_pos (by omega)]
  show (cs.map MV.int)[(k : Int).toNat]? = _
  rw [Int.toNat_natCast, List.getElem?_map, hk]; rfl
theorem box_eq {h : MH} {c : Nat} {cs : List Int} {k : Nat} {x : Int} (hg : h.get c = some (.lst (cs.map MV.int))) (hk : cs[k]? = some x) :
    mBox [.ref c, .int k] h = .ok (.ref h.n) (h.push (.lst [.int (absV x * if 1000000000000000000 ≤ absV x then 1 else 0), .int (x % 2305843009213693951 + 7919 * k + 61), .int 0])) := by
  have x0 := at_map hk
  have c1 : ∀ (y z : Int), cMul y (if z ≤ absV x then 1 else 0) = true := fun y z => cm_r (by split <;> decide)
  have c2 : cMul 7919 k = true := cm_l (by decide)
  have p1 : ∀ h, mPow (.int 10) (.int 18) h = .ok (.int 1000000000000000000) h := fun h => rfl
  have a1 : ∀ h, mAbs (.int x) h = .ok (.int (absV x)) h := fun h => rfl
  simp [mBox, bBox, gBody, gSeq, gBin, gVar, gC, mIx, isD, hg, mIxS, seqOf, x0, oV, mI, Out.bind, Out.bindS, gAsg, tgName, SO.only, SO.next, mMod, mIc, gRet, gLst, gCons, gNil, gCB, f1, a1, mInt, mGeI, p1, mAdd, mMulA, isTup, isStr, mMulV, isRep, mMul, c1, c2]
theorem cut1 {ns : List Int} {m : Nat} : mcut (ns.map MV.int) none (some (m : Int)) = (ns.take m).map MV.int := by
  unfold mcut
  rw [HT.sIx_none, HT.sIx_nat, List.drop_zero, Nat.sub_zero, List.length_map, List.map_take]
  by_cases h : m ≤ ns.length
  · rw [Nat.min_eq_left h]
  · rw [Nat.min_eq_right (by omega), List.take_of_length_le (by simp), List.take_of_length_le (by simp; omega)]
end XG
set_option Elab.async false
set_option linter.all false
set_option maxRecDepth 100000
set_option maxHeartbeats 4000000
namespace XG
open MI
section
variable {right : MF} {C : Nat}
end
end XG
set_option Elab.async false
set_option linter.all false
set_option maxRecDepth 100000
set_option maxHeartbeats 4000000
namespace XM
open MI XG
open L2 (atI ixN)
theorem set_get {h : MH} {i : Nat} {o o' : MO} (e : h.get i = some o') : (h.set i o).get i = some o := by rw [MH.get_set (MH.get_lt e), if_pos rfl]
end XM
set_option Elab.async false
set_option linter.all false
set_option maxRecDepth 100000
set_option maxHeartbeats 4000000
namespace XM
open MI XG
open L2 (atI ixN)
def atB : MV → Bool
  | .non => true
  | .int i => decide (i.natAbs < 100000000000000000000000000000000000000000000000000)
  | .str s => decide (s.length ≤ 20) && s.all fun c => decide (c < 1114112)
  | _ => false
section
variable {C : Nat} {h : MH} {s r b L : Nat} {R : Rows}
end
end XM
set_option Elab.async false
set_option linter.all false
set_option maxRecDepth 100000
set_option maxHeartbeats 4000000
namespace XM
open MI XG
open L2 (atI ixN)
theorem seq_nx {a b : MS} {m m' : ML} {h h' : MH} (e : a m h = .nx m' h') : gSeq a b m h = b m' h' := by unfold gSeq; rw [e]; rfl
theorem body_rt {N : Nat} {b : MS} {as : List MV} {v : MV} {h h' : MH} (e : b (as.map some ++ List.replicate (N - as.length) none) h = .rt v h') : gBody N b as h = .ok v h' := by unfold gBody; rw [e]
theorem ifS_f {c : MT} {a b : MS} {m : ML} {h h1 : MH} (e : c m h = .ok false h1) : gIfS c a b m h = b m h1 := by unfold gIfS; rw [e]; rfl
section
variable {C : Nat} {h : MH} {s r b L : Nat} {R : Rows}
end
end XM
set_option Elab.async false
set_option linter.all false
set_option maxRecDepth 100000
set_option maxHeartbeats 4000000
namespace XM
open MI XG
open L2 (atI ixN)
end XM
set_option Elab.async false
set_option linter.all false
set_option maxRecDepth 100000
set_option maxHeartbeats 4000000
namespace XM
open MI XG
open L2 (atI ixN)
section
variable {C : Nat} {h : MH} {s r b L : Nat} {R : Rows}
end
end XM
set_option Elab.async false
set_option linter.all false
set_option maxRecDepth 100000
set_option maxHeartbeats 4000000
namespace XM
open MI XG
open L2 (atI ixN)
section
variable {C : Nat} {h : MH} {s r b L : Nat} {R : Rows}
end
end XM
set_option Elab.async false
set_option linter.all false
set_option maxRecDepth 100000
set_option maxHeartbeats 4000000
namespace XM
open MI XG
open L2 (atI ixN)
theorem lc_loop {it : It1} {c : CT} {t : MT} {e : ME} {D : Nat} {mw : ML} {N : Nat} (hN : N < 1000000) (P : Nat → List MV → MH → Prop) (hend : ∀ acc h, P N acc h → it.at_ N h = some none)
    (hstep : ∀ i acc h, i < N → P i acc h → h.get D = some (.lst acc) → ∃ x m1 h1 b h2, it.at_ i h = some (some x) ∧ c.set x mw h = .nx m1 h1 ∧ t m1 h1 = .ok b h2 ∧
      (b = false → P (i + 1) acc h2 ∧ h2.get D = some (.lst acc)) ∧ (b = true → ∃ y h3, e m1 h2 = .ok y h3 ∧ h3.get D = some (.lst acc) ∧ P (i + 1) (acc ++ [y]) (h3.set D (.lst (acc ++ [y]))))) :
    ∀ (n i : Nat) (acc : List MV) (h : MH), i + n = N + 1 → i ≤ N → acc.length ≤ i → P i acc h → h.get D = some (.lst acc) → ∃ acc' h', gLcN it c t e D mw n i h = .ok (.ref D) h' ∧ P N acc' h' ∧ h'.get D = some (.lst acc')
  | 0, i, acc, h, e0, hi, _, _, _ => by omega
  | n + 1, i, acc, h, e0, hi, la, p, g => by
    unfold gLcN
    by_cases hiN : i = N
    · subst hiN
      rw [hend acc h p]
      exact ⟨acc, h, rfl, p, g⟩
    · obtain ⟨x, m1, h1, b, h2, a1, a2, a3, a4, a5⟩ := hstep i acc h (by omega) p g
      rw [a1]
      simp only [a2, a3]
      cases b with
      | false =>
        obtain ⟨p2, g2⟩ := a4 rfl
        exact lc_loop hN P hend hstep n (i + 1) acc h2 (by omega) (by omega) (by omega) p2 g2
      | true =>
        obtain ⟨y, h3, b1, b2, b3⟩ := a5 rfl
        simp only [b1, b2]
        rw [if_pos (by omega)]
        exact lc_loop hN P hend hstep n (i + 1) (acc ++ [y]) _ (by omega) (by omega) (by simp; omega) b3 (set_get b2)
theorem for_loop {it : It1} {t : MG} {b : MS} {N : Nat} (Q : Nat → ML → MH → Prop) (hend : ∀ m h, Q N m h → it.at_ N h = some none)
    (hstep : ∀ i m h, i < N → Q i m h → ∃ x m1 h1 m2 h2, it.at_ i h = some (some x) ∧ t x m h = .nx m1 h1 ∧ b m1 h1 = .nx m2 h2 ∧ Q (i + 1) m2 h2) :
    ∀ (n i : Nat) (m : ML) (h : MH), i + n = N + 1 → i ≤ N → Q i m h → ∃ m' h', gForN it t b n i m h = .nx m' h' ∧ Q N m' h'
  | 0, i, m, h, e0, hi, _ => by omega
  | n + 1, i, m, h, e0, hi, q => by
    unfold gForN
    by_cases hiN : i = N
    · subst hiN
      rw [hend m h q]
      exact ⟨m, h, rfl, q⟩
    · obtain ⟨x, m1, h1, m2, h2, a1, a2, a3, a4⟩ := hstep i m h (by omega) q
      rw [a1]
      simp only [a2, a3]
      exact for_loop Q hend hstep n (i + 1) m2 h2 (by omega) (by omega) a4
theorem rng_at {lo : Int} {n i : Nat} {h : MH} (hi : i < n) : (it1R lo n).at_ i h = some (some (.int (lo + (i : Nat)))) := by
  show some (if i < n then some (MV.int (lo + (i : Nat))) else none) = _
  rw [if_pos hi]
theorem rng_at0 {n i : Nat} {h : MH} (hi : i < n) : (it1R 0 n).at_ i h = some (some (.int (i : Nat))) := by rw [rng_at hi, Int.zero_add]
theorem rng_end {lo : Int} {n : Nat} {h : MH} : (it1R lo n).at_ n h = some none := by
  show some (if n < n then some (MV.int (lo + (n : Nat))) else none) = _
  rw [if_neg (Nat.lt_irrefl _)]
end XM
set_option Elab.async false
set_option linter.all false
set_option maxRecDepth 100000
set_option maxHeartbeats 4000000
namespace XM
open MI XG
open L2 (atI ixN)
end XM
set_option Elab.async false
set_option linter.all false
set_option maxRecDepth 100000
set_option maxHeartbeats 4000000
namespace XM
open MI XG
open L2 (atI ixN)
end XM
set_option Elab.async false
set_option linter.all false
set_option maxRecDepth 100000
set_option maxHeartbeats 4000000
namespace XM
open MI XG
open L2 (atI ixN)
end XM
set_option Elab.async false
set_option linter.all false
set_option maxRecDepth 100000
set_option maxHeartbeats 4000000
namespace XM
open MI XG
open L2 (atI ixN)
end XM
set_option Elab.async false
set_option linter.all false
set_option maxRecDepth 100000
set_option maxHeartbeats 4000000
namespace XM
open MI XG
open L2 (atI ixN)
end XM
set_option Elab.async false
set_option linter.all false
set_option maxRecDepth 100000
set_option maxHeartbeats 4000000
namespace XM
open MI XG
open L2 (atI ixN)
end XM
set_option Elab.async false
set_option linter.all false
set_option maxRecDepth 100000
set_option maxHeartbeats 4000000
namespace XM
open MI XG PySem
open L2 (atI ixN)
structure Dk (k B : Nat) (d : PyData) : Prop where
  s : d.showable = true
  nd : d.hasDict = false
  dp : d.depth ≤ k
  ls : d.leavesShort 60 = true
  bk : d.bulk ≤ B
  eq : ∀ n, k < n → dEq n d d = true
theorem Dk.le {k k' B B' : Nat} {d : PyData} (a : Dk k B d) (h1 : k ≤ k') (h2 : B ≤ B') : Dk k' B' d := ⟨a.s, a.nd, Nat.le_trans a.dp h1, a.ls, Nat.le_trans a.bk h2, fun n hn => a.eq n (by omega)⟩
theorem Dk.okA {k B : Nat} {d : PyData} (a : Dk k B d) (h1 : k ≤ 60) (h2 : B ≤ 262144) : dOkA d = true := by
  unfold dOkA
  rw [a.s, a.nd, a.ls, decide_eq_true (Nat.le_trans a.dp h1), decide_eq_true (Nat.le_trans a.bk h2)]
  rfl
def aD : MV → PyData
  | .non => .none
  | .int i => .int i
  | .str s => .str ⟨s.toArray⟩
  | _ => .none
theorem leq_refl : ∀ l : List Nat, leq l l = true := fun l => leq_iff.mpr rfl
theorem aD_ok {x : MV} (a : atB x = true) : Dk 0 20 (aD x) := by
  cases x with
  | non => exact ⟨rfl, rfl, Nat.le_refl _, rfl, Nat.zero_le _, fun n hn => by cases n with | zero => omega | succ n => rfl⟩
  | int i =>
    have hi : i.natAbs < 100000000000000000000000000000000000000000000000000 := of_decide_eq_true a
    refine ⟨?_, rfl, Nat.le_refl _, ?_, Nat.zero_le _, fun n hn => by cases n with | zero => omega | succ n => exact decide_eq_true rfl⟩
    · show decide (i.natAbs.log2 < 1920) = true
      refine decide_eq_true (iSmall_ok ?_)
      unfold iSmall
      exact decide_eq_true (by omega)
    · show decide ((PyData.shown (.int i)).length ≤ 60) = true
      refine decide_eq_true ?_
      have e : PyData.shown (.int i) = Str.ofString (toString i) := by simp only [PyData.shown]
      rw [e]
      have a := int_text_length_le10 (a := i) (k := 50) (by decide) (by have : (10 : Nat) ^ 50 = 100000000000000000000000000000000000000000000000000 := by decide +kernel
                                                                        omega)
      have b : (Str.ofString (toString i)).length = (toString i).length := by
        rw [ofS]
        show ((toString i).toList.map Char.toNat).toArray.size = _
        simp only [List.size_toArray, List.length_map]
        first | rfl | exact String.length_toList | exact (toString i).length_toList
      omega
  | str s =>
    have a' : (decide (s.length ≤ 20) && s.all fun c => decide (c < 1114112)) = true := a
    simp only [Bool.and_eq_true, decide_eq_true_eq, List.all_eq_true] at a'
    refine ⟨rfl, rfl, Nat.le_refl _, ?_, ?_, fun n hn => by cases n with | zero => omega | succ n => exact leq_refl _⟩
    · show (s.toArray.toList.all fun c => decide (c < 16 ^ 8)) = true
      simp only [List.all_eq_true, decide_eq_true_eq]
      intro c hc
      have := a'.2 c (by simpa using hc)
      have e : (16 : Nat) ^ 8 = 4294967296 := by decide
      omega
    · show s.toArray.size ≤ 20
      simpa using a'.1
  | _ => cases a
theorem all_ok {k B : Nat} : ∀ {ds : List PyData}, (∀ d ∈ ds, Dk k B d) → PyData.showableAll ds = true ∧ PyData.hasDictAll ds = false ∧ PyData.depthAll ds ≤ k ∧ PyData.leavesShortAll 60 ds = true ∧ PyData.bulkAll ds ≤ ds.length * (B + 1) ∧ ∀ n, k < n → allEq (dEq n) ds ds = true
  | [], _ => ⟨rfl, rfl, Nat.zero_le _, rfl, Nat.zero_le _, fun _ _ => rfl⟩
  | d :: ds, h => by
    have a := h d List.mem_cons_self
    obtain ⟨h1, h2, h3, h4, h5, h6⟩ := all_ok fun d hd => h d (List.mem_cons_of_mem _ hd)
    refine ⟨?_, ?_, ?_, ?_, ?_, fun n hn => ?_⟩
    · simp only [PyData.showableAll, a.s, h1, Bool.and_self]
    · simp only [PyData.hasDictAll, a.nd, h2, Bool.or_self]
    · simp only [PyData.depthAll]; exact Nat.max_le.mpr ⟨a.dp, h3⟩
    · simp only [PyData.leavesShortAll, a.ls, h4, Bool.and_self]
    · simp only [PyData.bulkAll, List.length_cons, Nat.add_mul]
      have := a.bk
      omega
    · show (dEq n d d && allEq (dEq n) ds ds) = true
      rw [a.eq n hn, h6 n hn]; rfl
theorem Dk.list {k B n : Nat} {ds : List PyData} (h : ∀ d ∈ ds, Dk k B d) (hn : ds.length ≤ n) : Dk (k + 1) (n * (B + 1)) (.list ds) := by
  obtain ⟨h1, h2, h3, h4, h5, h6⟩ := all_ok h
  refine ⟨by simpa only [PyData.showable] using h1, by simpa only [PyData.hasDict] using h2, by simp only [PyData.depth]; omega, by simpa only [PyData.leavesShort] using h4, by simp only [PyData.bulk]; exact Nat.le_trans h5 (Nat.mul_le_mul_right _ hn), fun m hm => ?_⟩
  cases m with
  | zero => omega
  | succ m => exact h6 m (by omega)
theorem Dk.tuple {k B n : Nat} {ds : List PyData} (h : ∀ d ∈ ds, Dk k B d) (hn : ds.length ≤ n) : Dk (k + 1) (n * (B + 1)) (.tuple ds) := by
  obtain ⟨h1, h2, h3, h4, h5, h6⟩ := all_ok h
  refine ⟨by simpa only [PyData.showable] using h1, by simpa only [PyData.hasDict] using h2, by simp only [PyData.depth]; omega, by simpa only [PyData.leavesShort] using h4, by simp only [PyData.bulk]; exact Nat.le_trans h5 (Nat.mul_le_mul_right _ hn), fun m hm => ?_⟩
  cases m with
  | zero => omega
  | succ m => exact h6 m (by omega)
def mSame : MF := gBody 2 (gRet (gSameA (gVar 0) (gVar 1)))
theorem same_ok {h : MH} {x y : MV} {d : PyData} {k B : Nat} (rx : isRow x = true) (ry : isRow y = true) (ex : toD h 61 x = some d) (ey : toD h 61 y = some d) (a : Dk k B d) (h1 : k ≤ 60) (h2 : B ≤ 262144) : mSame [x, y] h = .ok (.bl true) h := by
  have o := a.okA h1 h2
  have v0 : ∀ h, gVar 0 [some x, some y] h = .ok x h := fun h => rfl
  have v1 : ∀ h, gVar 1 [some x, some y] h = .ok y h := fun h => rfl
  refine body_rt (v := .bl true) (h' := h) ?_
  show gRet (gSameA (gVar 0) (gVar 1)) [some x, some y] h = _
  simp only [gRet, gSameA, v0, v1, Out.bind, rx, ry, ex, ey, if_pos, o, a.eq 61 (by omega), and_self, Out.bindS]
end XM
set_option Elab.async false
set_option linter.all false
set_option maxRecDepth 1000000
set_option maxHeartbeats 4000000
namespace K57
open MI XG XM PySem
inductive Itm where
  | st (s : MS) | sm (a : MA)
def smI (a : MA) : MS := gIfS (gNot (gTru (gCall m_law_same [] 2 a))) (gRet (gC (.bl false))) gNext
def Itm.ms : Itm → MS
  | .st s => s
  | .sm a => smI a
def seqs : List Itm → MS → MS
  | [], R => R
  | i :: r, R => gSeq i.ms (seqs r R)
def sim : List Itm → ML → MH → Option (ML × MH) × List (Option PyData)
  | [], m, h => (some (m, h), [])
  | .st s :: r, m, h => match s m h with
    | .nx m1 h1 => sim r m1 h1
    | _ => (none, [])
  | .sm a :: r, m, h => match a m h with
    | .ok [x, y] h1 => if (isRow x && isRow y) = true then ((sim r m h1).1, toD h1 61 x :: toD h1 61 y :: (sim r m h1).2) else (none, [])
    | _ => (none, [])
def Good : List (Option PyData) → Prop
  | [] => True
  | x :: y :: r => (∃ d k B, x = some d ∧ y = some d ∧ Dk k B d ∧ k ≤ 60 ∧ B ≤ 262144) ∧ Good r
  | [_] => False
theorem t_same : m_law_same = mSame := rfl
theorem same_call {a : MA} {m : ML} {h h1 : MH} {x y : MV} (e : a m h = .ok [x, y] h1) (r : (isRow x && isRow y) = true) (g : ∃ d k B, toD h1 61 x = some d ∧ toD h1 61 y = some d ∧ Dk k B d ∧ k ≤ 60 ∧ B ≤ 262144) :
    gCall m_law_same [] 2 a m h = .ok (.bl true) h1 := by
  obtain ⟨d, k, B, e1, e2, a1, b1, b2⟩ := g
  obtain ⟨r1, r2⟩ := Bool.and_eq_true_iff.mp r
  unfold gCall
  rw [e, t_same]
  exact same_ok r1 r2 e1 e2 a1 b1 b2
theorem smI_ok {a : MA} {m : ML} {h h1 : MH} (e : gCall m_law_same [] 2 a m h = .ok (.bl true) h1) : smI a m h = .nx m h1 := by
  unfold smI gIfS gNot gTru
  rw [e]; rfl
theorem sound : ∀ {l : List Itm} {m : ML} {h : MH} {m' : ML} {h' : MH}, (sim l m h).1 = some (m', h') → Good (sim l m h).2 → ∀ R, seqs l R m h = R m' h'
  | [], m, h, m', h', e, _, R => by cases e; rfl
  | .st s :: r, m, h, m', h', e, g, R => by
    unfold sim at e g
    unfold seqs gSeq Itm.ms
    dsimp only
    cases k : s m h with
    | nx m1 h1 =>
      rw [k] at e g
      exact sound e g R
    | _ => rw [k] at e; cases e
  | .sm a :: r, m, h, m', h', e, g, R => by
    unfold sim at e g
    unfold seqs gSeq Itm.ms
    dsimp only
    cases k : a m h with
    | ok xs h1 =>
      rw [k] at e g
      match xs, k, e, g with
      | [x, y], k, e, g =>
        dsimp only at e g
        by_cases c : (isRow x && isRow y) = true
        · rw [if_pos c] at e g
          rw [smI_ok (same_call k c g.1)]
          exact sound e g.2 R
        · rw [if_neg c] at e; cases e
      | [], k, e, g => cases e
      | [_], k, e, g => cases e
      | _ :: _ :: _ :: _, k, e, g => cases e
    | bad => rw [k] at e; cases e
    | er _ _ => rw [k] at e; cases e
theorem sound2 {a : MA} : ∀ {l : List Itm} {m : ML} {h : MH} {m' : ML} {h' : MH}, (sim (l ++ [.sm a]) m h).1 = some (m', h') → Good (sim (l ++ [.sm a]) m h).2 → ∃ h1, (∀ R, seqs l R m h = R m' h1) ∧ gCall m_law_same [] 2 a m' h1 = .ok (.bl true) h'
  | [], m, h, m', h', e, g => by
    rw [List.nil_append] at e g
    unfold sim at e g
    cases k : a m h with
    | ok xs h1 =>
      rw [k] at e g
      match xs, k, e, g with
      | [x, y], k, e, g =>
        dsimp only at e g
        by_cases c : (isRow x && isRow y) = true
        · rw [if_pos c] at e g
          cases e
          exact ⟨h, fun R => rfl, same_call k c g.1⟩
        · rw [if_neg c] at e; cases e
      | [], k, e, g => cases e
      | [_], k, e, g => cases e
      | _ :: _ :: _ :: _, k, e, g => cases e
    | bad => rw [k] at e; cases e
    | er _ _ => rw [k] at e; cases e
  | .st s :: r, m, h, m', h', e, g => by
    rw [List.cons_append] at e g
    unfold sim at e g
    cases k : s m h with
    | nx m1 h1 =>
      rw [k] at e g
      obtain ⟨h2, q1, q2⟩ := sound2 (l := r) e g
      exact ⟨h2, fun R => by show gSeq s (seqs r R) m h = _; unfold gSeq; rw [k]; exact q1 R, q2⟩
    | _ => rw [k] at e; cases e
  | .sm b :: r, m, h, m', h', e, g => by
    rw [List.cons_append] at e g
    unfold sim at e g
    cases k : b m h with
    | ok xs h1 =>
      rw [k] at e g
      match xs, k, e, g with
      | [x, y], k, e, g =>
        dsimp only at e g
        by_cases c : (isRow x && isRow y) = true
        · rw [if_pos c] at e g
          obtain ⟨h2, q1, q2⟩ := sound2 (l := r) e g.2
          refine ⟨h2, fun R => ?_, q2⟩
          show gSeq (smI b) (seqs r R) m h = _
          unfold gSeq
          rw [smI_ok (same_call k c g.1)]
          exact q1 R
        · rw [if_neg c] at e; cases e
      | [], k, e, g => cases e
      | [_], k, e, g => cases e
      | _ :: _ :: _ :: _, k, e, g => cases e
    | bad => rw [k] at e; cases e
    | er _ _ => rw [k] at e; cases e
inductive Tm where
  | own | non | int (i : Int) | str (s : List Nat) | tup (l : List Tm) | lst (l : List Tm)
mutual
def Tm.ev (own : Int) : Tm → PyData
  | .own => .int own
  | .non => .none
  | .int i => .int i
  | .str s => .str ⟨s.toArray⟩
  | .tup l => .tuple (evs own l)
  | .lst l => .list (evs own l)
def evs (own : Int) : List Tm → List PyData
  | [] => []
  | t :: l => t.ev own :: evs own l
end
mutual
def Tm.ok : Tm → Option (Nat × Nat)
  | .own => some (0, 20)
  | .non => some (0, 20)
  | .int i => if atB (.int i) = true then some (0, 20) else none
  | .str s => if atB (.str s) = true then some (0, 20) else none
  | .tup l => (oks l).map fun p => (p.1 + 1, l.length * (p.2 + 1))
  | .lst l => (oks l).map fun p => (p.1 + 1, l.length * (p.2 + 1))
def oks : List Tm → Option (Nat × Nat)
  | [] => some (0, 0)
  | t :: l => match t.ok, oks l with
    | some p, some q => some (max p.1 q.1, max p.2 q.2)
    | _, _ => none
end
theorem evs_len (own : Int) : ∀ l, (evs own l).length = l.length
  | [] => rfl
  | t :: l => by rw [evs, List.length_cons, List.length_cons, evs_len]
mutual
theorem Tm.dk {own : Int} (h0 : 0 ≤ own) (h1 : own < 1000000000) : ∀ {t : Tm} {k B : Nat}, t.ok = some (k, B) → Dk k B (t.ev own)
  | .own, k, B, e => by
    cases e
    exact aD_ok (x := .int own) (by show decide (own.natAbs < _) = true; exact decide_eq_true (by omega))
  | .non, k, B, e => by cases e; exact aD_ok (x := .non) rfl
  | .int i, k, B, e => by
    unfold Tm.ok at e
    split at e
    · rename_i c; cases e; exact aD_ok c
    · cases e
  | .str s, k, B, e => by
    unfold Tm.ok at e
    split at e
    · rename_i c; cases e; exact aD_ok c
    · cases e
  | .tup l, k, B, e => by
    unfold Tm.ok at e
    cases q : oks l with
    | none => rw [q] at e; cases e
    | some p =>
      rw [q] at e
      cases e
      exact Dk.tuple (oks_dk h0 h1 q) (Nat.le_of_eq (evs_len own l))
  | .lst l, k, B, e => by
    unfold Tm.ok at e
    cases q : oks l with
    | none => rw [q] at e; cases e
    | some p =>
      rw [q] at e
      cases e
      exact Dk.list (oks_dk h0 h1 q) (Nat.le_of_eq (evs_len own l))
theorem oks_dk {own : Int} (h0 : 0 ≤ own) (h1 : own < 1000000000) : ∀ {l : List Tm} {p : Nat × Nat}, oks l = some p → ∀ d ∈ evs own l, Dk p.1 p.2 d
  | [], p, e, d, hd => by cases hd
  | t :: l, p, e, d, hd => by
    unfold oks at e
    cases a : t.ok with
    | none => rw [a] at e; cases e
    | some x =>
      cases b : oks l with
      | none => rw [a, b] at e; cases e
      | some y =>
        rw [a, b] at e
        cases e
        rcases List.mem_cons.mp hd with rfl | hd
        · exact (Tm.dk h0 h1 a).le (Nat.le_max_left ..) (Nat.le_max_left ..)
        · exact (oks_dk h0 h1 b d hd).le (Nat.le_max_right ..) (Nat.le_max_right ..)
end
def dbl (own : Int) : List Tm → List (Option PyData)
  | [] => []
  | t :: l => some (t.ev own) :: some (t.ev own) :: dbl own l
def Tm.fine (t : Tm) : Bool := match t.ok with
  | some (k, B) => decide (k ≤ 60) && decide (B ≤ 262144)
  | none => false
theorem good_dbl {own : Int} (h0 : 0 ≤ own) (h1 : own < 1000000000) : ∀ {l : List Tm}, (l.all Tm.fine) = true → Good (dbl own l)
  | [], _ => trivial
  | t :: l, h => by
    rw [List.all_cons, Bool.and_eq_true] at h
    refine ⟨?_, good_dbl h0 h1 h.2⟩
    have q := h.1
    unfold Tm.fine at q
    cases e : t.ok with
    | none => rw [e] at q; cases q
    | some p =>
      obtain ⟨k, B⟩ := p
      rw [e] at q
      dsimp only at q
      rw [Bool.and_eq_true] at q
      exact ⟨_, k, B, rfl, rfl, Tm.dk h0 h1 e, of_decide_eq_true q.1, of_decide_eq_true q.2⟩
def endM (q : Option (ML × MH) × List (Option PyData)) : ML := match q.1 with
  | some (m, _) => m
  | none => []
def endH (q : Option (ML × MH) × List (Option PyData)) : MH := match q.1 with
  | some (_, h) => h
  | none => .empty
theorem end_eq {q : Option (ML × MH) × List (Option PyData)} (h : q.1.isSome = true) : q.1 = some (endM q, endH q) := by
  unfold endM endH
  cases k : q.1 with
  | none => rw [k] at h; cases h
  | some p => rfl
def small0 : MS := gPar 3 2 (gCons (gMake 4 m_Disk___init [] 2 (gCons (gC (.int 12)) (gNil))) (gCons (gMake 0 m_Memory___init [.ktp []] 2 gNil) (gNil)))
def small1 : MS := gExpr (gCall m_make_store [] 4 (gCons (gVar 3) (gCons (gC (.int 2)) (gCons (gC (.int 12)) (gCons (gTup (gCons (gVar 0) (gNil))) (gNil))))))
def small2 : MS := gAsg (gMake 3 m_Store___init [] 4 (gCons (gVar 3) (gCons (gC (.int 2)) (gCons (gC (.int 12)) (gNil))))) (tgName 4)
def small3 : MS := gAsg (gLst (gCons (gCall m_law_shot [] 3 (gCons (gVar 4) (gCons (gVar 2) (gCons (gLst (gCons (gTup (gCons (gC (.int 3)) (gCons (gVar 0) (gNil)))) (gNil))) (gNil))))) (gCons (gSl (gMeth 4 1953625074504987153107255401 m_Disk_image [] 1 (gVar 3) gNil) (gPn) (gPs (gC (.int 4)))) (gCons (gMeth 3 931561019925269053542 m_Store_free [] 1 (gVar 4) gNil) (gNil))))) (tgName 5)
def small4 : MS := gAsg (gTup (gCons (gTup (gCons (gC (.str [114, 111, 111, 116])) (gCons (gC (.int 0)) (gCons (gC .non) (gCons (gC (.int 0)) (gCons (gC (.int 0)) (gCons (gVar 0) (gNil)))))))) (gCons (gTup (gCons (gC (.str [114, 111, 111, 116])) (gCons (gC (.int 1)) (gCons (gC (.int 2)) (gCons (gC (.int 0)) (gCons (gC (.int 1)) (gCons (gC (.str [102])) (gCons (gC (.int 1)) (gNil))))))))) (gCons (gTup (gCons (gC .non) (gCons (gC .non) (gCons (gC .non) (gCons (gVar 0) (gNil)))))) (gCons (gTup (gNil)) (gNil)))))) (tgName 1)
def small5 : MS := gAsg (gLst (gCons (gC (.int 1)) (gCons (gVar 1) (gCons (gLrg2 (gC (.int 3)) (gC (.int 12))) (gNil))))) (tgName 1)
def small7 : MS := gAsg (gLst (gCons (gCall m_law_shot [] 3 (gCons (gVar 4) (gCons (gVar 2) (gCons (gLst (gCons (gTup (gCons (gC (.int 8)) (gCons (gC (.str [98])) (gNil)))) (gCons (gTup (gCons (gC (.int 15)) (gCons (gVar 0) (gNil)))) (gNil)))) (gNil))))) (gCons (gSl (gMeth 4 1953625074504987153107255401 m_Disk_image [] 1 (gVar 3) gNil) (gPn) (gPs (gC (.int 6)))) (gCons (gMeth 3 931561019925269053542 m_Store_free [] 1 (gVar 4) gNil) (gNil))))) (tgName 5)
def small8 : MS := gAsg (gLst (gCons (gTup (gCons (gC (.str [114, 111, 111, 116])) (gCons (gC (.int 2)) (gCons (gC (.int 4)) (gCons (gC (.int 1)) (gCons (gC (.int 2)) (gCons (gC (.str [102])) (gCons (gC (.int 2)) (gNil))))))))) (gCons (gTup (gCons (gC (.str [114, 111, 111, 116])) (gCons (gC (.int 1)) (gCons (gC (.int 2)) (gCons (gC (.int 0)) (gCons (gC (.int 1)) (gCons (gC (.str [102])) (gCons (gC (.int 1)) (gNil))))))))) (gCons (gTup (gCons (gC .non) (gCons (gC .non) (gCons (gC .non) (gCons (gVar 0) (gNil)))))) (gNil))))) (tgName 1)
def small9 : MS := gAsg (gLst (gCons (gC (.int 2)) (gCons (gCB (f1 mTuple) (gCons (gBin mAdd (gVar 1) (gLst (gCons (gTup (gCons (gC (.str [98])) (gCons (gC .non) (gCons (gC .non) (gCons (gC .non) (gCons (gC .non) (gCons (gC .non) (gCons (gC .non) (gCons (gVar 0) (gNil)))))))))) (gCons (gTup (gCons (gC (.int 2)) (gCons (gC (.int 3)) (gNil)))) (gCons (gTup (gNil)) (gNil)))))) (gNil))) (gCons (gLrg2 (gC (.int 5)) (gC (.int 12))) (gNil))))) (tgName 1)
def small11 : MS := gAsg (gLst (gCons (gCall m_law_shot [] 3 (gCons (gVar 4) (gCons (gVar 2) (gCons (gLst (gCons (gTup (gCons (gC (.int 8)) (gCons (gC .non) (gNil)))) (gCons (gTup (gCons (gC (.int 15)) (gCons (gC .non) (gNil)))) (gNil)))) (gNil))))) (gCons (gSl (gMeth 4 1953625074504987153107255401 m_Disk_image [] 1 (gVar 3) gNil) (gPn) (gPs (gC (.int 6)))) (gCons (gMeth 3 931561019925269053542 m_Store_free [] 1 (gVar 4) gNil) (gNil))))) (tgName 5)
def small12 : MS := gAsg (gLst (gCons (gC (.int 3)) (gCons (gBin mAdd (gBin mAdd (gSl (gBin mIx (gVar 1) (gC (.int 1))) (gPn) (gPs (gC (.int 1)))) (gTup (gCons (gTup (gCons (gC (.str [114, 111, 111, 116])) (gCons (gC (.int 3)) (gCons (gC (.int 2)) (gCons (gC (.int 0)) (gCons (gC (.int 1)) (gCons (gC (.str [102])) (gCons (gC (.int 2)) (gNil))))))))) (gNil)))) (gSl (gBin mIx (gVar 1) (gC (.int 1))) (gPs (gC (.int 2))) (gPn))) (gCons (gLrg2 (gC (.int 3)) (gC (.int 12))) (gNil))))) (tgName 1)
def small14 : MS := gAsg (gLst (gCons (gCall m_law_shot [] 3 (gCons (gVar 4) (gCons (gVar 2) (gCons (gLst (gCons (gTup (gCons (gC (.int 3)) (gCons (gC .non) (gNil)))) (gNil))) (gNil))))) (gCons (gMeth 4 922337630296200970354 m_Disk_read [] 2 (gVar 3) (gCons (gC (.int 0)) (gNil))) (gCons (gMeth 3 931561019925269053542 m_Store_free [] 1 (gVar 4) gNil) (gCons (gMeth 3 931561028721326424176 m_Store_page [] 2 (gVar 4) (gCons (gC (.int 0)) (gNil))) (gCons (gMeth 3 1116028500244747518061 m_Store_many [] 1 (gVar 4) gNil) (gCons (gMeth 4 4664956162465078606366684397699191 m_Disk_writes [] 1 (gVar 3) gNil) (gNil)))))))) (tgName 5)
def wide0 : MS := gPar 4 2 (gCons (gMake 4 m_Disk___init [] 2 (gCons (gC (.int 30)) (gNil))) (gCons (gMake 0 m_Memory___init [.ktp []] 2 gNil) (gNil)))
def wide1 : MS := gExpr (gCall m_make_store [] 4 (gCons (gVar 4) (gCons (gC (.int 4)) (gCons (gC (.int 30)) (gCons (gTup (gNil)) (gNil))))))
def wide2 : MS := gAsg (gMake 3 m_Store___init [] 4 (gCons (gVar 4) (gCons (gC (.int 4)) (gCons (gC (.int 30)) (gNil))))) (tgName 5)
def wide3 : MS := gAsg (gLst (gCons (gCall m_law_shot [] 3 (gCons (gVar 5) (gCons (gVar 2) (gCons (gLst (gCons (gTup (gCons (gC (.int 0)) (gCons (gC (.int 1)) (gNil)))) (gCons (gTup (gCons (gC (.int 8)) (gCons (gC (.int 2)) (gNil)))) (gCons (gTup (gCons (gC (.int 24)) (gCons (gVar 0) (gNil)))) (gCons (gTup (gCons (gC (.int 32)) (gCons (gC (.str [120])) (gNil)))) (gNil)))))) (gNil))))) (gCons (gSl (gMeth 4 1953625074504987153107255401 m_Disk_image [] 1 (gVar 4) gNil) (gPs (gC (.int 4))) (gPs (gC (.int 12)))) (gCons (gMeth 4 922337630296200970354 m_Disk_read [] 2 (gVar 4) (gCons (gC (.int 1)) (gNil))) (gNil))))) (tgName 6)
def wide4 : MS := gAsg (gLst (gCons (gC (.int 1)) (gCons (gTup (gCons (gTup (gCons (gC (.int 1)) (gNil))) (gCons (gTup (gCons (gC (.int 2)) (gNil))) (gCons (gTup (gCons (gVar 0) (gNil))) (gCons (gTup (gCons (gC (.str [120])) (gNil))) (gCons (gTup (gCons (gC (.int 4)) (gCons (gC (.int 5)) (gCons (gC .non) (gCons (gC (.int 6)) (gNil)))))) (gCons (gTup (gCons (gC (.int 7)) (gNil))) (gCons (gTup (gCons (gC (.int 8)) (gCons (gC (.int 9)) (gNil)))) (gCons (gTup (gNil)) (gNil)))))))))) (gCons (gTup (gCons (gC (.str [114, 111, 111, 116])) (gCons (gC (.int 1)) (gCons (gC (.int 10)) (gCons (gC (.int 2)) (gCons (gC (.int 5)) (gCons (gC (.str [102])) (gCons (gC (.int 4)) (gNil))))))))) (gNil))))) (tgName 1)
def wide6 : MS := gAsg (gLst (gCons (gCall m_law_shot [] 3 (gCons (gVar 5) (gCons (gVar 2) (gCons (gLst (gCons (gTup (gCons (gC (.int 9)) (gCons (gVar 0) (gNil)))) (gNil))) (gNil))))) (gCons (gSl (gMeth 4 1953625074504987153107255401 m_Disk_image [] 1 (gVar 4) gNil) (gPs (gC (.int 4))) (gPs (gC (.int 15)))) (gCons (gMeth 4 922337630296200970354 m_Disk_read [] 2 (gVar 4) (gCons (gC (.int 0)) (gNil))) (gCons (gSl (gMeth 3 931561019925269053542 m_Store_free [] 1 (gVar 5) gNil) (gPn) (gPs (gC (.int 3)))) (gNil)))))) (tgName 6)
def wide7 : MS := gAsg (gTup (gCons (gTup (gCons (gC (.int 1)) (gNil))) (gCons (gTup (gCons (gC (.int 2)) (gNil))) (gCons (gTup (gCons (gVar 0) (gNil))) (gCons (gTup (gCons (gC (.str [120])) (gNil))) (gCons (gTup (gCons (gC (.int 4)) (gCons (gC (.int 5)) (gCons (gC .non) (gCons (gC (.int 6)) (gNil)))))) (gCons (gTup (gCons (gC (.int 7)) (gNil))) (gCons (gTup (gCons (gC (.int 8)) (gCons (gC (.int 9)) (gNil)))) (gCons (gTup (gCons (gC (.int 2)) (gCons (gVar 0) (gNil)))) (gCons (gTup (gCons (gC (.int 4)) (gCons (gC (.int 11)) (gCons (gC .non) (gCons (gC (.int 6)) (gNil)))))) (gCons (gTup (gCons (gC (.int 12)) (gCons (gC (.int 9)) (gNil)))) (gCons (gTup (gNil)) (gNil))))))))))))) (tgName 1)
def wide9 : MS := gAsg (gLst (gCons (gCall m_law_shot [] 3 (gCons (gVar 5) (gCons (gVar 2) (gCons (gLst (gCons (gTup (gCons (gC (.int 32)) (gCons (gC .non) (gNil)))) (gNil))) (gNil))))) (gCons (gMeth 4 922337630296200970354 m_Disk_read [] 2 (gVar 4) (gCons (gC (.int 1)) (gNil))) (gCons (gMeth 4 4664956162465078606366684397699191 m_Disk_writes [] 1 (gVar 4) gNil) (gCons (gSl (gMeth 3 931561019925269053542 m_Store_free [] 1 (gVar 5) gNil) (gPn) (gPs (gC (.int 6)))) (gNil)))))) (tgName 6)
def wide11 : MS := gAsg (gLst (gCons (gCall m_law_shot [] 3 (gCons (gVar 5) (gCons (gVar 2) (gCons (gLst (gCons (gTup (gCons (gC (.int 0)) (gCons (gC .non) (gNil)))) (gCons (gTup (gCons (gC (.int 8)) (gCons (gC .non) (gNil)))) (gCons (gTup (gCons (gC (.int 9)) (gCons (gC .non) (gNil)))) (gCons (gTup (gCons (gC (.int 24)) (gCons (gC .non) (gNil)))) (gCons (gTup (gCons (gC (.int 39)) (gCons (gVar 0) (gNil)))) (gNil))))))) (gNil))))) (gCons (gMeth 4 922337630296200970354 m_Disk_read [] 2 (gVar 4) (gCons (gC (.int 0)) (gNil))) (gNil)))) (tgName 6)
def wide12 : MS := gAsg (gBin mAdd (gVar 6) (gLst (gCons (gMeth 4 922337630296200970354 m_Disk_read [] 2 (gVar 4) (gCons (gC (.int 5)) (gNil))) (gCons (gMeth 4 922337630296200970354 m_Disk_read [] 2 (gVar 4) (gCons (gC (.int 7)) (gNil))) (gCons (gMeth 4 922337630296200970354 m_Disk_read [] 2 (gVar 4) (gCons (gC (.int 8)) (gNil))) (gCons (gSl (gMeth 3 931561019925269053542 m_Store_free [] 1 (gVar 5) gNil) (gPn) (gPs (gC (.int 4)))) (gCons (gLc (gRng1 (gC (.int 5))) (.one 7) (gYes) (gMeth 3 931561028721326424176 m_Store_page [] 2 (gVar 5) (gCons (gVar 7) (gNil))) [7]) (gNil)))))))) (tgName 6)
def wide13 : MS := gAsg (gBin mAdd (gBin mMulA (gTup (gCons (gC .non) (gNil))) (gC (.int 7))) (gTup (gCons (gVar 0) (gNil)))) (tgName 3)
def wide14 : MS := gAsg (gLst (gCons (gC (.int 4)) (gCons (gTup (gCons (gC (.str [114, 111, 111, 116])) (gCons (gC (.int 4)) (gCons (gC (.int 8)) (gCons (gC (.int 2)) (gCons (gC (.int 5)) (gCons (gC (.str [102])) (gCons (gC (.int 5)) (gNil))))))))) (gCons (gVar 3) (gCons (gTup (gCons (gC (.int 5)) (gNil))) (gCons (gTup (gCons (gC .non) (gCons (gC (.int 7)) (gNil)))) (gCons (gLst (gCons (gC (.int 4)) (gCons (gC (.int 6)) (gCons (gC (.int 9)) (gCons (gC (.int 10)) (gNil)))))) (gCons (gLst (gCons (gTup (gNil)) (gCons (gTup (gNil)) (gCons (gTup (gNil)) (gCons (gTup (gNil)) (gCons (gVar 3) (gNil))))))) (gNil))))))))) (tgName 1)
def lost0 : MS := gPar 5 3 (gCons (gMake 4 m_Disk___init [] 2 (gCons (gC (.int 12)) (gNil))) (gCons (gMake 0 m_Memory___init [.ktp []] 2 gNil) (gNil)))
def lost1 : MS := gExpr (gCall m_make_store [] 4 (gCons (gVar 5) (gCons (gC (.int 2)) (gCons (gC (.int 12)) (gCons (gTup (gNil)) (gNil))))))
def lost2 : MS := gAsg (gMake 3 m_Store___init [] 4 (gCons (gVar 5) (gCons (gC (.int 2)) (gCons (gC (.int 12)) (gNil))))) (tgName 6)
def lost3 : MS := gExpr (gCall m_law_shot [] 3 (gCons (gVar 6) (gCons (gVar 3) (gCons (gLst (gCons (gTup (gCons (gC (.int 0)) (gCons (gVar 0) (gNil)))) (gCons (gTup (gCons (gC (.int 8)) (gCons (gVar 0) (gNil)))) (gNil)))) (gNil)))))
def lost4 : MS := gFor (gIter (gTup (gCons (gC (.bl false)) (gCons (gC (.bl true)) (gNil))))) (tgName 4) (gSeq (gExpr (gMeth 4 89448737517867230812707293064732857783211392600279667966054 m_Disk_fail_after [] 2 (gVar 5) (gCons (gC (.int 4)) (gNil)))) (gSeq (gAsg (gC .non) (tgName 1)) (gSeq (gTryK (List.lookup · [(11, false), (5, false), (9, true), (8, true), (6, true), (7, true), (10, true)]) 8 (gCall m_law_shot [] 3 (gCons (gVar 6) (gCons (gVar 3) (gCons (gLst (gCons (gTup (gCons (gC (.int 0)) (gCons (gC (.str [110, 101, 119])) (gNil)))) (gNil))) (gNil))))) (gAsg (gVar 8) (tgName 1))) (gSeq (gIfS (gOr (gNot (gTru (gUn (mIsE (List.lookup · [(11, false), (5, false), (9, false), (8, false), (6, true), (7, false), (10, false)])) (gVar 1)))) (gB (gBin mNeX (gCB (f1 mLenV) (gCons (gMeth 4 1953625185185513168019914860 m_Disk_loose [] 1 (gVar 5) gNil) (gNil))) (gC (.int 1))))) (gRet (gC (.bl false))) (gNext)) (gSeq (gExpr (gMeth 4 2011653624526953795760947299 m_Disk_crash [] 2 (gVar 5) (gCons (gIf (gTru (gVar 4)) (gLst (gCons (gC (.int 0)) (gNil))) (gLst (gNil))) (gNil)))) (gSeq (gPar 6 3 (gCons (gMake 3 m_Store___init [] 4 (gCons (gVar 5) (gCons (gC (.int 2)) (gCons (gC (.int 12)) (gNil))))) (gCons (gMake 0 m_Memory___init [] 2 (gCons (gTup (gCons (gTup (gCons (gVar 0) (gNil))) (gCons (gTup (gCons (gVar 0) (gNil))) (gNil)))) (gNil))) (gNil)))) (gSeq (gAsg (gLst (gCons (gMeth 3 4705521252471627190372533836709998 m_Store_newest [] 1 (gVar 6) gNil) (gCons (gMeth 3 931561028721326424176 m_Store_page [] 2 (gVar 6) (gCons (gC (.int 0)) (gNil))) (gCons (gMeth 3 931561028721326424176 m_Store_page [] 2 (gVar 6) (gCons (gC (.int 1)) (gNil))) (gCons (gMeth 3 931561019925269053542 m_Store_free [] 1 (gVar 6) gNil) (gNil)))))) (tgName 7)) (gSeq (gAsg (gIf (gTru (gVar 4)) (gLst (gCons (gC (.int 2)) (gCons (gTup (gCons (gC (.str [110, 101, 119])) (gNil))) (gCons (gTup (gCons (gVar 0) (gNil))) (gCons (gLst (gCons (gC (.int 2)) (gCons (gC (.int 4)) (gCons (gC (.int 7)) (gCons (gC (.int 8)) (gCons (gC (.int 9)) (gCons (gC (.int 10)) (gCons (gC (.int 11)) (gNil))))))))) (gNil)))))) (gLst (gCons (gC (.int 1)) (gCons (gTup (gCons (gVar 0) (gNil))) (gCons (gTup (gCons (gVar 0) (gNil))) (gCons (gLst (gCons (gC (.int 5)) (gCons (gC (.int 6)) (gCons (gC (.int 7)) (gCons (gC (.int 8)) (gCons (gC (.int 9)) (gCons (gC (.int 10)) (gCons (gC (.int 11)) (gNil))))))))) (gNil))))))) (tgName 2)) (gIfS (gNot (gTru (gCall m_law_same [] 2 (gCons (gVar 7) (gCons (gVar 2) (gNil)))))) (gRet (gC (.bl false))) (gNext))))))))))
def lost5 : MS := gRet (gC (.bl true))
def lb0 : MS := gExpr (gMeth 4 89448737517867230812707293064732857783211392600279667966054 m_Disk_fail_after [] 2 (gVar 5) (gCons (gC (.int 4)) (gNil)))
def lb1 : MS := gAsg (gC .non) (tgName 1)
def lb2 : MS := gTryK (List.lookup · [(11, false), (5, false), (9, true), (8, true), (6, true), (7, true), (10, true)]) 8 (gCall m_law_shot [] 3 (gCons (gVar 6) (gCons (gVar 3) (gCons (gLst (gCons (gTup (gCons (gC (.int 0)) (gCons (gC (.str [110, 101, 119])) (gNil)))) (gNil))) (gNil))))) (gAsg (gVar 8) (tgName 1))
def lb3 : MS := gIfS (gOr (gNot (gTru (gUn (mIsE (List.lookup · [(11, false), (5, false), (9, false), (8, false), (6, true), (7, false), (10, false)])) (gVar 1)))) (gB (gBin mNeX (gCB (f1 mLenV) (gCons (gMeth 4 1953625185185513168019914860 m_Disk_loose [] 1 (gVar 5) gNil) (gNil))) (gC (.int 1))))) (gRet (gC (.bl false))) (gNext)
def lb4 : MS := gExpr (gMeth 4 2011653624526953795760947299 m_Disk_crash [] 2 (gVar 5) (gCons (gIf (gTru (gVar 4)) (gLst (gCons (gC (.int 0)) (gNil))) (gLst (gNil))) (gNil)))
def lb5 : MS := gPar 6 3 (gCons (gMake 3 m_Store___init [] 4 (gCons (gVar 5) (gCons (gC (.int 2)) (gCons (gC (.int 12)) (gNil))))) (gCons (gMake 0 m_Memory___init [] 2 (gCons (gTup (gCons (gTup (gCons (gVar 0) (gNil))) (gCons (gTup (gCons (gVar 0) (gNil))) (gNil)))) (gNil))) (gNil)))
def lb6 : MS := gAsg (gLst (gCons (gMeth 3 4705521252471627190372533836709998 m_Store_newest [] 1 (gVar 6) gNil) (gCons (gMeth 3 931561028721326424176 m_Store_page [] 2 (gVar 6) (gCons (gC (.int 0)) (gNil))) (gCons (gMeth 3 931561028721326424176 m_Store_page [] 2 (gVar 6) (gCons (gC (.int 1)) (gNil))) (gCons (gMeth 3 931561019925269053542 m_Store_free [] 1 (gVar 6) gNil) (gNil)))))) (tgName 7)
def lb7 : MS := gAsg (gIf (gTru (gVar 4)) (gLst (gCons (gC (.int 2)) (gCons (gTup (gCons (gC (.str [110, 101, 119])) (gNil))) (gCons (gTup (gCons (gVar 0) (gNil))) (gCons (gLst (gCons (gC (.int 2)) (gCons (gC (.int 4)) (gCons (gC (.int 7)) (gCons (gC (.int 8)) (gCons (gC (.int 9)) (gCons (gC (.int 10)) (gCons (gC (.int 11)) (gNil))))))))) (gNil)))))) (gLst (gCons (gC (.int 1)) (gCons (gTup (gCons (gVar 0) (gNil))) (gCons (gTup (gCons (gVar 0) (gNil))) (gCons (gLst (gCons (gC (.int 5)) (gCons (gC (.int 6)) (gCons (gC (.int 7)) (gCons (gC (.int 8)) (gCons (gC (.int 9)) (gCons (gC (.int 10)) (gCons (gC (.int 11)) (gNil))))))))) (gNil))))))) (tgName 2)
def lb8 : MS := gIfS (gNot (gTru (gCall m_law_same [] 2 (gCons (gVar 7) (gCons (gVar 2) (gNil)))))) (gRet (gC (.bl false))) (gNext)
def blb : MS := gSeq lb0 (gSeq lb1 (gSeq lb2 (gSeq lb3 (gSeq lb4 (gSeq lb5 (gSeq lb6 (gSeq lb7 (lb8))))))))
theorem t_lost4 : lost4 = gFor (gIter (gTup (gCons (gC (.bl false)) (gCons (gC (.bl true)) (gNil))))) (tgName 4) blb := rfl
def smallI : List Itm := [.st small0, .st small1, .st small2, .st small3, .st small4, .st small5, .sm (gCons (gVar 5) (gCons (gVar 1) (gNil))), .st small7, .st small8, .st small9, .sm (gCons (gVar 5) (gCons (gVar 1) (gNil))), .st small11, .st small12, .sm (gCons (gVar 5) (gCons (gVar 1) (gNil))), .st small14]
def smallA : MA := gCons (gVar 5) (gCons (gLst (gCons (gC (.int 4)) (gCons (gTup (gCons (gC (.str [114, 111, 111, 116])) (gCons (gC (.int 4)) (gCons (gC .non) (gCons (gC (.int 0)) (gCons (gC (.int 0)) (gCons (gC (.str [102])) (gCons (gC (.int 1)) (gNil))))))))) (gCons (gLrg2 (gC (.int 2)) (gC (.int 12))) (gCons (gTup (gNil)) (gCons (gC (.int 0)) (gCons (gC (.int 8)) (gNil)))))))) (gNil))
theorem c_small : m_law_small_right = gBody 6 (seqs smallI (gRet (gCall m_law_same [] 2 smallA))) := rfl
def wideI : List Itm := [.st wide0, .st wide1, .st wide2, .st wide3, .st wide4, .sm (gCons (gVar 6) (gCons (gVar 1) (gNil))), .st wide6, .st wide7, .sm (gCons (gVar 6) (gCons (gLst (gCons (gC (.int 2)) (gCons (gVar 1) (gCons (gTup (gCons (gC (.str [114, 111, 111, 116])) (gCons (gC (.int 2)) (gCons (gC (.int 13)) (gCons (gC (.int 2)) (gCons (gC (.int 5)) (gCons (gC (.str [102])) (gCons (gC (.int 1)) (gNil))))))))) (gCons (gLst (gCons (gC (.int 5)) (gCons (gC (.int 8)) (gCons (gC (.int 10)) (gNil))))) (gNil)))))) (gNil))), .st wide9, .sm (gCons (gVar 6) (gCons (gLst (gCons (gC (.int 3)) (gCons (gTup (gCons (gC (.str [114, 111, 111, 116])) (gCons (gC (.int 3)) (gCons (gC (.int 12)) (gCons (gC (.int 1)) (gCons (gC (.int 4)) (gCons (gC (.str [102])) (gCons (gC (.int 1)) (gNil))))))))) (gCons (gC (.int 14)) (gCons (gLst (gCons (gC (.int 5)) (gCons (gC (.int 7)) (gCons (gC (.int 8)) (gCons (gC (.int 9)) (gCons (gC (.int 10)) (gCons (gC (.int 13)) (gNil)))))))) (gNil)))))) (gNil))), .st wide11, .st wide12, .st wide13, .st wide14]
def wideA : MA := gCons (gVar 6) (gCons (gVar 1) (gNil))
theorem c_wide : m_law_wide_right = gBody 8 (seqs wideI (gRet (gCall m_law_same [] 2 wideA))) := rfl
def lostI : List Itm := [.st lost0, .st lost1, .st lost2, .st lost3]
def lbI : List Itm := [.st lb0, .st lb1, .st lb2, .st lb3, .st lb4, .st lb5, .st lb6, .st lb7]
def lbA : MA := gCons (gVar 7) (gCons (gVar 2) (gNil))
theorem c_lost : m_law_lost_right = gBody 9 (seqs lostI (gSeq lost4 lost5)) := rfl
theorem c_lb : blb = seqs lbI (smI lbA) := rfl
end K57
set_option Elab.async false
set_option linter.all false
set_option maxRecDepth 1000000
set_option maxHeartbeats 0
namespace K57
open MI XG XM PySem
def tS : List Tm := [.lst [.int (1), .tup [.tup [.str [114, 111, 111, 116], .int (0), .non, .int (0), .int (0), .own], .tup [.str [114, 111, 111, 116], .int (1), .int (2), .int (0), .int (1), .str [102], .int (1)], .tup [.non, .non, .non, .own], .tup []], .lst [.int (3), .int (4), .int (5), .int (6), .int (7), .int (8), .int (9), .int (10), .int (11)]], .lst [.int (2), .tup [.tup [.str [114, 111, 111, 116], .int (2), .int (4), .int (1), .int (2), .str [102], .int (2)], .tup [.str [114, 111, 111, 116], .int (1), .int (2), .int (0), .int (1), .str [102], .int (1)], .tup [.non, .non, .non, .own], .tup [.str [98], .non, .non, .non, .non, .non, .non, .own], .tup [.int (2), .int (3)], .tup []], .lst [.int (5), .int (6), .int (7), .int (8), .int (9), .int (10), .int (11)]], .lst [.int (3), .tup [.tup [.str [114, 111, 111, 116], .int (2), .int (4), .int (1), .int (2), .str [102], .int (2)], .tup [.str [114, 111, 111, 116], .int (3), .int (2), .int (0), .int (1), .str [102], .int (2)], .tup [.non, .non, .non, .own], .tup [.str [98], .non, .non, .non, .non, .non, .non, .own], .tup [.int (2), .int (3)], .tup []], .lst [.int (3), .int (4), .int (5), .int (6), .int (7), .int (8), .int (9), .int (10), .int (11)]], .lst [.int (4), .tup [.str [114, 111, 111, 116], .int (4), .non, .int (0), .int (0), .str [102], .int (1)], .lst [.int (2), .int (3), .int (4), .int (5), .int (6), .int (7), .int (8), .int (9), .int (10), .int (11)], .tup [], .int (0), .int (8)]]
theorem fS : (tS.all Tm.fine) = true := by decide +kernel
def tW : List Tm := [.lst [.int (1), .tup [.tup [.int (1)], .tup [.int (2)], .tup [.own], .tup [.str [120]], .tup [.int (4), .int (5), .non, .int (6)], .tup [.int (7)], .tup [.int (8), .int (9)], .tup []], .tup [.str [114, 111, 111, 116], .int (1), .int (10), .int (2), .int (5), .str [102], .int (4)]], .lst [.int (2), .tup [.tup [.int (1)], .tup [.int (2)], .tup [.own], .tup [.str [120]], .tup [.int (4), .int (5), .non, .int (6)], .tup [.int (7)], .tup [.int (8), .int (9)], .tup [.int (2), .own], .tup [.int (4), .int (11), .non, .int (6)], .tup [.int (12), .int (9)], .tup []], .tup [.str [114, 111, 111, 116], .int (2), .int (13), .int (2), .int (5), .str [102], .int (1)], .lst [.int (5), .int (8), .int (10)]], .lst [.int (3), .tup [.str [114, 111, 111, 116], .int (3), .int (12), .int (1), .int (4), .str [102], .int (1)], .int (14), .lst [.int (5), .int (7), .int (8), .int (9), .int (10), .int (13)]], .lst [.int (4), .tup [.str [114, 111, 111, 116], .int (4), .int (8), .int (2), .int (5), .str [102], .int (5)], .tup [.non, .non, .non, .non, .non, .non, .non, .own], .tup [.int (5)], .tup [.non, .int (7)], .lst [.int (4), .int (6), .int (9), .int (10)], .lst [.tup [], .tup [], .tup [], .tup [], .tup [.non, .non, .non, .non, .non, .non, .non, .own]]]]
theorem fW : (tW.all Tm.fine) = true := by decide +kernel
def tA : List Tm := [.lst [.int (1), .tup [.own], .tup [.own], .lst [.int (5), .int (6), .int (7), .int (8), .int (9), .int (10), .int (11)]]]
theorem fA : (tA.all Tm.fine) = true := by decide +kernel
def tB : List Tm := [.lst [.int (2), .tup [.str [110, 101, 119]], .tup [.own], .lst [.int (2), .int (4), .int (7), .int (8), .int (9), .int (10), .int (11)]]]
theorem fB : (tB.all Tm.fine) = true := by decide +kernel
structure Pr where
  (x y a s e own : Int)
def BX (h : MH) (p : Pr) : MH := (h.push (.lst [.int p.x, .int p.y, .int 0])).set h.n (.lst [.int p.a, .int p.s, .int p.e])
def qS (o : Int) (h : MH) := sim (smallI ++ [.sm smallA]) [some (.int o), none, none, none, none, none] h
def qW (o : Int) (h : MH) := sim (wideI ++ [.sm wideA]) [some (.int o), none, none, none, none, none, none, none] h
def qL (o : Int) (h : MH) := sim lostI [some (.int o), none, none, none, none, none, none, none, none] h
def qA (o : Int) (h : MH) := sim (lbI ++ [.sm lbA]) ((endM (qL o h)).set 4 (some (.bl false))) (endH (qL o h))
def qB (o : Int) (h : MH) := sim (lbI ++ [.sm lbA]) ((endM (qA o h)).set 4 (some (.bl true))) (endH (qA o h))
def h1 (p : Pr) (h : MH) : MH := endH (qS p.own (BX h p))
def h2 (p : Pr) (h : MH) : MH := endH (qW p.own (h1 p h))
def TE (p : Pr) (h : MH) : MH := endH (qB p.own (h2 p h))
def okB {α β : Type} (q : Option α × β) : Bool := q.1.isSome
def Chk (L : List MV) (p : Pr) (h : MH) : Prop :=
  (okB (qS p.own (BX h p)) && (okB (qW p.own (h1 p h)) && (okB (qL p.own (h2 p h)) && (okB (qA p.own (h2 p h)) && okB (qB p.own (h2 p h))))), (qS p.own (BX h p)).2, (qW p.own (h1 p h)).2, (qL p.own (h2 p h)).2, (qA p.own (h2 p h)).2, (qB p.own (h2 p h)).2, (TE p h).get 3)
    = (true, dbl p.own tS, dbl p.own tW, [], dbl p.own tA, dbl p.own tB, some (.lst L))
def H0 (A L : List MV) : MH := (((MH.empty.push (.lst A)).push (.lst A)).push (.lst [.int 0])).push (.lst L)
theorem chk0 (A L : List MV) (p : Pr) : Chk L p (H0 A L) := by unfold Chk; kernel_rfl
end K57
set_option Elab.async false
set_option linter.all false
set_option maxRecDepth 1000000
set_option maxHeartbeats 0
namespace K57
open MI XG XM PySem
theorem chk1 (A L : List MV) (p p1 : Pr) : Chk L p (TE p1 (H0 A L)) := by unfold Chk; kernel_rfl
end K57
set_option Elab.async false
set_option linter.all false
set_option maxRecDepth 1000000
set_option maxHeartbeats 0
namespace K57
open MI XG XM PySem
theorem chk2 (A L : List MV) (p p1 p2 : Pr) : Chk L p (TE p2 (TE p1 (H0 A L))) := by unfold Chk; kernel_rfl
end K57
set_option Elab.async false
set_option linter.all false
set_option maxRecDepth 1000000
set_option maxHeartbeats 0
namespace K57
open MI XG XM PySem
theorem chk3 (A L : List MV) (p p1 p2 p3 : Pr) : Chk L p (TE p3 (TE p2 (TE p1 (H0 A L)))) := by unfold Chk; kernel_rfl
end K57
set_option Elab.async false
set_option linter.all false
set_option maxRecDepth 100000
set_option maxHeartbeats 400000
namespace K57
open MI XG XM PySem
def lw0 : MS := gAsg (gBin mAdd (gCB (f1 mList) (gCons (gSl (gVar 0) (gPn) (gPs (gC (.int 3)))) (gNil))) (gLst (gCons (gC (.int 0)) (gNil)))) (tgName 1)
def lw1 : MS := gFor (gRng1 (gCB (f1 mLenV) (gCons (gVar 1) (gNil)))) (tgName 2) (gSeq (gAsg (gCall m_law_take [] 2 (gCons (gCall m_law_box [] 2 (gCons (gVar 1) (gCons (gVar 2) (gNil)))) (gCons (gBin mPow (gC (.int 10)) (gC (.int 9))) (gNil)))) (tgName 3)) (gIfS (gOr (gNot (gTru (gCall m_law_small_right [] 1 (gCons (gVar 3) (gNil))))) (gOr (gNot (gTru (gCall m_law_wide_right [] 1 (gCons (gVar 3) (gNil))))) (gNot (gTru (gCall m_law_lost_right [] 1 (gCons (gVar 3) (gNil))))))) (gRet (gC (.bl false))) (gNext)))
def lw2 : MS := gRet (gC (.bl true))
theorem t_lw : m_law = gBody 4 (gSeq lw0 (gSeq lw1 (lw2))) := rfl
def lv0 : MS := gAsg (gCall m_law_take [] 2 (gCons (gCall m_law_box [] 2 (gCons (gVar 1) (gCons (gVar 2) (gNil)))) (gCons (gBin mPow (gC (.int 10)) (gC (.int 9))) (gNil)))) (tgName 3)
def lv1 : MS := gIfS (gOr (gNot (gTru (gCall m_law_small_right [] 1 (gCons (gVar 3) (gNil))))) (gOr (gNot (gTru (gCall m_law_wide_right [] 1 (gCons (gVar 3) (gNil))))) (gNot (gTru (gCall m_law_lost_right [] 1 (gCons (gVar 3) (gNil))))))) (gRet (gC (.bl false))) (gNext)
def blv : MS := gSeq lv0 (lv1)
theorem t_lw1 : lw1 = gFor (gRng1 (gCB (f1 mLenV) (gCons (gVar 1) (gNil)))) (tgName 2) blv := rfl
theorem gOr_f {a b : MT} {m : ML} {h h1 : MH} (e : a m h = .ok false h1) : gOr a b m h = b m h1 := by
  unfold gOr
  rw [e]; rfl
section
variable {o : Int} {h : MH}
theorem small_ok (c : okB (qS o h) = true) (e : (qS o h).2 = dbl o tS) (a : 0 ≤ o) (b : o < 1000000000) : m_law_small_right [.int o] h = .ok (.bl true) (endH (qS o h)) := by
  have g : Good (qS o h).2 := by rw [e]; exact good_dbl a b fS
  obtain ⟨h', q1, q2⟩ := sound2 (end_eq c) g
  rw [c_small]
  refine body_rt ?_
  show seqs smallI _ [some (.int o), none, none, none, none, none] h = _
  rw [q1]
  unfold gRet
  rw [q2]
  rfl
theorem wide_ok (c : okB (qW o h) = true) (e : (qW o h).2 = dbl o tW) (a : 0 ≤ o) (b : o < 1000000000) : m_law_wide_right [.int o] h = .ok (.bl true) (endH (qW o h)) := by
  have g : Good (qW o h).2 := by rw [e]; exact good_dbl a b fW
  obtain ⟨h', q1, q2⟩ := sound2 (end_eq c) g
  rw [c_wide]
  refine body_rt ?_
  show seqs wideI _ [some (.int o), none, none, none, none, none, none, none] h = _
  rw [q1]
  unfold gRet
  rw [q2]
  rfl
theorem lb_ok {m : ML} {l : List Tm} (f : (l.all Tm.fine) = true) (c : okB (sim (lbI ++ [.sm lbA]) m h) = true) (e : (sim (lbI ++ [.sm lbA]) m h).2 = dbl o l) (a : 0 ≤ o) (b : o < 1000000000) : blb m h = .nx (endM (sim (lbI ++ [.sm lbA]) m h)) (endH (sim (lbI ++ [.sm lbA]) m h)) := by
  have g : Good (sim (lbI ++ [.sm lbA]) m h).2 := by rw [e]; exact good_dbl a b f
  obtain ⟨h', q1, q2⟩ := sound2 (end_eq c) g
  rw [c_lb, q1]
  exact smI_ok q2
theorem lost4_ok {m m1 m2 : ML} {h1 h2 : MH} (a : blb (m.set 4 (some (.bl false))) h = .nx m1 h1) (b : blb (m1.set 4 (some (.bl true))) h1 = .nx m2 h2) : lost4 m h = .nx m2 h2 := by
  rw [t_lost4]
  show gForN (it1 [.bl false, .bl true]) (tgName 4) blb 3 0 m h = _
  unfold gForN
  show (match blb (m.set 4 (some (.bl false))) h with
    | .nx m2 h2 => gForN (it1 [.bl false, .bl true]) (tgName 4) blb 2 1 m2 h2
    | .ct m2 h2 => gForN (it1 [.bl false, .bl true]) (tgName 4) blb 2 1 m2 h2
    | .bk m2 h2 => .nx m2 h2
    | o => o) = _
  rw [a]
  show gForN (it1 [.bl false, .bl true]) (tgName 4) blb 2 1 m1 h1 = _
  unfold gForN
  show (match blb (m1.set 4 (some (.bl true))) h1 with
    | .nx m2 h2 => gForN (it1 [.bl false, .bl true]) (tgName 4) blb 1 2 m2 h2
    | .ct m2 h2 => gForN (it1 [.bl false, .bl true]) (tgName 4) blb 1 2 m2 h2
    | .bk m2 h2 => .nx m2 h2
    | o => o) = _
  rw [b]
  rfl
theorem lost_ok (c0 : okB (qL o h) = true) (e0 : (qL o h).2 = []) (c1 : okB (qA o h) = true) (e1 : (qA o h).2 = dbl o tA) (c2 : okB (qB o h) = true) (e2 : (qB o h).2 = dbl o tB) (a : 0 ≤ o) (b : o < 1000000000) :
    m_law_lost_right [.int o] h = .ok (.bl true) (endH (qB o h)) := by
  have g0 : Good (qL o h).2 := by rw [e0]; trivial
  have q0 := sound (end_eq c0) g0 (gSeq lost4 lost5)
  have q1 := lb_ok fA c1 e1 a b
  have q2 := lb_ok fB c2 e2 a b
  rw [c_lost]
  refine body_rt ?_
  show seqs lostI _ [some (.int o), none, none, none, none, none, none, none, none] h = _
  exact q0.trans ((seq_nx (lost4_ok q1 q2)).trans rfl)
end
theorem t_box : m_law_box = mBox := rfl
theorem t_take : m_law_take = mTake := rfl
theorem turn {S : Option MV} {cs : List Int} {k : Nat} {x : Int} {h : MH} {o : Option MV} (hg : h.get 3 = some (.lst (cs.map MV.int))) (hk : cs[k]? = some x) :
    ∃ p : Pr, ∀ L, Chk L p h → blv [S, some (.ref 3), some (.int (k : Nat)), o] h = .nx [S, some (.ref 3), some (.int (k : Nat)), some (.int p.own)] (TE p h) ∧ (TE p h).get 3 = some (.lst L) := by
  have b1 := box_eq hg hk
  have gq : ∀ o, (h.push o).get h.n = some o := fun o => by rw [MH.get_push, if_pos rfl]
  have main : ∃ p : Pr, 0 ≤ p.own ∧ p.own < 1000000000 ∧ lv0 [S, some (.ref 3), some (.int (k : Nat)), o] h = .nx [S, some (.ref 3), some (.int (k : Nat)), some (.int p.own)] (BX h p) := by
    have fin : ∀ {v : Int} {h' : MH}, mTake [.ref h.n, .int 1000000000] (h.push (.lst [.int (absV x * if 1000000000000000000 ≤ absV x then 1 else 0), .int (x % 2305843009213693951 + 7919 * k + 61), .int 0])) = .ok (.int v) h' →
        lv0 [S, some (.ref 3), some (.int (k : Nat)), o] h = .nx [S, some (.ref 3), some (.int (k : Nat)), some (.int v)] h' := fun {v h'} e => by
      have v1 : ∀ h, gVar 1 [S, some (.ref 3), some (.int (k : Nat)), o] h = .ok (.ref 3) h := fun _ => rfl
      have v2 : ∀ h, gVar 2 [S, some (.ref 3), some (.int (k : Nat)), o] h = .ok (.int (k : Nat)) h := fun _ => rfl
      have p1 : ∀ h, mPow (.int 10) (.int 9) h = .ok (.int 1000000000) h := fun h => rfl
      simp [lv0, gAsg, gCall, gCons, gNil, v1, v2, gC, gBin, Out.bind, Out.bindS, t_box, b1, p1, t_take, e, tgName, SO.only]
    by_cases ha : 0 < absV x * if 1000000000000000000 ≤ absV x then 1 else 0
    · exact ⟨⟨_, _, _, _, _, _⟩, Int.emod_nonneg _ (by decide), Int.emod_lt_of_pos _ (by decide), fin (take_pos (n := 1000000000) (gq _) ha (by decide) (by decide))⟩
    · exact ⟨⟨_, _, _, _, _, _⟩, Int.emod_nonneg _ (by decide), Int.emod_lt_of_pos _ (by decide), fin (take_neg (n := 1000000000) (gq _) ha (by decide) (by decide) (by decide))⟩
  obtain ⟨p, p0, p1, e0⟩ := main
  refine ⟨p, fun L c => ?_⟩
  unfold Chk at c
  obtain ⟨c0, c⟩ := Prod.mk.inj c
  obtain ⟨d1, c⟩ := Prod.mk.inj c
  obtain ⟨d2, c⟩ := Prod.mk.inj c
  obtain ⟨d3, c⟩ := Prod.mk.inj c
  obtain ⟨d4, c⟩ := Prod.mk.inj c
  obtain ⟨d5, d6⟩ := Prod.mk.inj c
  simp only [Bool.and_eq_true] at c0
  obtain ⟨k1, k2, k3, k4, k5⟩ := c0
  have r1 := small_ok k1 d1 p0 p1
  have r2 := wide_ok k2 d2 p0 p1
  have r3 := lost_ok k3 d3 k4 d4 k5 d5 p0 p1
  refine ⟨?_, d6⟩
  have v3 : ∀ h, gVar 3 [S, some (.ref 3), some (.int (k : Nat)), some (.int p.own)] h = .ok (.int p.own) h := fun _ => rfl
  have z1 : (gNot (gTru (gCall m_law_small_right [] 1 (gCons (gVar 3) (gNil))))) [S, some (.ref 3), some (.int (k : Nat)), some (.int p.own)] (BX h p) = .ok false (h1 p h) := by
    unfold gNot gTru
    rw [show gCall m_law_small_right [] 1 (gCons (gVar 3) (gNil)) [S, some (.ref 3), some (.int (k : Nat)), some (.int p.own)] (BX h p) = .ok (.bl true) (h1 p h) from r1]
    rfl
  have z2 : (gNot (gTru (gCall m_law_wide_right [] 1 (gCons (gVar 3) (gNil))))) [S, some (.ref 3), some (.int (k : Nat)), some (.int p.own)] (h1 p h) = .ok false (h2 p h) := by
    unfold gNot gTru
    rw [show gCall m_law_wide_right [] 1 (gCons (gVar 3) (gNil)) [S, some (.ref 3), some (.int (k : Nat)), some (.int p.own)] (h1 p h) = .ok (.bl true) (h2 p h) from r2]
    rfl
  have z3 : (gNot (gTru (gCall m_law_lost_right [] 1 (gCons (gVar 3) (gNil))))) [S, some (.ref 3), some (.int (k : Nat)), some (.int p.own)] (h2 p h) = .ok false (TE p h) := by
    unfold gNot gTru
    rw [show gCall m_law_lost_right [] 1 (gCons (gVar 3) (gNil)) [S, some (.ref 3), some (.int (k : Nat)), some (.int p.own)] (h2 p h) = .ok (.bl true) (TE p h) from r3]
    rfl
  refine (seq_nx e0).trans ?_
  exact (ifS_f (h1 := TE p h) ((gOr_f z1).trans ((gOr_f z2).trans z3))).trans rfl
theorem add_ok {A : List MV} (hl : A.length ≤ 3) : mAdd (.ref 1) (.ref 2) (((MH.empty.push (.lst A)).push (.lst A)).push (.lst [.int 0])) = .ok (.ref 3) (H0 A (A ++ [.int 0])) := by
  have k1 : (((MH.empty.push (.lst A)).push (.lst A)).push (.lst [.int 0])).get 1 = some (.lst A) := by kernel_rfl
  have k2 : (((MH.empty.push (.lst A)).push (.lst A)).push (.lst [.int 0])).get 2 = some (.lst [.int 0]) := by kernel_rfl
  show (match (((MH.empty.push (.lst A)).push (.lst A)).push (.lst [.int 0])).get 1, (((MH.empty.push (.lst A)).push (.lst A)).push (.lst [.int 0])).get 2 with
    | some (.lst xs), some (.lst ys) => if xs.length + ys.length ≤ 1000000 then Out.ok (MV.ref 3) (MH.push (((MH.empty.push (.lst A)).push (.lst A)).push (.lst [.int 0])) (.lst (xs ++ ys))) else .bad
    | _, _ => .bad) = _
  rw [k1, k2]
  exact if_pos (by simp; omega)
theorem foldr1 (p : Pr) (h : MH) : [p].foldr TE h = TE p h := by rw [List.foldr_cons, List.foldr_nil]
theorem foldr2 (p q : Pr) (h : MH) : [p, q].foldr TE h = TE p (TE q h) := by rw [List.foldr_cons, foldr1]
theorem foldr3 (p q r : Pr) (h : MH) : [p, q, r].foldr TE h = TE p (TE q (TE r h)) := by rw [List.foldr_cons, foldr2]
theorem chkN (A L : List MV) : ∀ (ps : List Pr) (p : Pr), ps.length < 4 → Chk L p (ps.foldr TE (H0 A L))
  | [], p, _ => by rw [List.foldr_nil]; exact chk0 A L p
  | [p1], p, _ => by rw [foldr1]; exact chk1 A L p p1
  | [p2, p1], p, _ => by rw [foldr2]; exact chk2 A L p p1 p2
  | [p3, p2, p1], p, _ => by rw [foldr3]; exact chk3 A L p p1 p2 p3
  | _ :: _ :: _ :: _ :: l, p, h => absurd h (by simp)
theorem law_true {ns : List Int} (hl : ns.length ≤ 63) : ∃ h', m_law [.fls (ns.map .int)] .empty = .ok (.bl true) h' := by
  obtain ⟨A, hA⟩ : ∃ A, A = (ns.take 3).map MV.int := ⟨_, rfl⟩
  obtain ⟨cs, hcs⟩ : ∃ cs, cs = ns.take 3 ++ [0] := ⟨_, rfl⟩
  have hL : A ++ [.int 0] = cs.map MV.int := by rw [hA, hcs]; simp
  have lc : cs.length ≤ 4 := by rw [hcs]; simp; omega
  have g0 : (H0 A (cs.map MV.int)).get 3 = some (.lst (cs.map MV.int)) := by
    show (MH.push _ _).get 3 = _
    rw [MH.get_push]
    exact if_pos rfl
  have s0 : lw0 [some (.fls (ns.map MV.int)), none, none, none] .empty = .nx [some (.fls (ns.map MV.int)), some (.ref 3), none, none] (H0 A (cs.map MV.int)) := by
    have d0 : mcut (ns.map MV.int) none (some 3) = A := by rw [hA]; exact cut1 (ns := ns) (m := 3)
    have gp : ∀ (h : MH) (o : MO), (h.push o).get h.n = some o := fun h o => by rw [MH.get_push, if_pos rfl]
    have e1 : gCB (f1 mList) (gCons (gSl (gVar 0) (gPn) (gPs (gC (.int 3)))) (gNil)) [some (.fls (ns.map MV.int)), none, none, none] .empty = .ok (.ref 1) ((MH.empty.push (.lst A)).push (.lst A)) := by
      simp [gCB, f1, gCons, gNil, gSl, gVar, gPn, gPs, gC, Out.bind, mSl, isL, seqOf, d0, mList, gp]
      rfl
    have e3 : mAdd (.ref 1) (.ref 2) (((MH.empty.push (.lst A)).push (.lst A)).push (.lst [.int 0])) = .ok (.ref 3) (H0 A (A ++ [.int 0])) := add_ok (by rw [hA]; simp; omega)
    have e4 : gBin mAdd (gCB (f1 mList) (gCons (gSl (gVar 0) (gPn) (gPs (gC (.int 3)))) (gNil))) (gLst (gCons (gC (.int 0)) (gNil))) [some (.fls (ns.map MV.int)), none, none, none] .empty = .ok (.ref 3) (H0 A (cs.map MV.int)) := by
      unfold gBin
      rw [e1, ← hL]
      exact e3
    unfold lw0 gAsg
    rw [e4]
    rfl
  have s1 : ∃ m' h', lw1 [some (.fls (ns.map MV.int)), some (.ref 3), none, none] (H0 A (cs.map MV.int)) = .nx m' h' := by
    have er : (gRng1 (gCB (f1 mLenV) (gCons (gVar 1) (gNil)))) [some (.fls (ns.map MV.int)), some (.ref 3), none, none] (H0 A (cs.map MV.int)) = .ok (it1R 0 cs.length) (H0 A (cs.map MV.int)) := by
      simp [gRng1, gCB, f1, gCons, gNil, gVar, Out.bind, mLenV, mLen, g0]
      omega
    obtain ⟨m', h', e, _⟩ := for_loop (it := it1R 0 cs.length) (t := tgName 2) (b := blv) (N := cs.length)
      (fun j m h => ∃ (ps : List Pr) (o2 o3 : Option MV), ps.length = j ∧ h = ps.foldr TE (H0 A (cs.map MV.int)) ∧ m = [some (.fls (ns.map MV.int)), some (.ref 3), o2, o3] ∧ h.get 3 = some (.lst (cs.map MV.int)))
      (fun _ _ _ => rng_end) (fun j m h hj ⟨ps, o2, o3, hp, eh, em, hg⟩ => by
        subst em
        obtain ⟨p, hp2⟩ := turn (S := some (.fls (ns.map MV.int))) (o := o3) hg (List.getElem?_eq_getElem hj)
        have c : Chk (cs.map MV.int) p h := by
          rw [eh]
          exact chkN A _ ps p (by omega)
        obtain ⟨z1, z2⟩ := hp2 _ c
        exact ⟨.int (j : Nat), [some (.fls (ns.map MV.int)), some (.ref 3), some (.int (j : Nat)), o3], h, _, _, rng_at0 hj, rfl, z1, p :: ps, _, _, by rw [List.length_cons, hp], by rw [List.foldr_cons, ← eh], rfl, z2⟩)
      (cs.length + 1) 0 _ _ (by omega) (Nat.zero_le _) ⟨[], none, none, rfl, rfl, rfl, g0⟩
    refine ⟨m', h', ?_⟩
    rw [t_lw1]
    unfold gFor
    rw [er]
    exact e
  obtain ⟨m', h', s1⟩ := s1
  refine ⟨h', ?_⟩
  rw [t_lw]
  exact body_rt ((seq_nx s0).trans ((seq_nx s1).trans rfl))
end K57
set_option Elab.async false
set_option linter.all false
set_option maxRecDepth 100000
set_option maxHeartbeats 0
namespace K57
open PySem PySem.Spec PyProof.Rows L2 JB MI
abbrev R : PySem.W.OpenRow := PySem.W.OpenLaw.row PySem.Challenge.rw_lastingrun_k57_a_known_store
abbrev hk : PySem.W.Hook := hookM 5 fa fn fc
def ob (s : PySem.W.SharedT) : He.AlD × Bool := obM 5 fa fn fc (HandSHeadRun.getT s)
theorem ob_eq (s : PySem.W.SharedT) : ob s = hk.obs s.abs := obM_eq (HandSHeadRun.getT_eq s)
def loose : List Str := (["_wall", "NoLoose", "NoBlock", "Busy", "Idle", "Stopped", "NoRoot", "Full", "PAGE", "FAN", "KIND", "HEAD", "MOST_FACTS", "depth_for", "root_block", "root_parts", "newest_root", "without_end", "Memory", "Tree"] : List Str) ++ (["read_tree", "make_store", "Snapshot", "Store", "as_tuples", "Disk", "_law_box", "_law_take", "_law_same", "_law_shot", "_law_small_right", "_law_wide_right", "_law_lost_right"] : List Str)
theorem run (w : World) : HandSHeadRun.RunEq R (PySem.W.view R.prog [41]) hk ob 8000 loose w := by
  intro os
  kernel_rfl
theorem facts {P : Program} {w : World} {K : PySem.W.Frag} {h : Heap} {mg : Str → Option Value} {f : Addr} (X : K.In h) (G : h.Ns mainGlobals mg) (hfa : mg ("law" : Str) = some (.ref f)) (c : He.SaysD fa fn K) (cx : fc.all (fun f => f.ok K) = true) :
    ∃ fd : FuncData, (∀ (s : Shared) (v : Value), BindsTo s fd ⟨[v], []⟩ [("_law_script", v)]) ∧ ∀ base : Heap, K.In base → base.Ns mainGlobals mg → FnG P w K mg base (L2.CX P w) 10 f fd ["_law_script"] (spM ⟨K, tN K⟩ 1 m_law) := by
  have F : W K mg := ⟨⟨h, X, G⟩, c, cx⟩
  obtain ⟨fd, D⟩ := c.def_ (58) (d := d_law) rfl
  have e := hfa.symm.trans (He.glo_ok X G (c.fact 0 (f := .glo "law") rfl))
  cases e
  have b := FunD.bindsA (ps := ["_law_script"]) D fun _ _ _ _ _ _ us hl => match us, hl with | [_], _ => rfl
  exact ⟨fd, fun s v => b s [v] rfl, fun base _ _ => fn_law F D⟩
end K57
open PySem PySem.W PySem.Calls PyProof.Rows
set_option maxRecDepth 100000 in
set_option maxHeartbeats 0 in
theorem PySem.Challenge.cw_lastingrun_k57_a_known_store_holds : PySem.Challenge.rw_lastingrun_k57_a_known_store.Holds := by
  w_on; o_law
  refine HandSHeadRun.head_any (r := OpenLaw.row PySem.Challenge.rw_lastingrun_k57_a_known_store) (q := view (OpenLaw.row PySem.Challenge.rw_lastingrun_k57_a_known_store).prog [41]) (H := K57.hk) (ob := K57.ob) (M := 8000) (loose := K57.loose) (d := HandSHeadRun.topDef (OpenLaw.row PySem.Challenge.rw_lastingrun_k57_a_known_store).prog 41) (kwd := []) K57.ob_eq
    (by kernel_rfl) (fun s => by kernel_rfl) K57.run (by kernel_rfl) (by kernel_rfl) (by kernel_rfl) (by rfl) (by first | assumption | decide +kernel) (by decide +kernel) ⟨rfl, rfl, rfl, rfl, rfl, by decide +kernel⟩ ?hw ?hc
  case hw => w_witness2
  case hc =>
    refine MI.walk_GE (l := PySem.Challenge.rw_lastingrun_k57_a_known_store) (n := 63) (k := 10) (x := "_law_script") rfl (by decide) (by kernel_rfl) ⟨rfl, by decide, by decide⟩ ?F
    intro w mg fa h Y G hmg0
    obtain ⟨K, KX, c, cx⟩ := Y
    have hmg : mg ("law" : PySem.Str) = some (.ref fa) := by
      have e : (HandSHeadRun.topDef (OpenLaw.row PySem.Challenge.rw_lastingrun_k57_a_known_store).prog 41).name = ("law" : PySem.Str) := by kernel_rfl
      rw [← e]
      exact hmg0
    obtain ⟨fd, hb, hF⟩ := K57.facts (P := (PySem.Challenge.rw_lastingrun_k57_a_known_store).prog) (w := w) KX G hmg c cx
    refine ⟨K, fd, _, KX, hb, fun H a ns hl hO hS => ?_, hF⟩
    obtain ⟨h', e⟩ := K57.law_true hl
    exact MI.law_sp (Z := ⟨K, K57.tN K⟩) hO hS e
