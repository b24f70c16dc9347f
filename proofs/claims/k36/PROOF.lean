import PyProof.Rows.All
import Wide.All
import OpenK.AllK
import Wide.FinOn
import HandS.ForMost
import HandS.IsInst
import HandS.FStr
import HandS.ExcInit
import HandS.ExcIs
import HandS.MakeKw
import HandS.Rev
import HandS.NoneIn
import HandS.Small
import HandS.Flow
import HandS.TupAny
import KE.KUnpack
import PyProof.AutoSeq1
import PyProof.ReprBulk
import HandS.Star
import HandS.SetKeys
import HandS.TupMul
import HandS.SortInts
import HandS.More
import KE.KSortedM
import PyProof.Draws
import PyProof.EnumMake
import PyProof.TupleIter
import HandS.SortKw
import PyProof.MinMaxWalk
import PyProof.DictWalks
import HandS.HeadEnd
import HandS.HeadHook1
import HandS.HeadHook2
import HandS.Head2
import HandS.Defaults
import Lean
import HandS.Conv
import HandS.RaiseMore
import PyProof.CallFns
import PyProof.FitsInt
import KE.KExcIs
import HandS.ExcValue
import HandS.TryMany
import HandS.Style
import KE.DataFind
import HandS.DictComp
import PyProof.ListMulRight
import PyProof.ListMulAny
import PyProof.Rows.ListMulArg
import PySem.Challenge.RW_lastingrun_k36_reachable_objects
set_option Elab.async false
set_option linter.all false
set_option maxRecDepth 100000
set_option maxHeartbeats 4000000
namespace JB
open PySem PySem.Spec PyProof.Rows L2
abbrev Still (A : Around) : Prop := A.guards = some []
structure FnG (P : Program) (w : World) (K : PySem.W.Frag) (mg : Str → Option Value)
    (base : Heap) (CX : CXT) (k : Nat) (f : Addr) (fd : FuncData) (ps : List Str) (sp : Sp) : Prop where
  many : ∀ a h q e, sp a h q e → a.length = ps.length
  goes : ∀ (A : Around) (outer : List Env) (s : Shared) (H : Hp) (args : Args)
    (us : List Value) (vs : List V) (Q : VK) (E : XK), Still A → Room k A →
    Env0 P w K mg base A outer s H → BindsTo s fd args (ps.zip us) → Vals vs us →
    sp vs H Q E → codeAny (model P w) A (.call (.ref f) args) (CR CX outer P w H s Q E) s
section
variable {P : Program} {w : World} {K : PySem.W.Frag} {mg : Str → Option Value} {base : Heap}
variable {CX : CXT} {j k : Nat} {f : Addr} {fd : FuncData} {ps : List Str} {sp : Sp}
theorem FnG.of (F : FnOk P w K mg base CX k f fd ps sp) : FnG P w K mg base CX k f fd ps sp :=
  ⟨F.len, fun A o s H a us vs Q E _ r e b v h => F.run A o s H a us vs Q E r e b v h⟩
end
theorem still_make {A : Around} {C : Addr} {us : List Value} {kw : List (Str × Value)} (h : Still A) :
    Still (A.under (.builtin "type.__call__" ⟨.ref C :: us, kw⟩)) := by
  first
    | exact h
    | (simpa [Still, Around.under, Code.guards, Code.isGuard, pushGuards, guardIds] using h)
section
variable {X : Cx} {CX : CXT} {k : Nat} {f C : Addr} {fd : FuncData} {ps : List Str} {sp : Sp}
variable {dvs : List V} {ds : List Value} {E : XK} {x m : Str} {p pos apos : Pos} {e o : Expr} {es : List Expr} {ta : TE} {t : TA}
theorem run_g {pins : List (Addr × Obj)} {σ : L2.St} {H : Hp} {s : Shared} {Q : VK} {us : List Value}
    {vs : List V} (hs : Still X.A) (F : FnG X.prog X.w X.K X.mg X.base CX k f fd ps sp)
    (hr : Room k X.A) (hb : Binds X.K fd ps ds) (hd : Vals dvs ds) (hx : Passes CX X E)
    (I : Inv X pins σ H s) (r : Vals vs us) (h : sp (vs ++ dvs) H Q E) :
    wpAny (model X.prog X.w) X.A (call (.ref f) us) (EP X pins σ Q) X.xe s := by
  have rr := r.append hd
  have hl : (us ++ ds).length = ps.length := by
    rw [← rr.length]; exact F.many _ _ _ _ h
  refine wpAny_call (codeAny_mono (F.goes X.A X.stack s H ⟨us, []⟩ (us ++ ds) (vs ++ dvs) Q E hs hr
    I.env0 (hb s us I.kIn hl) rr h) fun z s' hq => ?_)
  cases z with
  | error er => exact hx pins σ H s er s' I hq
  | ok fl => cases fl <;> first | exact I.after hq | exact False.elim hq
theorem pe_callG (hs : Still X.A) (F : FnG X.prog X.w X.K X.mg X.base CX k f fd ps sp)
    (hr : Room k X.A) (hg : Gl X x) (hm : X.mg x = some (.ref f))
    (hk : PySem.W.keepIn X.K (.ref f) = true) (hb : Binds X.K fd ps ds) (hd : Vals dvs ds)
    (hx : Passes CX X E) (ha : PA X (e :: es) t)
    (hdb : (x == ("__debug__" : Str)) = false := by decide)
    (he : starEach (e :: es) X.env = (false, eval e X.env) :: starEach es X.env := by rfl)
    (hpl : (backTo pos (starEach es X.env)).any (·.1) = false := by rfl) :
    PE X (.Call (.Name x p) (e :: es) [] pos) (tCall sp dvs E t) :=
  ⟨fun pins s σ H Q I h => wpAny_Call_Name_kw (ld_glob I hg hm (PySem.W.callWith_K (h₀ := X.base)
    I.ok.mod.kin hk (thn (ha.run pos pins s σ H _ I h) fun us s1 ⟨vs, H1, I1, r, q⟩ =>
      ⟨I1.kIn, run_g hs F hr hb hd hx I1 r q⟩) he hpl) hdb)⟩
end
theorem fn_g {CX : CXT} {P : Program} {w : World} {K : PySem.W.Frag} {mg : Str → Option Value}
    {base : Heap} {k : Nat} {f : Addr} {name qual : Str} {params : Arguments} {body : List Stmt}
    {scope : Scope} {dV kV doc pm cdv ct oc : Value} {an od : Option Addr}
    {osl : Array (Option Value)} {N ps : List Str} {sp : Sp}
    (lk : K.lookup f = some ⟨oc, od, .func (PySem.W.fnOf name qual params body scope dV kV doc pm an cdv ct), osl⟩)
    (hcd : PySem.W.codeIn K cdv qual = true) (S : FnScope N ps scope)
    (many : ∀ a h q e, sp a h q e → a.length = ps.length)
    (hbody : ∀ (A : Around) (outer : List Env) (s : Shared) (H : Hp) (vs : List V) (Q : VK) (E : XK),
      Still (A.deeper (envOfC qual scope s.heap.objs.size f cdv)) →
      Room k (A.deeper (envOfC qual scope s.heap.objs.size f cdv)) → sp vs H Q E →
      ∃ t, PSs (cxOf CX P w K mg base N qual scope f cdv A outer s H E) body t ∧
        t { nx := fun _ H' => Q .non H', rt := Q } (start N vs) H) :
    FnG P w K mg base CX (k + 1) f (PySem.W.fnOf name qual params body scope dV kV doc pm an cdv ct) ps sp := by
  refine ⟨many, fun A outer s H args us vs Q E hst hr e0 hb r hsp => ?_⟩
  have hl := many _ _ _ _ hsp
  have KX : K.In s.heap := e0.mod.kin.keeps fun b o e => (e0.bs b o e).1
  have lim : s.heap.NoLimit := e0.mod.nolimit.keeps fun b o e => (e0.bs b o e).1
  have hkind : ∀ y ∈ ps.zip us, scope.names.lookup y.1 = some .local ∨ (scope.names.lookup y.1 = some .cell ∧
      ((cellsFrom (s.heap.objs.size + 1) scope.names []).lookup y.1).isSome = true) := by
    rintro ⟨n, v⟩ hy
    rcases S.par n (List.of_mem_zip hy).1 with q | q
    · exact .inl q
    · exact .inr ⟨q, PySem.W.cellsFrom_some _ _ _ (.inl q)⟩
  refine codeAny_call_function hr.depth (KX _ _ lk) rfl S.co S.gen rfl
    (PySem.W.codeRec_of KX hcd) (hb _ _ _ _ ?_)
  refine wpAny_newFunctionEnv_cells S.kind hkind fun env he s1 x => ?_
  subst he
  refine ⟨lim.keeps x.toInCall.keep, codeAny_func ?_⟩
  obtain ⟨t, ht, hq⟩ := hbody A outer s H vs Q E hst (hr.deeper _) hsp
  have I : Inv (cxOf CX P w K mg base N qual scope f cdv A outer s H E) [] (start N vs) H s1 :=
    inv_start S hr.hd e0 hl r x
  refine wpAny_mono (ht.run [] s1 (start N vs) H _ I hq) (fun fl s' hs => ?_) fun e s' hs => hs
  have fin : ∀ {σ' : L2.St} {H' : Hp} {v : V} {u : Value},
      Inv (cxOf CX P w K mg base N qual scope f cdv A outer s H E) [] σ' H' s' → RelV v u →
      Q v H' → CE outer P w H s Q u s' :=
    fun {σ' H' v u} J rv q => ⟨v, H', J.os, J.bare, J.base, J.hok, rv, q⟩
  cases fl with
  | ret u => obtain ⟨v, σ', H', J, rv, q⟩ := hs; exact fin J rv q
  | next => obtain ⟨σ', H', J, q⟩ := hs; exact fin (v := V.non) (u := Value.none) J rfl q
  | brk => obtain ⟨_, _, _, q⟩ := hs; exact False.elim q
  | cont => obtain ⟨_, _, _, q⟩ := hs; exact False.elim q
end JB
set_option Elab.async false
set_option linter.all false
set_option maxRecDepth 100000
set_option maxHeartbeats 4000000
namespace JB
open PySem PySem.Spec PyProof.Rows L2
theorem law_callG {P : Program} {w : World} {K : PySem.W.Frag} {mg mb : Str → Option Value} {CX : CXT}
    {k : Nat} {fa a : Addr} {fd : FuncData} {x : Str} {sp : Sp} {s₁ : Shared} {vs : List Value} {ns : List Int}
    (KX : K.In s₁.heap) (hns : s₁.heap.Ns mainGlobals mg) (hb : s₁.heap.Ns builtinsNs mb)
    (hbb : ∀ x : Str, x ≠ "__name__" → mb x = bootBuiltins x) (hlim : s₁.heap.NoLimit)
    (hg : s₁.gens = #[]) (ha : s₁.heap.get? a = some { cls := .type "list", data := .seq vs.toArray })
    (hi : IntsAre vs ns) (hl : ns.length ≤ sizeLine) (hr : Room k callerA)
    (F : ∀ base : Heap, K.In base → base.Ns mainGlobals mg → FnG P w K mg base CX k fa fd [x] sp)
    (hbind : ∀ (s : Shared) (u : Value), BindsTo s fd ⟨[u], []⟩ [(x, u)])
    (hsp : ∀ H : Hp, Only H → SqL K H a (ns.map V.int) →
      sp [.ref a] H (fun v _ => v = .bl true) fun _ _ _ => False)
    (hCX : ∀ H e s', CX [] H s₁ (fun _ _ _ => False) e s' → False) :
    codeAny (model P w) callerA (.call (.ref fa) ⟨[.ref a], []⟩)
      (fun r s' => r = .ok (.ret (.bool true)) ∧ OldK s₁.heap s'.heap ∧ s'.os = s₁.os ∧ AllBare s'.gens) s₁ := by
  have rv := vals_ints hi
  have lenV := hi.length
  have core : ∀ H : Hp, Only H → SqL K H a (ns.map V.int) → HOk P w H s₁.heap →
      (∀ b, H b ≠ none → b = a) → (H a ≠ none → K.lookup a = none) →
      codeAny (model P w) callerA (.call (.ref fa) ⟨[.ref a], []⟩)
        (fun r s' => r = .ok (.ret (.bool true)) ∧ OldK s₁.heap s'.heap ∧ s'.os = s₁.os ∧ AllBare s'.gens) s₁ := by
    intro H hO hS hok hA hK
    have base_of : ∀ {b : Addr} {o : Obj}, s₁.heap.get? b = some o → H b = none →
        (hidT s₁.heap H).get? b = some o := fun e n => hidT_get e n
    have noA : ∀ {b : Addr} {o : Obj} {es : Array DictEntry} {ep : Nat},
        s₁.heap.get? b = some o → o.data = .dict es ep → H b = none := by
      intro b o es ep e d
      cases q : H b with
      | none => rfl
      | some u =>
        obtain rfl : b = a := hA b (by rw [q]; simp)
        rw [ha] at e
        cases e
        exact absurd (show Data.seq vs.toArray _ = Data.dict es ep from d) (fun z => by cases z)
    have nsK : ∀ {b : Addr} {m : Str → Option Value}, s₁.heap.Ns b m → (hidT s₁.heap H).Ns b m := by
      rintro b m ⟨o, es, ep, e, d, r⟩
      exact ⟨o, es, ep, base_of e (noA e d), d, r⟩
    have hKb : K.In (hidT s₁.heap H) := by
      intro b o e
      refine base_of (KX b o e) ?_
      cases q : H b with
      | none => rfl
      | some u =>
        obtain rfl : b = a := hA b (by rw [q]; simp)
        rw [hK (by rw [q]; simp)] at e
        cases e
    have hM : Mod K mg (hidT s₁.heap H) := by
      obtain ⟨mc, h1, h2⟩ := hlim
      exact ⟨hKb, nsK hns, ⟨mb, nsK hb, hbb⟩, ⟨mc, nsK h1, h2⟩⟩
    have nil : ∀ {α : Type} (b : α), ¬ b ∈ ([] : List α) := fun b z => nomatch z
    have e0 : Env0 P w K mg (hidT s₁.heap H) callerA [] s₁ H :=
      ⟨rfl, hM, fun b o e => of_hidT e, Nat.le_of_eq (hidT_size _ _), trivial,
        fun b hb => (nil b hb).elim, hok, .of_eq hg⟩
    refine codeAny_mono ((F _ hKb (nsK hns)).goes callerA [] s₁ H ⟨[.ref a], []⟩ [.ref a] [.ref a] _ _
      rfl hr e0 (hbind s₁ (.ref a)) (.cons rfl .nil) (hsp H hO hS)) fun r s' h => ?_
    cases r with
    | error e => exact (hCX H e s' h).elim
    | ok fl =>
      cases fl with
      | next => exact False.elim h
      | brk => exact False.elim h
      | cont => exact False.elim h
      | ret u =>
        obtain ⟨v, H', os, bare, un, hok', r', q⟩ := h
        obtain rfl : v = .bl true := q
        obtain rfl : u = Value.bool true := r'
        refine ⟨rfl, OldK.of_keep fun b o e => ?_, os, bare⟩
        rcases hO b with z | ⟨ob, xs, z⟩
        · exact un.keep b o e z (nil b) (nil b)
        · obtain ⟨e1, _⟩ := hok b _ z
          obtain ⟨e2, _⟩ := hok' b _ (un.frzs b ob _ z)
          rw [e] at e1
          cases e1
          exact e2
  cases hk : K.lookup a with
  | some o =>
    have e := KX a o hk
    rw [ha] at e
    cases e
    refine core (fun _ => none) (fun _ => .inl rfl) (.inr ⟨_, vs.toArray, _, hk, rfl, rfl, rfl, ?_, ?_⟩)
      (fun b u z => ?_) (fun b z => absurd rfl z) fun z => absurd rfl z
    · rw [List.size_toArray, lenV]; exact hl
    · simpa using rv
    · exact absurd (show (none : Option HO) = some u from z) (fun z => by cases z)
  | none =>
    refine core (fun b => if b = a then some (.frz { cls := .type "list", data := .seq vs.toArray }
      (.lst (ns.map V.int))) else none) (fun b => ?_) (.inl (.inr ⟨_, if_pos rfl⟩)) (fun b u z => ?_)
      (fun b z => ?_) fun _ => hk
    all_goals by_cases hb : b = a
    · exact .inr ⟨_, _, if_pos hb⟩
    · exact .inl (if_neg hb)
    · have z' := (if_pos hb).symm.trans z
      cases z'
      subst hb
      exact ⟨ha, by rw [List.length_map]; exact hl, vs, _, rv, ha⟩
    · have z' := (if_neg hb).symm.trans z
      cases z'
    · exact hb
    · exact absurd (if_neg hb) z
section
variable {X : Cx}
def rShow (K : PySem.W.Frag) : List V → Hp → VK → Prop := fun xs H Q => ∃ (a : Addr) (d : PyData),
  xs = [.ref a] ∧ Dp K H (.ref a) d ∧ d.showable = true ∧ d.hasDict = false ∧ d.depth ≤ 60 ∧
  d.shown.length ≤ sizeLine ∧ Q (.str d.shown) H
theorem call_show (hs : Still X.A) (hu : X.A.units + 64 < cLine) : CallR X (.builtin "repr") (rShow X.K) := by
  intro pins s σ H xs us Q I r h
  obtain ⟨a, d, rfl, hd, h1, h2, h3, h4, q⟩ := h
  obtain ⟨u, rfl, rfl⟩ : ∃ u, us = [u] ∧ u = Value.ref a := by
    cases r with | cons r1 r2 => cases r2; exact ⟨_, rfl, r1⟩
  obtain ⟨as, rd⟩ := Dp.reads I d (.ref a) (.ref a) hd rfl
  exact repr_of_reads' rd h1 (PyData.noDict_hsm h2) hs (by omega) (fun _ _ e => e)
    (fun h' u tk hk => ⟨.str d.shown, H, I.kept hk, ⟨u, rfl⟩, q⟩) h4
end
end JB
set_option Elab.async false
set_option linter.all false
set_option maxRecDepth 100000
set_option maxHeartbeats 4000000
namespace MI
open PySem PySem.Spec PyProof.Rows L2
structure Zt where
  K : PySem.W.Frag
  adr : Nat → Addr
inductive MV where
  | non | bl (b : Bool) | int (n : Int) | str (s : List Nat) | tup (xs : List MV) | ktp (xs : List MV) | fls (xs : List MV) | ref (i : Nat) | adr (a : Nat) | ty (s : String) | err (C : Nat) (ks : List Nat) (xs : List MV)
  deriving Inhabited
abbrev MK := Sum Int (List Nat)
def kOf : MK → Key
  | .inl i => .inl i
  | .inr s => .inr ⟨s.toArray⟩
def digs : Nat → Nat → List Nat
  | 0, _ => []
  | n + 1, k => if k = 0 then [] else (k % 2097152) :: digs n (k / 2097152)
def digv : List Nat → Nat
  | [] => 0
  | d :: l => d + 2097152 * digv l
theorem digv_digs : ∀ n k : Nat, k ≤ n → digv (digs n k) = k
  | 0, k, h => by
    have : k = 0 := by omega
    subst this; rfl
  | n + 1, k, h => by
    unfold digs
    by_cases e : k = 0
    · rw [if_pos e, e]; rfl
    · rw [if_neg e]
      show k % 2097152 + 2097152 * digv (digs n (k / 2097152)) = k
      rw [digv_digs n (k / 2097152) (by omega)]
      omega
def nm (k : Nat) : Str := ⟨(digs k k).toArray⟩
theorem nm_inj {i j : Nat} (h : nm i = nm j) : i = j := by
  have e2 : (digs i i).toArray = (digs j j).toArray := Str.mk.inj h
  have e3 : digs i i = digs j j := by simpa using e2
  rw [← digv_digs i i (Nat.le_refl _), ← digv_digs j j (Nat.le_refl _), e3]
inductive MO where
  | lst (xs : List MV) | dic (kvs : List (MK × MV)) | dit (kvs : List (List MK × MV)) | ins (C : Nat) (fs : List (Nat × MV)) | fdi (kvs : List (MK × MV))
  deriving Inhabited
def MO.opn : MO → Bool
  | .fdi _ => false
  | _ => true
inductive Tr where
  | nil | leaf (l : List (Nat × MO)) | node (l r : Tr)
namespace Tr
def get : Nat → Tr → Nat → Option MO
  | 0, .leaf l, i => l.lookup i
  | _, .leaf _, _ => none
  | d + 1, .node l r, i => if i % 2 = 0 then get d l (i / 2) else get d r (i / 2)
  | 0, .node _ _, _ => none
  | _, .nil, _ => none
def set : Nat → Tr → Nat → MO → Tr
  | 0, .leaf l, i, o => .leaf ((i, o) :: l.filter fun p => p.1 != i)
  | 0, _, i, o => .leaf [(i, o)]
  | d + 1, .node l r, i, o => if i % 2 = 0 then .node (set d l (i / 2) o) r else .node l (set d r (i / 2) o)
  | d + 1, _, i, o => if i % 2 = 0 then .node (set d .nil (i / 2) o) .nil else .node .nil (set d .nil (i / 2) o)
theorem look_filter {l : List (Nat × MO)} {i j : Nat} (h : j ≠ i) : (l.filter fun p => p.1 != i).lookup j = l.lookup j := by
  induction l with
  | nil => rfl
  | cons p l ih =>
    obtain ⟨a, o⟩ := p
    rw [List.filter_cons]
    by_cases e : a = i
    · subst e
      rw [if_neg (by simp), ih, List.lookup_cons]
      rw [beq_false_of_ne h]
    · rw [if_pos (by simpa using e), List.lookup_cons, List.lookup_cons, ih]
theorem get_set (d : Nat) : ∀ (t : Tr) (i j : Nat) (o : MO), get d (set d t i o) j = if j = i then some o else get d t j := by
  induction d with
  | zero =>
    intro t i j o
    cases t with
    | leaf l =>
      show List.lookup j ((i, o) :: _) = _
      rw [List.lookup_cons]
      by_cases e : j = i
      · subst e; simp
      · rw [if_neg e, beq_false_of_ne e]
        exact look_filter e
    | nil =>
      show List.lookup j [(i, o)] = _
      rw [List.lookup_cons]
      by_cases e : j = i
      · subst e; simp
      · rw [if_neg e, beq_false_of_ne e]; rfl
    | node _ _ =>
      show List.lookup j [(i, o)] = _
      rw [List.lookup_cons]
      by_cases e : j = i
      · subst e; simp
      · rw [if_neg e, beq_false_of_ne e]; rfl
  | succ d ih =>
    intro t i j o
    have key : ∀ l r : Tr, get (d + 1) (if i % 2 = 0 then Tr.node (set d l (i / 2) o) r else .node l (set d r (i / 2) o)) j = if j = i then some o else get (d + 1) (.node l r) j := by
      intro l r
      by_cases hi : i % 2 = 0
      · rw [if_pos hi]
        show (if j % 2 = 0 then get d (set d l (i / 2) o) (j / 2) else get d r (j / 2)) = _
        by_cases hj : j % 2 = 0
        · rw [if_pos hj, ih]
          by_cases e : j = i
          · subst e; simp
          · rw [if_neg (by omega), if_neg e]
            show _ = if j % 2 = 0 then get d l (j / 2) else get d r (j / 2)
            rw [if_pos hj]
        · rw [if_neg hj, if_neg (by intro e; subst e; exact hj hi)]
          show _ = if j % 2 = 0 then get d l (j / 2) else get d r (j / 2)
          rw [if_neg hj]
      · rw [if_neg hi]
        show (if j % 2 = 0 then get d l (j / 2) else get d (set d r (i / 2) o) (j / 2)) = _
        by_cases hj : j % 2 = 0
        · rw [if_pos hj, if_neg (by intro e; subst e; exact hi hj)]
          show _ = if j % 2 = 0 then get d l (j / 2) else get d r (j / 2)
          rw [if_pos hj]
        · rw [if_neg hj, ih]
          by_cases e : j = i
          · subst e; simp
          · rw [if_neg (by omega), if_neg e]
            show _ = if j % 2 = 0 then get d l (j / 2) else get d r (j / 2)
            rw [if_neg hj]
    have nn : ∀ n k, get n .nil k = none := fun n k => by cases n <;> rfl
    have nil2 : get (d + 1) (.node .nil .nil) j = none := by
      show (if j % 2 = 0 then get d .nil (j / 2) else get d .nil (j / 2)) = none
      rw [nn]; split <;> rfl
    cases t with
    | node l r => exact key l r
    | nil =>
      have := key .nil .nil
      rw [nil2] at this
      exact this
    | leaf l =>
      have := key .nil .nil
      rw [nil2] at this
      exact this
end Tr
structure MH where
  n : Nat
  t : Tr
namespace MH
def get (h : MH) (i : Nat) : Option MO := if i < h.n then h.t.get 6 i else none
def set (h : MH) (i : Nat) (o : MO) : MH := ⟨h.n, h.t.set 6 i o⟩
def push (h : MH) (o : MO) : MH := ⟨h.n + 1, h.t.set 6 h.n o⟩
def empty : MH := ⟨0, .nil⟩
theorem get_set {h : MH} {i j : Nat} {o : MO} (hi : i < h.n) : (h.set i o).get j = if j = i then some o else h.get j := by
  unfold get set
  show (if j < h.n then _ else _) = _
  rw [Tr.get_set]
  by_cases e : j = i
  · subst e; rw [if_pos hi, if_pos rfl, if_pos rfl]
  · rw [if_neg e, if_neg e]
theorem get_push {h : MH} {j : Nat} {o : MO} : (h.push o).get j = if j = h.n then some o else h.get j := by
  unfold get push
  show (if j < h.n + 1 then _ else _) = _
  rw [Tr.get_set]
  by_cases e : j = h.n
  · subst e; rw [if_pos (Nat.lt_succ_self _), if_pos rfl, if_pos rfl]
  · rw [if_neg e, if_neg e]
    by_cases e2 : j < h.n
    · rw [if_pos e2, if_pos (by omega)]
    · rw [if_neg e2, if_neg (by omega)]
theorem get_lt {h : MH} {i : Nat} {o : MO} (e : h.get i = some o) : i < h.n := by
  unfold get at e
  split at e
  · assumption
  · cases e
theorem get_none {h : MH} {i : Nat} (e : h.n ≤ i) : h.get i = none := by unfold get; rw [if_neg (by omega)]
end MH
def FzL (K : PySem.W.Frag) (H : Hp) (a : Addr) (vs : List V) : Prop := (∃ o, H a = some (.frz o (.lst vs))) ∨ SqL K (fun _ => none) a vs
theorem ktp_sq {K : PySem.W.Frag} {H : Hp} {a : Addr} {vs : List V} (h : SqT K (fun _ => none) a vs) : SqT K H a vs := by
  rcases h with (h | ⟨o, h⟩) | h
  · cases h
  · cases h
  · exact .inr h
theorem FzL.sq {K : PySem.W.Frag} {H : Hp} {a : Addr} {vs : List V} (h : FzL K H a vs) : SqL K H a vs := by
  rcases h with h | h
  · exact .inl (.inr h)
  · rcases h with (h | ⟨o, h⟩) | h
    · cases h
    · cases h
    · exact .inr h
def exk (e C : Addr) (d : Option Addr) : HO := .ext fun h => ∃ (oe : Obj) (vs : Array Value), h.get? e = some oe ∧ oe.cls = .ref C ∧ oe.dict = d ∧ oe.data = .fields vs
def XdH (H : Hp) (d : Option Addr) (ks : List Nat) (vs : List V) : Prop := (d = none ∧ ks = [] ∧ vs = []) ∨ ∃ dx, d = some dx ∧ H dx = some (.xd ((ks.map nm).zip vs)) ∧ ks.length = vs.length
mutual
inductive RV (Z : Zt) (ρ : List Addr) (H : Hp) : MV → V → Prop
  | non : RV Z ρ H .non .non
  | bl (b : Bool) : RV Z ρ H (.bl b) (.bl b)
  | int (n : Int) : RV Z ρ H (.int n) (.int n)
  | str (s : List Nat) : RV Z ρ H (.str s) (.str ⟨s.toArray⟩)
  | ty (s : String) : RV Z ρ H (.ty s) (.ty s)
  | adr (a : Addr) : RV Z ρ H (.adr a) (.ref a)
  | ref {i : Nat} {a : Addr} : ρ[i]? = some a → RV Z ρ H (.ref i) (.ref a)
  | tup {a : Addr} {xs : List MV} {vs : List V} : H a = some (.tup vs) → RVs Z ρ H xs vs → RV Z ρ H (.tup xs) (.ref a)
  | ktp {a : Addr} {xs : List MV} {vs : List V} : SqT Z.K (fun _ => none) a vs → RVs Z ρ H xs vs → RV Z ρ H (.ktp xs) (.ref a)
  | fls {a : Addr} {xs : List MV} {vs : List V} : FzL Z.K H a vs → RVs Z ρ H xs vs → RV Z ρ H (.fls xs) (.ref a)
  | err {a : Addr} {C : Nat} {d : Option Addr} {ks : List Nat} {xs : List MV} {vs : List V} : H a = some (exk a (Z.adr C) d) → XdH H d ks vs → RVs Z ρ H xs vs → RV Z ρ H (.err C ks xs) (.ref a)
inductive RVs (Z : Zt) (ρ : List Addr) (H : Hp) : List MV → List V → Prop
  | nil : RVs Z ρ H [] []
  | cons {x : MV} {v : V} {xs : List MV} {vs : List V} : RV Z ρ H x v → RVs Z ρ H xs vs → RVs Z ρ H (x :: xs) (v :: vs)
end
def Still : HO → Prop
  | .tup _ => True
  | .own _ => True
  | .frz _ _ => True
  | .xd _ => True
  | .ext _ => True
  | _ => False
structure Ext (ρ : List Addr) (H : Hp) (ρ' : List Addr) (H' : Hp) : Prop where
  pre : ∃ τ, ρ' = ρ ++ τ ∧ ∀ a ∈ τ, H a = none
  hold : ∀ a o, H a = some o → (Still o ∨ ¬ a ∈ ρ) → H' a = some o
  mono : ∀ a, H' a = none → H a = none
theorem Ext.still {ρ ρ' : List Addr} {H H' : Hp} (e : Ext ρ H ρ' H') : ∀ a o, H a = some o → Still o → H' a = some o := fun a o h s => e.hold a o h (.inl s)
theorem Ext.refl {ρ : List Addr} {H : Hp} : Ext ρ H ρ H := ⟨⟨[], by simp⟩, fun _ _ h _ => h, fun _ h => h⟩
theorem Ext.trans {ρ ρ1 ρ2 : List Addr} {H H1 H2 : Hp} (a : Ext ρ H ρ1 H1) (b : Ext ρ1 H1 ρ2 H2) : Ext ρ H ρ2 H2 := by
  obtain ⟨⟨t1, rfl, f1⟩, s1, m1⟩ := a
  obtain ⟨⟨t2, rfl, f2⟩, s2, m2⟩ := b
  refine ⟨⟨t1 ++ t2, by simp, fun x hx => ?_⟩, fun x o h s => s2 x o (s1 x o h s) ?_, fun x h => m1 x (m2 x h)⟩
  · rcases List.mem_append.mp hx with hx | hx
    · exact f1 x hx
    · exact m1 x (f2 x hx)
  · rcases s with s | s
    · exact .inl s
    · refine .inr fun hx => ?_
      rcases List.mem_append.mp hx with hx | hx
      · exact s hx
      · rw [f1 x hx] at h; cases h
theorem Ext.at {ρ ρ' : List Addr} {H H' : Hp} (e : Ext ρ H ρ' H') {i : Nat} {a : Addr} (h : ρ[i]? = some a) : ρ'[i]? = some a := by
  obtain ⟨⟨t, rfl, _⟩, _⟩ := e
  rw [List.getElem?_append_left]
  · exact h
  · exact (List.getElem?_eq_some_iff.mp h).1
theorem Ext.sqT {Z : Zt} {ρ ρ' : List Addr} {H H' : Hp} (e : Ext ρ H ρ' H') {a : Addr} {vs : List V} (h : SqT Z.K H a vs) : SqT Z.K H' a vs := by
  rcases h with (h | ⟨o, h⟩) | h
  · exact .inl (.inl (e.still _ _ h trivial))
  · exact .inl (.inr ⟨o, e.still _ _ h trivial⟩)
  · exact .inr h
theorem Ext.fzL {K : PySem.W.Frag} {ρ ρ' : List Addr} {H H' : Hp} (e : Ext ρ H ρ' H') {a : Addr} {vs : List V} (h : FzL K H a vs) : FzL K H' a vs := by
  rcases h with ⟨o, h⟩ | h
  · exact .inl ⟨o, e.still _ _ h trivial⟩
  · exact .inr h
theorem Ext.xdH {ρ ρ' : List Addr} {H H' : Hp} (e : Ext ρ H ρ' H') {d : Option Addr} {ks : List Nat} {vs : List V} (h : XdH H d ks vs) : XdH H' d ks vs := by
  rcases h with h | ⟨dx, h1, h2, h3⟩
  · exact .inl h
  · exact .inr ⟨dx, h1, e.still _ _ h2 trivial, h3⟩
mutual
theorem RV.ext {Z : Zt} {ρ ρ' : List Addr} {H H' : Hp} (e : Ext ρ H ρ' H') {x : MV} {v : V} : RV Z ρ H x v → RV Z ρ' H' x v
  | .non => .non
  | .bl b => .bl b
  | .int n => .int n
  | .str s => .str s
  | .fls h r => .fls (e.fzL h) (RVs.ext e r)
  | .ty s => .ty s
  | .adr a => .adr a
  | .ref h => .ref (e.at h)
  | .tup h r => .tup (e.still _ _ h trivial) (RVs.ext e r)
  | .ktp h r => .ktp h (RVs.ext e r)
  | .err h k r => .err (e.still _ _ h trivial) (e.xdH k) (RVs.ext e r)
theorem RVs.ext {Z : Zt} {ρ ρ' : List Addr} {H H' : Hp} (e : Ext ρ H ρ' H') {x : List MV} {v : List V} : RVs Z ρ H x v → RVs Z ρ' H' x v
  | .nil => .nil
  | .cons h r => .cons (RV.ext e h) (RVs.ext e r)
end
inductive RKs {κ κ' : Type} (f : κ → κ') (Z : Zt) (ρ : List Addr) (H : Hp) : List (κ × MV) → List (κ' × V) → Prop
  | nil : RKs f Z ρ H [] []
  | cons {k : κ} {x : MV} {v : V} {xs : List (κ × MV)} {vs : List (κ' × V)} : RV Z ρ H x v → RKs f Z ρ H xs vs → RKs f Z ρ H ((k, x) :: xs) ((f k, v) :: vs)
theorem RKs.ext {κ κ' : Type} {f : κ → κ'} {Z : Zt} {ρ ρ' : List Addr} {H H' : Hp} (e : Ext ρ H ρ' H') {x : List (κ × MV)} {v : List (κ' × V)} (h : RKs f Z ρ H x v) : RKs f Z ρ' H' x v := by
  induction h with
  | nil => exact .nil
  | cons a _ ih => exact .cons (a.ext e) ih
def OR (Z : Zt) (ρ : List Addr) (H : Hp) (a : Addr) : MO → Prop
  | .lst xs => ∃ vs, H a = some (.lst vs) ∧ RVs Z ρ H xs vs
  | .dic xs => ∃ vs, H a = some (.dK vs) ∧ RKs kOf Z ρ H xs vs
  | .dit xs => ∃ vs, H a = some (.dT vs) ∧ RKs (List.map kOf) Z ρ H xs vs
  | .ins C fs => ∃ dx vs, H a = some (.ins (Z.adr C) dx vs) ∧ RKs nm Z ρ H fs vs
  | .fdi xs => ∃ o vs, H a = some (.frz o (.dK vs)) ∧ RKs kOf Z ρ H xs vs
structure HR (Z : Zt) (ρ : List Addr) (h : MH) (H : Hp) : Prop where
  nodup : ρ.Nodup
  len : ρ.length = h.n
  all : ∀ i o, h.get i = some o → ∃ a, ρ[i]? = some a ∧ OR Z ρ H a o
  has : ∀ i, i < h.n → (h.get i).isSome = true
theorem OR.ext {Z : Zt} {ρ ρ' : List Addr} {H H' : Hp} (e : Ext ρ H ρ' H') {a : Addr} {o : MO} (h : OR Z ρ H a o) (k : H' a = H a) : OR Z ρ' H' a o := by
  cases o with
  | lst xs => obtain ⟨vs, h1, h2⟩ := h; exact ⟨vs, k.trans h1, h2.ext e⟩
  | dic xs => obtain ⟨vs, h1, h2⟩ := h; exact ⟨vs, k.trans h1, h2.ext e⟩
  | dit xs => obtain ⟨vs, h1, h2⟩ := h; exact ⟨vs, k.trans h1, h2.ext e⟩
  | ins C fs => obtain ⟨dx, vs, h1, h2⟩ := h; exact ⟨dx, vs, k.trans h1, h2.ext e⟩
  | fdi xs => obtain ⟨dx, vs, h1, h2⟩ := h; exact ⟨dx, vs, k.trans h1, h2.ext e⟩
theorem OR.notStill {Z : Zt} {ρ : List Addr} {H : Hp} {a : Addr} {o : MO} (h : OR Z ρ H a o) {u : HO} (e : H a = some u) (hop : o.opn = true) : ¬ Still u := by
  cases o with
  | lst xs => obtain ⟨vs, h1, _⟩ := h; rw [h1] at e; cases e; exact fun z => z
  | dic xs => obtain ⟨vs, h1, _⟩ := h; rw [h1] at e; cases e; exact fun z => z
  | dit xs => obtain ⟨vs, h1, _⟩ := h; rw [h1] at e; cases e; exact fun z => z
  | ins C fs => obtain ⟨dx, vs, h1, _⟩ := h; rw [h1] at e; cases e; exact fun z => z
  | fdi xs => cases hop
theorem OR.some {Z : Zt} {ρ : List Addr} {H : Hp} {a : Addr} {o : MO} (h : OR Z ρ H a o) : ∃ u, H a = some u := by
  cases o with
  | lst xs => obtain ⟨vs, h1, _⟩ := h; exact ⟨_, h1⟩
  | dic xs => obtain ⟨vs, h1, _⟩ := h; exact ⟨_, h1⟩
  | dit xs => obtain ⟨vs, h1, _⟩ := h; exact ⟨_, h1⟩
  | ins C fs => obtain ⟨dx, vs, h1, _⟩ := h; exact ⟨_, h1⟩
  | fdi xs => obtain ⟨dx, vs, h1, _⟩ := h; exact ⟨_, h1⟩
section
variable {Z : Zt} {ρ : List Addr} {h : MH} {H : Hp}
theorem upd_none {p a : Addr} {u : HO} (e : upd H p u a = none) : H a = none := by
  by_cases q : a = p
  · subst q; rw [upd_same] at e; cases e
  · rw [upd_ne q] at e; exact e
theorem Ext.still1 {p : Addr} {u : HO} (hp : H p = none) : Ext ρ H ρ (upd H p u) :=
  ⟨⟨[], by simp⟩, fun a o e _ => by rw [upd_ne (ne_of_none e hp)]; exact e, fun a e => upd_none e⟩
theorem HR.still1 (R : HR Z ρ h H) {p : Addr} {u : HO} (hp : H p = none) : HR Z ρ h (upd H p u) := by
  refine ⟨R.nodup, R.len, fun i o e => ?_, R.has⟩
  obtain ⟨a, h1, h2⟩ := R.all i o e
  obtain ⟨u', h3⟩ := h2.some
  exact ⟨a, h1, h2.ext (Ext.still1 hp) (upd_ne (ne_of_none h3 hp))⟩
theorem Ext.push {p : Addr} {u : HO} (hp : H p = none) : Ext ρ H (ρ ++ [p]) (upd H p u) :=
  ⟨⟨[p], rfl, fun a ha => by rw [List.mem_singleton.mp ha]; exact hp⟩, fun a o e _ => by rw [upd_ne (ne_of_none e hp)]; exact e, fun a e => upd_none e⟩
theorem HR.push (R : HR Z ρ h H) {p : Addr} {u : HO} {o : MO} (hp : H p = none) (ho : OR Z (ρ ++ [p]) (upd H p u) p o) : HR Z (ρ ++ [p]) (h.push o) (upd H p u) := by
  refine ⟨?_, ?_, fun i o' e => ?_, fun i hi => ?_⟩
  · refine List.nodup_append.mpr ⟨R.nodup, by simp, fun a ha b hb => ?_⟩
    obtain ⟨i, hi, rfl⟩ := List.getElem_of_mem ha
    obtain rfl : b = p := by simpa using hb
    obtain ⟨o', e⟩ := Option.isSome_iff_exists.mp (R.has i (by rw [← R.len]; exact hi))
    obtain ⟨a', h1, h2⟩ := R.all i o' e
    obtain ⟨u', h3⟩ := h2.some
    rw [List.getElem?_eq_getElem hi] at h1
    cases h1
    exact ne_of_none h3 hp
  · show (ρ ++ [p]).length = h.n + 1
    rw [List.length_append, R.len]; rfl
  · rw [MH.get_push] at e
    by_cases hi : i = h.n
    · rw [if_pos hi] at e
      cases e
      subst hi
      exact ⟨p, by rw [← R.len]; simp, ho⟩
    · rw [if_neg hi] at e
      obtain ⟨a, h1, h2⟩ := R.all i o' e
      obtain ⟨u', h3⟩ := h2.some
      exact ⟨a, (Ext.push (u := u) hp).at h1, h2.ext (Ext.push hp) (upd_ne (ne_of_none h3 hp))⟩
  · rw [MH.get_push]
    by_cases e : i = h.n
    · rw [if_pos e]; rfl
    · rw [if_neg e]; exact R.has i (by have : i < h.n + 1 := hi; omega)
theorem Ext.set {a : Addr} {u : HO} (ha : a ∈ ρ) (hn : ∀ o, H a = some o → ¬ Still o) : Ext ρ H ρ (upd H a u) :=
  ⟨⟨[], by simp⟩, fun b o e s => by
    by_cases hb : b = a
    · subst hb
      rcases s with s | s
      · exact absurd s (hn o e)
      · exact absurd ha s
    · rw [upd_ne hb]; exact e, fun a e => upd_none e⟩
theorem HR.set (R : HR Z ρ h H) {i : Nat} {a : Addr} {u : HO} {o o' : MO} (ho : h.get i = some o) (ha : ρ[i]? = some a) (hu : OR Z ρ (upd H a u) a o') (hop : o.opn = true := by rfl) : HR Z ρ (h.set i o') (upd H a u) := by
  have hi := MH.get_lt ho
  have hn : ∀ o, H a = some o → ¬ Still o := fun u' e => by
    obtain ⟨a', h1, h2⟩ := R.all i o ho
    rw [ha] at h1; cases h1
    exact h2.notStill e hop
  refine ⟨R.nodup, R.len, fun j q e => ?_, fun j hj => ?_⟩
  · rw [MH.get_set hi] at e
    by_cases hj : j = i
    · rw [if_pos hj] at e
      cases e
      subst hj
      exact ⟨a, ha, hu⟩
    · rw [if_neg hj] at e
      obtain ⟨b, h1, h2⟩ := R.all j q e
      refine ⟨b, h1, h2.ext (Ext.set (List.mem_of_getElem? ha) hn) (upd_ne fun z => hj ?_)⟩
      subst z
      have l1 := (List.getElem?_eq_some_iff.mp h1)
      have l2 := (List.getElem?_eq_some_iff.mp ha)
      obtain ⟨q1, q2⟩ := l1
      obtain ⟨q3, q4⟩ := l2
      exact (List.getElem?_inj q1 R.nodup).mp (h1.trans ha.symm)
  · rw [MH.get_set hi]
    by_cases e : j = i
    · rw [if_pos e]; rfl
    · rw [if_neg e]; exact R.has j hj
end
end MI
set_option Elab.async false
set_option linter.all false
set_option maxRecDepth 100000
set_option maxHeartbeats 4000000
namespace MI
open PySem PySem.Spec PyProof.Rows L2 JB
inductive MX where
  | own (C : Nat) (ks : List Nat) (xs : List MV) | typ (s : String)
inductive Out (α : Type) where
  | bad | ok (a : α) (h : MH) | er (x : MX) (h : MH)
namespace Out
def bind {α β : Type} (o : Out α) (k : α → MH → Out β) : Out β := match o with
  | bad => bad
  | ok a h => k a h
  | er x h => er x h
end Out
abbrev ML := List (Option MV)
abbrev ME := ML → MH → Out MV
abbrev MA := ML → MH → Out (List MV)
abbrev MT := ML → MH → Out Bool
def XR (Z : Zt) (ρ : List Addr) (H : Hp) (E : XK) : MX → Prop
  | .own C ks xs => ∀ d vs, XdH H d ks vs → RVs Z ρ H xs vs → E (.ref (Z.adr C)) d H
  | .typ s => E (.type s) none H
abbrev Rl (α β : Type) := List Addr → Hp → α → β → Prop
def Post {α β : Type} (Z : Zt) (R : Rl α β) (ρ : List Addr) (H : Hp) (Q : β → Hp → Prop) (E : XK) : Out α → Prop
  | .bad => False
  | .ok a h' => ∀ ρ' H' b, Ext ρ H ρ' H' → HR Z ρ' h' H' → R ρ' H' a b → Q b H'
  | .er x h' => ∀ ρ' H', Ext ρ H ρ' H' → HR Z ρ' h' H' → XR Z ρ' H' E x
abbrev rV (Z : Zt) : Rl MV V := fun ρ H x v => RV Z ρ H x v
abbrev rVs (Z : Zt) : Rl (List MV) (List V) := fun ρ H x v => RVs Z ρ H x v
abbrev rB : Rl Bool Bool := fun _ _ x v => x = v
section
variable {α β γ δ : Type} {Z : Zt} {ρ : List Addr} {h : MH} {H : Hp} {E : XK}
theorem Post.mono {R : Rl α β} {Q Q' : β → Hp → Prop} {o : Out α} (p : Post Z R ρ H Q E o) (k : ∀ b H', Q b H' → Q' b H') : Post Z R ρ H Q' E o := by
  cases o with
  | bad => exact p
  | ok a h' => exact fun ρ' H' b e r q => k _ _ (p ρ' H' b e r q)
  | er x h' => exact p
theorem Post.ext {R : Rl α β} {Q : β → Hp → Prop} {ρ1 : List Addr} {H1 : Hp} {o : Out α} (p : Post Z R ρ H Q E o) (e1 : Ext ρ H ρ1 H1) : Post Z R ρ1 H1 Q E o := by
  cases o with
  | bad => exact p
  | ok a h' => exact fun ρ' H' b e r q => p ρ' H' b (e1.trans e) r q
  | er x h' => exact fun ρ' H' e r => p ρ' H' (e1.trans e) r
theorem Post.bind {R : Rl α β} {R' : Rl γ δ} {Q : δ → Hp → Prop} {o : Out α} {k : α → MH → Out γ} (p : Post Z R' ρ H Q E (o.bind k)) :
    Post Z R ρ H (fun b H1 => ∃ ρ1 h1 a, Ext ρ H ρ1 H1 ∧ HR Z ρ1 h1 H1 ∧ R ρ1 H1 a b ∧ Post Z R' ρ1 H1 Q E (k a h1)) E o := by
  cases o with
  | bad => exact p
  | ok a h' => exact fun ρ1 H1 b e r q => ⟨ρ1, h', a, e, r, q, Post.ext (o := k a h') p e⟩
  | er x h' => exact p
theorem Post.ok {R : Rl α β} {Q : β → Hp → Prop} {a : α} {b : β} (p : Post Z R ρ H Q E (.ok a h)) (r : HR Z ρ h H) (q : R ρ H a b) : Q b H := p ρ H b .refl r q
end
structure SR (Z : Zt) (ρ : List Addr) (m : ML) (h : MH) (σ : L2.St) (H : Hp) : Prop where
  hr : HR Z ρ h H
  len : m.length = σ.length
  slot : ∀ (i : Nat) (x : MV), m[i]? = some (some x) → ∃ v, σ[i]? = some (some v) ∧ RV Z ρ H x v
theorem SR.to {Z : Zt} {ρ ρ' : List Addr} {m : ML} {h h' : MH} {σ : L2.St} {H H' : Hp} (s : SR Z ρ m h σ H) (e : Ext ρ H ρ' H') (r : HR Z ρ' h' H') : SR Z ρ' m h' σ H' :=
  ⟨r, s.len, fun i x k => by obtain ⟨v, h1, h2⟩ := s.slot i x k; exact ⟨v, h1, h2.ext e⟩⟩
theorem SR.set {Z : Zt} {ρ : List Addr} {m : ML} {h : MH} {σ : L2.St} {H : Hp} {x : MV} {v : V} (s : SR Z ρ m h σ H) (i : Nat) (r : RV Z ρ H x v) : SR Z ρ (m.set i (some x)) h (σ.set i (some v)) H := by
  refine ⟨s.hr, by simp [s.len], fun j y k => ?_⟩
  by_cases e : j = i
  · subst e
    rw [List.getElem?_set] at k
    rw [if_pos rfl] at k
    split at k
    · rename_i hl
      cases k
      exact ⟨v, by rw [List.getElem?_set, if_pos rfl, if_pos (by rw [← s.len]; exact hl)], r⟩
    · cases k
  · rw [List.getElem?_set_ne (Ne.symm e)] at k ⊢
    exact s.slot j y k
def tE (Z : Zt) (E : XK) (g : ME) : TE := fun σ H Q => ∃ ρ m h, SR Z ρ m h σ H ∧ Post Z (rV Z) ρ H Q E (g m h)
def tA (Z : Zt) (E : XK) (g : MA) : TA := fun σ H Q => ∃ ρ m h, SR Z ρ m h σ H ∧ Post Z (rVs Z) ρ H Q E (g m h)
def tT (Z : Zt) (E : XK) (g : MT) : TT := fun σ H Q => ∃ ρ m h, SR Z ρ m h σ H ∧ Post Z rB ρ H Q E (g m h)
abbrev JE (X : Cx) (T : Nat → Addr) (E : XK) (e : Expr) (g : ME) : Prop := PE X e (tE ⟨X.K, T⟩ E g)
abbrev JA (X : Cx) (T : Nat → Addr) (E : XK) (e : List Expr) (g : MA) : Prop := PA X e (tA ⟨X.K, T⟩ E g)
abbrev JT (X : Cx) (T : Nat → Addr) (E : XK) (e : Expr) (g : MT) : Prop := PT X e (tT ⟨X.K, T⟩ E g)
abbrev JW (X : Cx) (T : Nat → Addr) (E : XK) (e : Expr) (g : MT) : Prop := PW X e (tT ⟨X.K, T⟩ E g)
section
variable {X : Cx} {E : XK} {e a b c : Expr} {es : List Expr} {pos : Pos}
theorem PE.le {t t' : TE} (p : PE X e t) (k : ∀ σ H Q, t' σ H Q → t σ H Q) : PE X e t' := ⟨fun pins s σ H Q I h => p.run pins s σ H Q I (k σ H Q h)⟩
theorem PA.le {t t' : TA} (p : PA X es t) (k : ∀ σ H Q, t' σ H Q → t σ H Q) : PA X es t' := ⟨fun po pins s σ H Q I h => p.run po pins s σ H Q I (k σ H Q h)⟩
theorem PT.le {t t' : TT} (p : PT X e t) (k : ∀ σ H Q, t' σ H Q → t σ H Q) : PT X e t' := ⟨fun pins s σ H Q I h => p.run pins s σ H Q I (k σ H Q h)⟩
theorem PW.le {t t' : TT} (p : PW X e t) (k : ∀ σ H Q, t' σ H Q → t σ H Q) : PW X e t' := ⟨fun w pins s σ H Q I h => p.run w pins s σ H Q I (k σ H Q h)⟩
end
section
variable {γ δ : Type} {Z : Zt} {E : XK} {ρ : List Addr} {m : ML} {h : MH} {σ : L2.St} {H : Hp}
theorem stepE {R' : Rl γ δ} {Q : δ → Hp → Prop} {Q' : V → Hp → Prop} {g : ME} {k : MV → MH → Out γ} (s : SR Z ρ m h σ H) (p : Post Z R' ρ H Q E ((g m h).bind k))
    (n : ∀ ρ1 h1 H1 a v, SR Z ρ1 m h1 σ H1 → Ext ρ H ρ1 H1 → RV Z ρ1 H1 a v → Post Z R' ρ1 H1 Q E (k a h1) → Q' v H1) : tE Z E g σ H Q' :=
  ⟨ρ, m, h, s, p.bind.mono fun b H' ⟨ρ1, h1, a, e, r, q, z⟩ => n ρ1 h1 H' a b (s.to e r) e q z⟩
theorem stepA {R' : Rl γ δ} {Q : δ → Hp → Prop} {Q' : List V → Hp → Prop} {g : MA} {k : List MV → MH → Out γ} (s : SR Z ρ m h σ H) (p : Post Z R' ρ H Q E ((g m h).bind k))
    (n : ∀ ρ1 h1 H1 a v, SR Z ρ1 m h1 σ H1 → Ext ρ H ρ1 H1 → RVs Z ρ1 H1 a v → Post Z R' ρ1 H1 Q E (k a h1) → Q' v H1) : tA Z E g σ H Q' :=
  ⟨ρ, m, h, s, p.bind.mono fun b H' ⟨ρ1, h1, a, e, r, q, z⟩ => n ρ1 h1 H' a b (s.to e r) e q z⟩
theorem stepT {R' : Rl γ δ} {Q : δ → Hp → Prop} {Q' : Bool → Hp → Prop} {g : MT} {k : Bool → MH → Out γ} (s : SR Z ρ m h σ H) (p : Post Z R' ρ H Q E ((g m h).bind k))
    (n : ∀ ρ1 h1 H1 a, SR Z ρ1 m h1 σ H1 → Ext ρ H ρ1 H1 → Post Z R' ρ1 H1 Q E (k a h1) → Q' a H1) : tT Z E g σ H Q' :=
  ⟨ρ, m, h, s, p.bind.mono fun b H' ⟨ρ1, h1, a, e, r, q, z⟩ => by have q' : a = b := q; rw [← q']; exact n ρ1 h1 H' a (s.to e r) e z⟩
theorem endE {Q : VK} {g : ME} (s : SR Z ρ m h σ H) (p : Post Z (rV Z) ρ H Q E (g m h)) : tE Z E g σ H Q := ⟨ρ, m, h, s, p⟩
end
def gVar (i : Nat) : ME := fun m h => match m[i]? with
  | some (some v) => .ok v h
  | _ => .bad
def gC (v : MV) : ME := fun _ h => .ok v h
def gBin (f : MV → MV → MH → Out MV) (a b : ME) : ME := fun m h => (a m h).bind fun x h1 => (b m h1).bind fun y h2 => f x y h2
def gUn (f : MV → MH → Out MV) (a : ME) : ME := fun m h => (a m h).bind fun x h1 => f x h1
def gNil : MA := fun _ h => .ok [] h
def gCons (a : ME) (r : MA) : MA := fun m h => (a m h).bind fun x h1 => (r m h1).bind fun xs h2 => .ok (x :: xs) h2
def gTup (r : MA) : ME := fun m h => (r m h).bind fun xs h1 => if xs.length ≤ 1000000 then .ok (.tup xs) h1 else .bad
def gLst (r : MA) : ME := fun m h => (r m h).bind fun xs h1 => if xs.length ≤ 1000000 then .ok (.ref h1.n) (h1.push (.lst xs)) else .bad
def gB (a : ME) : MT := fun m h => (a m h).bind fun x h1 => match x with
  | .bl b => .ok b h1
  | _ => .bad
def gAnd (a b : MT) : MT := fun m h => (a m h).bind fun c h1 => if c = true then b m h1 else .ok false h1
def gOr (a b : MT) : MT := fun m h => (a m h).bind fun c h1 => if c = true then .ok true h1 else b m h1
def gNot (a : MT) : MT := fun m h => (a m h).bind fun c h1 => .ok (!c) h1
section
variable {X : Cx} {T : Nat → Addr} {E : XK} {e a b c : Expr} {es rest : List Expr} {pos : Pos} {ga gb : ME} {gr : MA} {gt gu : MT}
theorem je_var {i : Nat} {x : Str} (p : PE X (.Name x pos) (tVar i)) : JE X T E (.Name x pos) (gVar i) := by
  refine PE.le p fun σ H Q ⟨ρ, m, h, s, q⟩ => ?_
  unfold gVar at q
  cases k : m[i]? with
  | none => rw [k] at q; exact q.elim
  | some o =>
    cases o with
    | none => rw [k] at q; exact q.elim
    | some v =>
      rw [k] at q
      obtain ⟨w, h1, h2⟩ := s.slot i v k
      exact ⟨w, h1, q.ok s.hr h2⟩
theorem je_c {v : MV} {w : V} (p : PE X e (tC w)) (r : ∀ ρ H, RV ⟨X.K, T⟩ ρ H v w) : JE X T E e (gC v) :=
  PE.le p fun σ H Q ⟨ρ, m, h, s, q⟩ => q.ok s.hr (r ρ H)
theorem je_int {i j} : JE X T E (.Constant (.int i) j pos) (gC (.int i)) := je_c pe_int fun _ _ => .int _
theorem je_bl {i j} : JE X T E (.Constant (.bool i) j pos) (gC (.bl i)) := je_c pe_bl fun _ _ => .bl _
theorem je_str {i j} {l : List Nat} (h : i = ⟨l.toArray⟩ := by rfl) : JE X T E (.Constant (.str i) j pos) (gC (.str l)) := je_c pe_str fun _ _ => by rw [h]; exact .str _
theorem je_non {j} : JE X T E (.Constant .none j pos) (gC .non) := je_c pe_non fun _ _ => .non
theorem ja_nil : JA X T E [] gNil := PA.le pa_nil fun σ H Q ⟨ρ, m, h, s, q⟩ => q.ok s.hr .nil
theorem ja_cons (ha : JE X T E e ga) (hr : JA X T E es gr) (hs : starEach (e :: es) X.env = (false, eval e X.env) :: starEach es X.env := by rfl) : JA X T E (e :: es) (gCons ga gr) :=
  PA.le (pa_cons ha hr hs) fun σ H Q ⟨ρ, m, h, s, q⟩ => stepE s q fun ρ1 h1 H1 x v s1 e1 r1 q1 => stepA s1 q1 fun ρ2 h2 H2 xs vs s2 e2 r2 q2 => q2.ok s2.hr (.cons (r1.ext e2) r2)
def OpM (Z : Zt) (E : XK) (f : MV → MV → MH → Out MV) (r : R2) : Prop :=
  ∀ ρ h H x y v w Q, HR Z ρ h H → RV Z ρ H x v → RV Z ρ H y w → Post Z (rV Z) ρ H Q E (f x y h) → r v w H Q
theorem le_op {f : MV → MV → MH → Out MV} {r : R2} (o : OpM ⟨X.K, T⟩ E f r) : ∀ σ H Q, tE ⟨X.K, T⟩ E (gBin f ga gb) σ H Q → tOp r (tE ⟨X.K, T⟩ E ga) (tE ⟨X.K, T⟩ E gb) σ H Q :=
  fun σ H Q ⟨ρ, m, h, s, q⟩ => stepE s q fun ρ1 h1 H1 x v s1 e1 r1 q1 => stepE s1 q1 fun ρ2 h2 H2 y w s2 e2 r2 q2 => o ρ2 h2 H2 x y v w Q s2.hr (r1.ext e2) r2 q2
theorem je_op {op : Operator} {f : MV → MV → MH → Out MV} {r : R2} (ho : OpR X (binaryOp op) r) (o : OpM ⟨X.K, T⟩ E f r) (ha : JE X T E a ga) (hb : JE X T E b gb) : JE X T E (.BinOp a op b pos) (gBin f ga gb) :=
  PE.le (pe_op ho ha hb) (le_op o)
theorem je_cmp {op : CmpOp} {f : MV → MV → MH → Out MV} {r : R2} (ho : OpR X (compareOp op) r) (o : OpM ⟨X.K, T⟩ E f r) (ha : JE X T E a ga) (hb : JE X T E b gb) (hm : behindInMarks op b = false) : JE X T E (.Compare a [op] [b] pos) (gBin f ga gb) :=
  PE.le (pe_cmpR ho ha hb hm) (le_op o)
theorem jt_cmp {op : CmpOp} {f : MV → MV → MH → Out MV} {r : R2} (ho : OpR X (compareOp op) r) (o : OpM ⟨X.K, T⟩ E f r) (ha : JE X T E a ga) (hb : JE X T E b gb) (hm : behindInMarks op b = false) : JT X T E (.Compare a [op] [b] pos) (gB (gBin f ga gb)) := by
  refine PT.le (pt_cmpR ho ha hb hm) fun σ H Q ⟨ρ, m, h, s, q⟩ => ?_
  have : tE ⟨X.K, T⟩ E (gBin f ga gb) σ H fun x H1 => ∃ c, x = .bl c ∧ Q c H1 := stepE s q fun ρ1 h1 H1 x v s1 e1 r1 q1 => by
    cases r1 with
    | bl b => exact ⟨b, rfl, q1.ok s1.hr rfl⟩
    | _ => exact q1.elim
  exact le_op o σ H _ this
theorem RVs.length {Z : Zt} {ρ : List Addr} {H : Hp} {xs : List MV} {vs : List V} : RVs Z ρ H xs vs → xs.length = vs.length
  | .nil => rfl
  | .cons _ r => by simp [RVs.length r]
theorem je_tup {x1} (h : JA X T E es gr) : JE X T E (.Tuple es x1 pos) (gTup gr) :=
  PE.le (pe_tup h) fun σ H Q ⟨ρ, m, h, s, q⟩ => stepA s q fun ρ1 h1 H1 xs vs s1 e1 r1 q1 => by
    by_cases z : xs.length ≤ 1000000
    · rw [if_pos z] at q1
      refine ⟨by rw [← r1.length, sizeLine_eq]; omega, fun p hp => ?_⟩
      exact q1 ρ1 _ _ (Ext.still1 hp) (s1.hr.still1 hp) (.tup upd_same (r1.ext (Ext.still1 hp)))
    · rw [if_neg z] at q1
      exact q1.elim
theorem je_lst (h : JA X T E es gr) : JE X T E (.List es pos) (gLst gr) :=
  PE.le (pe_lst h) fun σ H Q ⟨ρ, m, h, s, q⟩ => stepA s q fun ρ1 h1 H1 xs vs s1 e1 r1 q1 => by
    by_cases z : xs.length ≤ 1000000
    · rw [if_pos z] at q1
      refine ⟨by rw [← r1.length, sizeLine_eq]; omega, fun p hp => ?_⟩
      refine q1 (ρ1 ++ [p]) _ _ (Ext.push hp) (s1.hr.push hp ⟨vs, upd_same, r1.ext (Ext.push hp)⟩) (.ref ?_)
      rw [← s1.hr.len]; simp
    · rw [if_neg z] at q1
      exact q1.elim
theorem jw_and1 (ha : JT X T E a gt) : JW X T E (.BoolOp .And [a] pos) gt := pw_and1 ha
theorem jw_or1 (ha : JT X T E a gt) : JW X T E (.BoolOp .Or [a] pos) gt := pw_or1 ha
theorem endT {Z : Zt} {ρ : List Addr} {m : ML} {h : MH} {σ : L2.St} {H : Hp} {Q : Bool → Hp → Prop} {g : MT} (s : SR Z ρ m h σ H) (p : Post Z rB ρ H Q E (g m h)) : tT Z E g σ H Q := ⟨ρ, m, h, s, p⟩
theorem jw_and (ha : JT X T E a gt) (hb : JW X T E (.BoolOp .And (b :: rest) pos) gu) : JW X T E (.BoolOp .And (a :: b :: rest) pos) (gAnd gt gu) :=
  PW.le (pw_and ha hb) fun σ H Q ⟨ρ, m, h, s, q⟩ => stepT s q fun ρ1 h1 H1 d s1 e1 q1 => by
    cases d with
    | true => exact endT s1 q1
    | false => exact q1.ok s1.hr rfl
theorem jw_or (ha : JT X T E a gt) (hb : JW X T E (.BoolOp .Or (b :: rest) pos) gu) : JW X T E (.BoolOp .Or (a :: b :: rest) pos) (gOr gt gu) :=
  PW.le (pw_or ha hb) fun σ H Q ⟨ρ, m, h, s, q⟩ => stepT s q fun ρ1 h1 H1 d s1 e1 q1 => by
    cases d with
    | true => exact q1.ok s1.hr rfl
    | false => exact endT s1 q1
theorem jt_not (ha : JT X T E a gt) : JT X T E (.UnaryOp .Not a pos) (gNot gt) :=
  PT.le (pt_not ha) fun σ H Q ⟨ρ, m, h, s, q⟩ => stepT s q fun ρ1 h1 H1 d s1 e1 q1 => q1.ok s1.hr rfl
theorem je_one {op} (ha : JE X T E a ga) : JE X T E (.BoolOp op [a] pos) ga := pe_one ha
end
end MI
set_option Elab.async false
set_option linter.all false
set_option maxRecDepth 100000
set_option maxHeartbeats 4000000
namespace MI
open PySem PySem.Spec PyProof.Rows L2 JB
inductive SO where
  | bad | nx (m : ML) (h : MH) | rt (v : MV) (h : MH) | bk (m : ML) (h : MH) | ct (m : ML) (h : MH) | er (x : MX) (h : MH)
def Out.bindS {α : Type} (o : Out α) (k : α → MH → SO) : SO := match o with
  | .bad => .bad
  | .ok a h => k a h
  | .er x h => .er x h
def SO.next (o : SO) (k : ML → MH → SO) : SO := match o with
  | .nx m h => k m h
  | o => o
abbrev MS := ML → MH → SO
def SO.only : SO → SO
  | .nx m h => .nx m h
  | .er x h => .er x h
  | _ => .bad
abbrev MG := MV → ML → MH → SO
def PostS (Z : Zt) (ρ : List Addr) (H : Hp) (D : Ends) (E : XK) : SO → Prop
  | .bad => False
  | .nx m' h' => ∀ ρ' H' σ', Ext ρ H ρ' H' → SR Z ρ' m' h' σ' H' → D.nx σ' H'
  | .rt x h' => ∀ ρ' H' v, Ext ρ H ρ' H' → HR Z ρ' h' H' → RV Z ρ' H' x v → D.rt v H'
  | .bk m' h' => ∀ ρ' H' σ', Ext ρ H ρ' H' → SR Z ρ' m' h' σ' H' → D.bk σ' H'
  | .ct m' h' => ∀ ρ' H' σ', Ext ρ H ρ' H' → SR Z ρ' m' h' σ' H' → D.ct σ' H'
  | .er x h' => ∀ ρ' H', Ext ρ H ρ' H' → HR Z ρ' h' H' → XR Z ρ' H' E x
def tS (Z : Zt) (E : XK) (g : MS) : TS := fun D σ H => ∃ ρ m h, SR Z ρ m h σ H ∧ PostS Z ρ H D E (g m h)
def tG (Z : Zt) (E : XK) (g : MG) : TG := fun v σ H Q => ∃ ρ m h x, SR Z ρ m h σ H ∧ RV Z ρ H x v ∧ PostS Z ρ H { nx := Q, rt := fun _ _ => False } E (g x m h)
abbrev JS (X : Cx) (T : Nat → Addr) (E : XK) (st : Stmt) (g : MS) : Prop := PS X st (tS ⟨X.K, T⟩ E g)
abbrev JSs (X : Cx) (T : Nat → Addr) (E : XK) (st : List Stmt) (g : MS) : Prop := PSs X st (tS ⟨X.K, T⟩ E g)
abbrev JG (X : Cx) (T : Nat → Addr) (E : XK) (e : Expr) (g : MG) : Prop := PG X e (tG ⟨X.K, T⟩ E g)
section
variable {Z : Zt} {E : XK} {ρ : List Addr} {m : ML} {h : MH} {σ : L2.St} {H : Hp} {D : Ends}
theorem PostS.ext {ρ1 : List Addr} {H1 : Hp} {o : SO} (p : PostS Z ρ H D E o) (e1 : Ext ρ H ρ1 H1) : PostS Z ρ1 H1 D E o := by
  cases o with
  | bad => exact p
  | nx m' h' => exact fun ρ' H' b e r => p ρ' H' b (e1.trans e) r
  | bk m' h' => exact fun ρ' H' b e r => p ρ' H' b (e1.trans e) r
  | ct m' h' => exact fun ρ' H' b e r => p ρ' H' b (e1.trans e) r
  | rt v h' => exact fun ρ' H' b e r q => p ρ' H' b (e1.trans e) r q
  | er x h' => exact fun ρ' H' e r => p ρ' H' (e1.trans e) r
theorem PostS.bind {α β : Type} {R : Rl α β} {o : Out α} {k : α → MH → SO} (p : PostS Z ρ H D E (o.bindS k)) :
    Post Z R ρ H (fun b H1 => ∃ ρ1 h1 a, Ext ρ H ρ1 H1 ∧ HR Z ρ1 h1 H1 ∧ R ρ1 H1 a b ∧ PostS Z ρ1 H1 D E (k a h1)) E o := by
  cases o with
  | bad => exact p
  | ok a h' => exact fun ρ1 H1 b e r q => ⟨ρ1, h', a, e, r, q, PostS.ext (o := k a h') p e⟩
  | er x h' => exact p
theorem sE {Q' : V → Hp → Prop} {g : ME} {k : MV → MH → SO} (s : SR Z ρ m h σ H) (p : PostS Z ρ H D E ((g m h).bindS k))
    (n : ∀ ρ1 h1 H1 a v, SR Z ρ1 m h1 σ H1 → Ext ρ H ρ1 H1 → RV Z ρ1 H1 a v → PostS Z ρ1 H1 D E (k a h1) → Q' v H1) : tE Z E g σ H Q' :=
  ⟨ρ, m, h, s, p.bind.mono fun b H' ⟨ρ1, h1, a, e, r, q, z⟩ => n ρ1 h1 H' a b (s.to e r) e q z⟩
theorem sT {Q' : Bool → Hp → Prop} {g : MT} {k : Bool → MH → SO} (s : SR Z ρ m h σ H) (p : PostS Z ρ H D E ((g m h).bindS k))
    (n : ∀ ρ1 h1 H1 a, SR Z ρ1 m h1 σ H1 → Ext ρ H ρ1 H1 → PostS Z ρ1 H1 D E (k a h1) → Q' a H1) : tT Z E g σ H Q' :=
  ⟨ρ, m, h, s, (PostS.bind (R := rB) p).mono fun b H' ⟨ρ1, h1, a, e, r, q, z⟩ => by have q' : a = b := q; rw [← q']; exact n ρ1 h1 H' a (s.to e r) e z⟩
theorem PostS.only {o : SO} (p : PostS Z ρ H D E o.only) : PostS Z ρ H { nx := D.nx, rt := fun _ _ => False } E o := by
  cases o with
  | nx m' h' => exact p
  | er x h' => exact p
  | bad => exact p.elim
  | rt v h' => exact p.elim
  | bk m' h' => exact p.elim
  | ct m' h' => exact p.elim
theorem PostS.next {o : SO} {k : ML → MH → SO} (p : PostS Z ρ H D E (o.next k)) : PostS Z ρ H { D with nx := fun σ1 H1 => ∃ ρ1 m1 h1, SR Z ρ1 m1 h1 σ1 H1 ∧ PostS Z ρ1 H1 D E (k m1 h1) } E o := by
  cases o with
  | nx m' h' => exact fun ρ' H' σ' e s => ⟨ρ', m', h', s, PostS.ext (o := k m' h') p e⟩
  | bad => exact p
  | rt v h' => exact p
  | bk m' h' => exact p
  | ct m' h' => exact p
  | er x h' => exact p
end
def gNext : MS := fun m h => .nx m h
def gSeq (a b : MS) : MS := fun m h => (a m h).next b
def gExpr (a : ME) : MS := fun m h => (a m h).bindS fun _ h1 => .nx m h1
def gRet (a : ME) : MS := fun m h => (a m h).bindS fun x h1 => .rt x h1
def gRetN : MS := fun _ h => .rt .non h
def gIfS (c : MT) (a b : MS) : MS := fun m h => (c m h).bindS fun d h1 => if d = true then a m h1 else b m h1
def gAsg (a : ME) (t : MG) : MS := fun m h => (a m h).bindS fun x h1 => (t x m h1).only
def tgName (i : Nat) : MG := fun x m h => .nx (m.set i (some x)) h
def gWhile (c : MT) (b : MS) : Nat → MS
  | 0, _, _ => .bad
  | n + 1, m, h => (c m h).bindS fun d h1 => if d = true then match b m h1 with
      | .nx m2 h2 => gWhile c b n m2 h2
      | .ct m2 h2 => gWhile c b n m2 h2
      | .bk m2 h2 => .nx m2 h2
      | o => o
    else .nx m h1
structure It1 where
  size : MH → Nat
  at_ : Nat → MH → Option (Option MV)
abbrev MI1 := ML → MH → Out It1
def gForN (it : It1) (t : MG) (b : MS) : Nat → Nat → MS
  | 0, _, _, _ => .bad
  | n + 1, i, m, h => match it.at_ i h with
    | none => .bad
    | some none => .nx m h
    | some (some x) => match t x m h with
      | .nx m1 h1 => match b m1 h1 with
        | .nx m2 h2 => gForN it t b n (i + 1) m2 h2
        | .ct m2 h2 => gForN it t b n (i + 1) m2 h2
        | .bk m2 h2 => .nx m2 h2
        | o => o
      | .er x h => .er x h
      | _ => .bad
def gFor (i : MI1) (t : MG) (b : MS) : MS := fun m h => (i m h).bindS fun it h1 => gForN it t b (it.size h1 + 1) 0 m h1
def rI (Z : Zt) : Rl It1 It := fun ρ H it J => ∀ i ρ' h' H', Ext ρ H ρ' H' → HR Z ρ' h' H' → match it.at_ i h' with
  | none => True
  | some none => J.stop i H'
  | some (some x) => J.go i H' ∧ ∀ v H'', J.yld i H' v H'' → ∃ ρ'', Ext ρ' H' ρ'' H'' ∧ HR Z ρ'' h' H'' ∧ RV Z ρ'' H'' x v
def tI (Z : Zt) (E : XK) (g : MI1) : TI := fun σ H R => ∃ ρ m h, SR Z ρ m h σ H ∧ Post Z (rI Z) ρ H R E (g m h)
abbrev JI (X : Cx) (T : Nat → Addr) (E : XK) (tg iter : Expr) (g : MI1) : Prop := PI X tg iter (tI ⟨X.K, T⟩ E g)
section
variable {X : Cx} {T : Nat → Addr} {E : XK} {e a b c : Expr} {st : Stmt} {rest body : List Stmt} {pos : Pos} {ga gb : ME} {gt : MT} {gs gu : MS} {gg : MG}
theorem PS.le {t t' : TS} (p : PS X st t) (k : ∀ D σ H, t' D σ H → t D σ H) : PS X st t' := ⟨fun pins s σ H D I h => p.run pins s σ H D I (k D σ H h)⟩
theorem PSs.le {t t' : TS} (p : PSs X rest t) (k : ∀ D σ H, t' D σ H → t D σ H) : PSs X rest t' := ⟨fun pins s σ H D I h => p.run pins s σ H D I (k D σ H h)⟩
theorem PG.le {t t' : TG} (p : PG X e t) (k : ∀ v σ H Q, t' v σ H Q → t v σ H Q) : PG X e t' := ⟨fun pins s σ H v u Q I r h => p.run pins s σ H v u Q I r (k v σ H Q h)⟩
theorem PI.le {t t' : TI} {tg : Expr} (p : PI X tg e t) (k : ∀ σ H Q, t' σ H Q → t σ H Q) : PI X tg e t' := ⟨fun pins s σ H R I h => p.run pins s σ H R I (k σ H R h)⟩
theorem js_nil : JSs X T E [] gNext := PSs.le pss_nil fun D σ H ⟨ρ, m, h, s, q⟩ => q ρ H σ .refl s
theorem js_cons (h1 : JS X T E st gs) (h2 : JSs X T E rest gu) : JSs X T E (st :: rest) (gSeq gs gu) :=
  PSs.le (pss_cons h1 h2) fun D σ H ⟨ρ, m, h, s, q⟩ => ⟨ρ, m, h, s, q.next⟩
theorem js_one (h1 : JS X T E st gs) : JSs X T E [st] gs := pss_one h1
theorem js_pass : JS X T E (.Pass pos) gNext := PS.le ps_pass fun D σ H ⟨ρ, m, h, s, q⟩ => q ρ H σ .refl s
theorem js_expr (he : JE X T E e ga) (hs : swapsWith e none pos.line X.env = pure false := by rfl) : JS X T E (.Expr e pos) (gExpr ga) :=
  PS.le (ps_expr he hs) fun D σ H ⟨ρ, m, h, s, q⟩ => sE s q fun ρ1 h1 H1 x v s1 e1 r1 q1 => q1 ρ1 H1 σ .refl s1
theorem js_ret (he : JE X T E e ga) : JS X T E (.Return (some e) pos) (gRet ga) :=
  PS.le (ps_ret he) fun D σ H ⟨ρ, m, h, s, q⟩ => sE s q fun ρ1 h1 H1 x v s1 e1 r1 q1 => q1 ρ1 H1 v .refl s1.hr r1
theorem js_retN : JS X T E (.Return none pos) gRetN := PS.le ps_retN fun D σ H ⟨ρ, m, h, s, q⟩ => q ρ H .non .refl s.hr .non
theorem js_if {p q : List Stmt} (hc : JT X T E c gt) (ha : JSs X T E p gs) (hb : JSs X T E q gu) : JS X T E (.If c p q pos) (gIfS gt gs gu) :=
  PS.le (ps_if hc ha hb) fun D σ H ⟨ρ, m, h, s, q⟩ => sT s q fun ρ1 h1 H1 d s1 e1 q1 => by
    cases d with
    | true => exact ⟨ρ1, m, h1, s1, q1⟩
    | false => exact ⟨ρ1, m, h1, s1, q1⟩
theorem jg_name {i : Nat} {x : Str} (p : PG X (.Name x pos) (gName i)) : JG X T E (.Name x pos) (tgName i) :=
  PG.le p fun v σ H Q ⟨ρ, m, h, x, s, r, q⟩ => q ρ H _ .refl (s.set i r)
theorem js_asg {tg : Expr} (he : JE X T E e ga) (hg : JG X T E tg gg) (hs : swapsWithSole [tg] e pos.line X.env = pure false := by rfl) (hw : swappedStores [tg] e X.env = pure none := by rfl)
    (h1 : (assignEach [tg] X.env).map (·.2) = [assign tg X.env] := by rfl) : JS X T E (.Assign [tg] e pos) (gAsg ga gg) :=
  PS.le (ps_asg he hg hs hw h1) fun D σ H ⟨ρ, m, h, s, q⟩ => sE s q fun ρ1 h1 H1 x v s1 e1 r1 q1 => ⟨ρ1, m, h1, x, s1, r1, q1.only⟩
theorem js_set {i : Nat} {x : Str} {pos' : Pos} (hN : X.N.Nodup) (hi : X.N[i]? = some x) (hx : Loc X.env.scope x) (he : JE X T E e ga) (hs : swapsWith e (some (.Name x pos')) pos.line X.env = pure false := by rfl) (hf : X.fn x = true ∨ X.env.scope.names.lookup x = some .local := by first | exact .inl rfl | exact .inr rfl | assumption) :
    JS X T E (.Assign [.Name x pos'] e pos) (gAsg ga (tgName i)) :=
  PS.le (ps_set (i := i) hN hi hx he hs hf) fun D σ H ⟨ρ, m, h, s, q⟩ => sE s q fun ρ1 h1 H1 x v s1 e1 r1 q1 => q1 ρ1 H1 _ .refl (s1.set i r1)
theorem js_while {p : List Stmt} (N : Nat) (hp : PassesOwn (model X.prog X.w) X.A X.env X.xe) (hc : JT X T E c gt) (hb : JSs X T E p gs) : JS X T E (.While c p [] pos) (gWhile gt gs N) := by
  refine PS.le (ps_while hp hc hb) fun D σ H ⟨ρ, m, h, s, q⟩ => ?_
  refine ⟨fun n σ1 H1 => ∃ ρ1 m1 h1, SR ⟨X.K, T⟩ ρ1 m1 h1 σ1 H1 ∧ PostS ⟨X.K, T⟩ ρ1 H1 D E (gWhile gt gs n m1 h1), ⟨N, ρ, m, h, s, q⟩, fun n σ1 H1 ⟨ρ1, m1, h1, s1, q1⟩ => ?_⟩
  cases n with
  | zero => exact q1.elim
  | succ n =>
    refine sT (k := fun d h1 => if d = true then match gs m1 h1 with
      | .nx m2 h2 => gWhile gt gs n m2 h2
      | .ct m2 h2 => gWhile gt gs n m2 h2
      | .bk m2 h2 => .nx m2 h2
      | o => o
      else .nx m1 h1) s1 q1 fun ρ2 h2 H2 d s2 e2 q2 => ?_
    cases d with
    | false => exact q2 ρ2 H2 σ1 .refl s2
    | true =>
      refine ⟨fun σ3 H3 => ∃ ρ3 m3 h3, SR ⟨X.K, T⟩ ρ3 m3 h3 σ3 H3 ∧ PostS ⟨X.K, T⟩ ρ3 H3 D E (gWhile gt gs n m3 h3), fun σ3 H3 z => ⟨n, Nat.lt_succ_self _, z⟩, ρ2, m1, h2, s2, ?_⟩
      have q3 : PostS ⟨X.K, T⟩ ρ2 H2 D E (match gs m1 h2 with
        | .nx m2 h2 => gWhile gt gs n m2 h2
        | .ct m2 h2 => gWhile gt gs n m2 h2
        | .bk m2 h2 => .nx m2 h2
        | o => o) := q2
      generalize gs m1 h2 = o at q3 ⊢
      cases o with
      | bad => exact q3
      | nx m3 h3 => exact fun ρ' H' σ' e s => ⟨ρ', m3, h3, s, PostS.ext (o := gWhile gt gs n m3 h3) q3 e⟩
      | ct m3 h3 => exact fun ρ' H' σ' e s => ⟨ρ', m3, h3, s, PostS.ext (o := gWhile gt gs n m3 h3) q3 e⟩
      | bk m3 h3 => exact q3
      | rt v h3 => exact q3
      | er x h3 => exact q3
theorem js_for {tg iter : Expr} {p : List Stmt} {gi : MI1} (hp : PassesOwn (model X.prog X.w) X.A X.env X.xe) (hc : X.calm = true) (hi : JI X T E tg iter gi) (hg : JG X T E tg gg) (hb : JSs X T E p gs)
    (hs : ∀ x, foldedSetIterable iter X.env x = pure x := by intro _; rfl) : JS X T E (.For tg iter p [] pos) (gFor gi gg gs) := by
  refine PS.le (ps_for hp hc hi hg hb hs) fun D σ H ⟨ρ, m, h, s, q⟩ => ⟨ρ, m, h, s, ?_⟩
  refine (PostS.bind (R := rI ⟨X.K, T⟩) q).mono fun J H1 ⟨ρ1, h1, it, e1, r1, w1, q1⟩ => ?_
  have s1 := s.to e1 r1
  refine ⟨fun i n σ2 H2 => ∃ ρ2 m2 h2, Ext ρ1 H1 ρ2 H2 ∧ SR ⟨X.K, T⟩ ρ2 m2 h2 σ2 H2 ∧ PostS ⟨X.K, T⟩ ρ2 H2 D E (gForN it gg gs n i m2 h2), ⟨_, ρ1, m, h1, .refl, s1, q1⟩, fun i n σ2 H2 ⟨ρ2, m2, h2, e2, s2, q2⟩ => ?_⟩
  cases n with
  | zero => exact q2.elim
  | succ n =>
    have w2 := w1 i ρ2 h2 H2 e2 s2.hr
    unfold gForN at q2
    cases k : it.at_ i h2 with
    | none => rw [k] at q2; exact q2.elim
    | some o =>
      rw [k] at q2 w2
      cases o with
      | none => exact .inl ⟨w2, q2 ρ2 H2 σ2 .refl s2⟩
      | some x =>
        refine .inr ⟨w2.1, fun σ3 H3 => ∃ ρ3 m3 h3, Ext ρ1 H1 ρ3 H3 ∧ SR ⟨X.K, T⟩ ρ3 m3 h3 σ3 H3 ∧ PostS ⟨X.K, T⟩ ρ3 H3 D E (gForN it gg gs n (i + 1) m3 h3), fun σ3 H3 z => ⟨n, Nat.lt_succ_self _, z⟩, fun v H3 y => ?_⟩
        obtain ⟨ρ3, e3, r3, rv3⟩ := w2.2 v H3 y
        have q3 : PostS ⟨X.K, T⟩ ρ2 H2 D E (match gg x m2 h2 with
          | .nx m1 h1 => match gs m1 h1 with
            | .nx m2 h2 => gForN it gg gs n (i + 1) m2 h2
            | .ct m2 h2 => gForN it gg gs n (i + 1) m2 h2
            | .bk m2 h2 => .nx m2 h2
            | o => o
          | .er x h => .er x h
          | _ => .bad) := q2
        refine ⟨ρ3, m2, h2, x, s2.to e3 r3, rv3, ?_⟩
        generalize gg x m2 h2 = o at q3 ⊢
        cases o with
        | bad => exact q3
        | rt _ _ => exact q3.elim
        | bk _ _ => exact q3.elim
        | ct _ _ => exact q3.elim
        | er y h4 => exact q3.ext (o := SO.er y h4) e3
        | nx m4 h4 =>
          intro ρ5 H5 σ5 e5 s5
          refine ⟨ρ5, m4, h4, s5, ?_⟩
          have q4 : PostS ⟨X.K, T⟩ ρ2 H2 D E (match gs m4 h4 with
            | .nx m2 h2 => gForN it gg gs n (i + 1) m2 h2
            | .ct m2 h2 => gForN it gg gs n (i + 1) m2 h2
            | .bk m2 h2 => .nx m2 h2
            | o => o) := q3
          have e35 := e3.trans e5
          have q5 := PostS.ext q4 e35
          have e15 := (e2.trans e3).trans e5
          clear q4 q3
          generalize gs m4 h4 = o at q5 ⊢
          cases o with
          | bad => exact q5
          | nx m3 h3 => exact fun ρ' H' σ' e s => ⟨ρ', m3, h3, e15.trans e, s, PostS.ext (o := gForN it gg gs n (i + 1) m3 h3) q5 e⟩
          | ct m3 h3 => exact fun ρ' H' σ' e s => ⟨ρ', m3, h3, e15.trans e, s, PostS.ext (o := gForN it gg gs n (i + 1) m3 h3) q5 e⟩
          | bk m3 h3 => exact q5
          | rt v h3 => exact q5
          | er x h3 => exact q5
end
end MI
set_option Elab.async false
set_option linter.all false
set_option maxRecDepth 100000
set_option maxHeartbeats 4000000
namespace MI
open PySem PySem.Spec PyProof.Rows L2 JB
abbrev MF := List MV → MH → Out MV
def spM (Z : Zt) (n : Nat) (g : MF) : Sp := fun vs H Q E => ∃ ρ h as, HR Z ρ h H ∧ RVs Z ρ H as vs ∧ vs.length = n ∧ Post Z (rV Z) ρ H Q E (g as h)
def gBody (N : Nat) (b : MS) : MF := fun as h => match b (as.map some ++ List.replicate (N - as.length) none) h with
  | .nx _ h' => .ok .non h'
  | .rt v h' => .ok v h'
  | .er x h' => .er x h'
  | _ => .bad
section
variable {P : Program} {w : World} {K : PySem.W.Frag} {mg : Str → Option Value} {base : Heap} {T : Nat → Addr} {k : Nat} {f : Addr}
theorem RVs.get {Z : Zt} {ρ : List Addr} {H : Hp} : ∀ {xs : List MV} {vs : List V}, RVs Z ρ H xs vs → ∀ {i : Nat} {x : MV}, xs[i]? = some x → ∃ v, vs[i]? = some v ∧ RV Z ρ H x v
  | _, _, .nil, i, x, h => by simp at h
  | _, _, .cons (v := v) a r, 0, x, h => by
    simp at h; subst h
    exact ⟨v, rfl, a⟩
  | _, _, .cons a r, i + 1, x, h => by
    simp at h
    obtain ⟨v, h1, h2⟩ := RVs.get r h
    exact ⟨v, by simpa using h1, h2⟩
theorem start_M {Z : Zt} {ρ : List Addr} {h : MH} {H : Hp} {N : List Str} {as : List MV} {vs : List V} (r : HR Z ρ h H) (a : RVs Z ρ H as vs) :
    SR Z ρ (as.map some ++ List.replicate (N.length - as.length) none) h (L2.start N vs) H := by
  have hl := RVs.length a
  refine ⟨r, by unfold L2.start; simp [hl], fun i x e => ?_⟩
  unfold L2.start
  by_cases hi : i < as.length
  · rw [List.getElem?_append_left (by simpa using hi), List.getElem?_map] at e
    rw [List.getElem?_append_left (by simpa [← hl] using hi), List.getElem?_map]
    cases k : as[i]? with
    | none => rw [k] at e; cases e
    | some y =>
      rw [k] at e
      cases e
      obtain ⟨v, h1, h2⟩ := RVs.get a k
      exact ⟨v, by rw [h1]; rfl, h2⟩
  · rw [List.getElem?_append_right (by simpa using hi), List.getElem?_replicate] at e
    split at e <;> cases e
theorem body_M {Z : Zt} {ρ : List Addr} {H : Hp} {N : Nat} {Q : VK} {E : XK} {as : List MV} {h : MH} {gs : MS} (p : Post Z (rV Z) ρ H Q E (gBody N gs as h)) :
    PostS Z ρ H { nx := fun _ H' => Q .non H', rt := Q } E (gs (as.map some ++ List.replicate (N - as.length) none) h) := by
  unfold gBody at p
  generalize gs (as.map some ++ List.replicate (N - as.length) none) h = o at p ⊢
  cases o with
  | bad => exact p
  | nx m' h' => exact fun ρ' H' σ' e s => p ρ' H' .non e s.hr .non
  | rt v h' => exact p
  | bk _ _ => exact p.elim
  | ct _ _ => exact p.elim
  | er x h' => exact p
theorem pass_M {N : List Str} {qual : Str} {scope : Scope} {cdv : Value} {A : Around} {outer : List Env} {s : Shared} {H : Hp} {E : XK} :
    Passes (L2.CX P w) (cxOf (L2.CX P w) P w K mg base N qual scope f cdv A outer s H E) E :=
  passes_call (X := cxOf (L2.CX P w) P w K mg base N qual scope f cdv A outer s H E) (W := fun c d _ H' => E c d H') (takes_of rfl rfl rfl rfl) (fun _ _ _ _ z => z)
theorem own_M {N : List Str} {qual : Str} {scope : Scope} {cdv : Value} {A : Around} {outer : List Env} {s : Shared} {H : Hp} {E : XK} :
    PassesOwn (model (cxOf (L2.CX P w) P w K mg base N qual scope f cdv A outer s H E).prog (cxOf (L2.CX P w) P w K mg base N qual scope f cdv A outer s H E).w) (cxOf (L2.CX P w) P w K mg base N qual scope f cdv A outer s H E).A
      (cxOf (L2.CX P w) P w K mg base N qual scope f cdv A outer s H E).env (cxOf (L2.CX P w) P w K mg base N qual scope f cdv A outer s H E).xe :=
  passes_of rfl
structure FM (P : Program) (w : World) (K : PySem.W.Frag) (mg : Str → Option Value) (base : Heap) (T : Nat → Addr) (k : Nat) (f : Addr) (n : Nat) (dm : List MV) (g : MF) : Prop where
  ex : ∃ fd ps ds dvs, ps.length = n ∧ FnG P w K mg base (L2.CX P w) k f fd ps (spM ⟨K, T⟩ ps.length g) ∧ PySem.W.keepIn K (.ref f) = true ∧ Binds K fd ps ds ∧ Vals dvs ds ∧ (∀ ρ H, RVs ⟨K, T⟩ ρ H dm dvs)
end
def gCall (g : MF) (dm : List MV) (n : Nat) (a : MA) : ME := fun m h => (a m h).bind fun as h1 => if as.length + dm.length = n then g (as ++ dm) h1 else .bad
def gMeth (c : Nat) (f : Nat) (g : MF) (dm : List MV) (n : Nat) (o : ME) (a : MA) : ME := fun m h => (o m h).bind fun x h1 => match x with
  | .ref i => match h1.get i with
    | some (.ins c' fs) => if c' = c ∧ (fs.lookup f).isNone = true then (a m h1).bind fun as h2 => if as.length + dm.length + 1 = n then g (x :: (as ++ dm)) h2 else .bad else .bad
    | _ => .bad
  | _ => .bad
def gMake (c : Nat) (g : MF) (dm : List MV) (n : Nat) (a : MA) : ME := fun m h => (a m h).bind fun as h1 => if as.length + dm.length + 1 = n then
  (g (.ref h1.n :: (as ++ dm)) (h1.push (.ins c []))).bind fun r h2 => match r with
    | .non => .ok (.ref h1.n) h2
    | _ => .bad
  else .bad
theorem RVs.app {Z : Zt} {ρ : List Addr} {H : Hp} {ys : List MV} {ws : List V} (b : RVs Z ρ H ys ws) : ∀ {xs : List MV} {vs : List V}, RVs Z ρ H xs vs → RVs Z ρ H (xs ++ ys) (vs ++ ws)
  | _, _, .nil => b
  | _, _, .cons a r => .cons a (RVs.app b r)
theorem RKs.lookup {Z : Zt} {ρ : List Addr} {H : Hp} {xs : List (Nat × MV)} {vs : List (Str × V)} (r : RKs nm Z ρ H xs vs) (f : Nat) :
    (xs.lookup f = none ∧ vs.lookup (nm f) = none) ∨ ∃ x v, xs.lookup f = some x ∧ vs.lookup (nm f) = some v ∧ RV Z ρ H x v := by
  induction r with
  | nil => exact .inl ⟨rfl, rfl⟩
  | @cons k x v xs vs a r ih =>
    rw [List.lookup_cons, List.lookup_cons]
    by_cases e : f = k
    · subst e
      simp only [beq_self_eq_true]
      exact .inr ⟨x, v, rfl, rfl, a⟩
    · rw [beq_false_of_ne e, beq_false_of_ne (fun z => e (nm_inj z))]
      exact ih
section
variable {X : Cx} {T : Nat → Addr} {E : XK} {k : Nat} {f : Addr} {dm : List MV} {g : MF} {n : Nat} {x me : Str} {mi : Nat} {p pos apos : Pos} {e o : Expr} {es : List Expr} {ga : MA} {go : ME}
theorem pe_methG {CX : CXT} {fd : FuncData} {ps : List Str} {sp : Sp} {dvs : List V} {ds : List Value} {C : Addr} {te : TE} {t : TA} {pl : Sem Bool} (hs : JB.Still X.A)
    (he : PE X o te) (c : Cls X.K C) (hm : Meth X.K C me f) (F : FnG X.prog X.w X.K X.mg X.base CX k f fd ps sp) (hr : Room k X.A)
    (hb : Binds X.K fd ps ds) (hd : Vals dvs ds) (hx : Passes CX X E) (ha : PA X (e :: es) t)
    (hst : starEach (e :: es) X.env = (false, eval e X.env) :: starEach es X.env := by rfl)
    (hpl : (backTo pos (starEach es X.env)).any (·.1) = false := by rfl)
    (ht : eval (.Call (.Attribute o me apos) (e :: es) [] pos) X.env = (do
      let ov ← eval o X.env
      standAt apos.atName
      let (f, first) ← holding [ov] (getMethod ov me pl)
      callWith pos f first (backTo pos (starEach (e :: es) X.env)) (backToKw pos (keywordEach [] X.env))) := by rfl) :
    PE X (.Call (.Attribute o me apos) (e :: es) [] pos) (tMeth C me sp dvs E te t) :=
  ⟨fun pins s σ H Q I h => PySem.W.methodCall_KW (pl := pl)
    (thn (he.run pins s σ H _ I h) fun u s1 ⟨y, H1, I1, ry, a, dx, fs, ey, ea, l, q⟩ => by
      subst ey
      obtain rfl : u = Value.ref a := ry
      exact getmeth_ok I1 ea c hm l (PySem.W.callWith_K (first := [.ref a]) (h₀ := X.base) I.ok.mod.kin hm.kp
        (thn (ha.run pos pins s1 σ H1 _ I1 q) fun us s2 ⟨vs, H2, I2, r, q2⟩ =>
          ⟨I2.kIn, run_g (us := .ref a :: us) (vs := .ref a :: vs) hs F hr hb hd hx I2 (.cons rfl r) q2⟩) hst hpl)) ht⟩
theorem pe_meth0G {CX : CXT} {fd : FuncData} {ps : List Str} {sp : Sp} {dvs : List V} {ds : List Value} {C : Addr} {te : TE} {pl : Sem Bool} (hs : JB.Still X.A)
    (he : PE X o te) (c : Cls X.K C) (hm : Meth X.K C me f) (F : FnG X.prog X.w X.K X.mg X.base CX k f fd ps sp) (hr : Room k X.A)
    (hb : Binds X.K fd ps ds) (hd : Vals dvs ds) (hx : Passes CX X E)
    (ht : eval (.Call (.Attribute o me apos) [] [] pos) X.env = (do
      let ov ← eval o X.env
      standAt apos.atName
      let (f, first) ← holding [ov] (getMethod ov me pl)
      callWith pos f first (backTo pos (starEach [] X.env)) (backToKw pos (keywordEach [] X.env))) := by rfl) :
    PE X (.Call (.Attribute o me apos) [] [] pos) (tMeth C me sp dvs E te tNil) :=
  ⟨fun pins s σ H Q I h => PySem.W.methodCall_KW (pl := pl)
    (thn (he.run pins s σ H _ I h) fun u s1 ⟨y, H1, I1, ry, a, dx, fs, ey, ea, l, q⟩ => by
      subst ey
      obtain rfl : u = Value.ref a := ry
      exact getmeth_ok I1 ea c hm l (PySem.W.callWith_K0 (first := [.ref a]) I1.kIn hm.kp
        (run_g (us := [.ref a]) (vs := [.ref a]) hs F hr hb hd hx I1 (.cons rfl .nil) q))) ht⟩
theorem run_makeG {CX : CXT} {fd : FuncData} {ps : List Str} {sp : Sp} {dvs : List V} {ds : List Value} {C : Addr} {pins : List (Addr × Obj)} {σ : L2.St} {H : Hp} {s : Shared} {Q : VK} {us : List Value} {vs : List V}
    (hs : JB.Still X.A) (M : Mk X.K C f) (F : FnG X.prog X.w X.K X.mg X.base CX k f fd ps sp) (hr : Room (k + 1) X.A) (hb : Binds X.K fd ps ds) (hd : Vals dvs ds)
    (hx : Passes CX X E) (I : Inv X pins σ H s) (r : Vals vs us)
    (h : ∀ y dx, H y = none → H dx = none → dx ≠ y → sp (.ref y :: (vs ++ dvs)) (upd (upd H dx (.own y)) y (.ins C dx [])) (fun v H2 => v = .non ∧ Q (.ref y) H2) E) :
    wpAny (model X.prog X.w) X.A (call (.ref C) us) (EP X pins σ Q) X.xe s := by
  have hq := h (s.heap.objs.size + 1) s.heap.objs.size (I.hok.fresh (Nat.le_succ _))
    (I.hok.fresh (Nat.le_refl _)) (Nat.ne_of_lt (Nat.lt_succ_self _))
  have I2 := Inv.made (C := C) I
  have rr : Vals (V.ref (s.heap.objs.size + 1) :: (vs ++ dvs)) (Value.ref (s.heap.objs.size + 1) :: (us ++ ds)) := .cons rfl (r.append hd)
  have hl : (Value.ref (s.heap.objs.size + 1) :: us ++ ds).length = ps.length := (rr.length).symm.trans (F.many _ _ _ _ hq)
  refine wpAny_call (make_map (f := f) I.kIn M.makes M.init (beq_iff_eq.mp M.fn)
    (codeAny_mono (F.goes _ X.stack _ _ ⟨Value.ref (s.heap.objs.size + 1) :: us, []⟩ (Value.ref (s.heap.objs.size + 1) :: (us ++ ds)) _ _ E
      (still_make hs) (hr.make C us []) (I2.env0.make C us []) (hb _ (Value.ref (s.heap.objs.size + 1) :: us) I2.kIn hl) rr hq) fun z s' hq' => ?_))
  cases z with
  | error er => exact hx pins σ _ _ er s' I2 hq'
  | ok fl =>
    cases fl with
    | ret u =>
      obtain ⟨v, H', I3, rv, ev, q3⟩ := I2.after hq'
      subst ev
      exact ⟨rv, ⟨V.ref (s.heap.objs.size + 1), H', I3, rfl, q3⟩⟩
    | _ => exact False.elim hq'
theorem pe_makeG {CX : CXT} {fd : FuncData} {ps : List Str} {sp : Sp} {dvs : List V} {ds : List Value} {C : Addr} {t : TA} (hs : JB.Still X.A)
    (M : Mk X.K C f) (F : FnG X.prog X.w X.K X.mg X.base CX k f fd ps sp) (hr : Room (k + 1) X.A) (hg : Gl X x) (hm : X.mg x = some (.ref C))
    (hb : Binds X.K fd ps ds) (hd : Vals dvs ds) (hx : Passes CX X E) (ha : PA X (e :: es) t) (hdb : (x == ("__debug__" : Str)) = false := by decide)
    (he : starEach (e :: es) X.env = (false, eval e X.env) :: starEach es X.env := by rfl) (hpl : (backTo pos (starEach es X.env)).any (·.1) = false := by rfl) :
    PE X (.Call (.Name x p) (e :: es) [] pos) (tMake C sp dvs E t) :=
  ⟨fun pins s σ H Q I h => wpAny_Call_Name_kw (ld_glob I hg hm (PySem.W.callWith_K (h₀ := X.base) I.ok.mod.kin M.kp
    (thn (ha.run pos pins s σ H _ I h) fun us s1 ⟨vs, H1, I1, r, q⟩ => ⟨I1.kIn, run_makeG hs M F hr hb hd hx I1 r q⟩) he hpl) hdb)⟩
theorem pe_make0G {CX : CXT} {fd : FuncData} {ps : List Str} {sp : Sp} {dvs : List V} {ds : List Value} {C : Addr} (hs : JB.Still X.A)
    (M : Mk X.K C f) (F : FnG X.prog X.w X.K X.mg X.base CX k f fd ps sp) (hr : Room (k + 1) X.A) (hg : Gl X x) (hm : X.mg x = some (.ref C))
    (hb : Binds X.K fd ps ds) (hd : Vals dvs ds) (hx : Passes CX X E) (hdb : (x == ("__debug__" : Str)) = false := by decide) :
    PE X (.Call (.Name x p) [] [] pos) (tMake C sp dvs E tNil) :=
  ⟨fun pins s σ H Q I h => wpAny_Call_Name_kw (ld_glob I hg hm (PySem.W.callWith_K0 I.kIn M.kp (run_makeG (us := []) hs M F hr hb hd hx I .nil h)) hdb)⟩
theorem go_sp {ρ : List Addr} {h : MH} {H : Hp} {Q : VK} {as : List MV} {vs dvs : List V} {ps : List Str} (r : HR ⟨X.K, T⟩ ρ h H) (a : RVs ⟨X.K, T⟩ ρ H as vs) (d : RVs ⟨X.K, T⟩ ρ H dm dvs)
    (hn : as.length + dm.length = ps.length) (q : Post ⟨X.K, T⟩ (rV ⟨X.K, T⟩) ρ H Q E (g (as ++ dm) h)) : spM ⟨X.K, T⟩ ps.length g (vs ++ dvs) H Q E :=
  ⟨ρ, h, as ++ dm, r, RVs.app d a, by rw [List.length_append, ← RVs.length a, ← RVs.length d]; exact hn, q⟩
theorem je_call (F : FM X.prog X.w X.K X.mg X.base T k f n dm g) (hs : JB.Still X.A) (hr : Room k X.A) (hx : Passes (L2.CX X.prog X.w) X E) (hg : Gl X x) (hm : X.mg x = some (.ref f)) (ha : JA X T E (e :: es) ga)
    (hdb : (x == ("__debug__" : Str)) = false := by decide) (he : starEach (e :: es) X.env = (false, eval e X.env) :: starEach es X.env := by rfl) (hpl : (backTo pos (starEach es X.env)).any (·.1) = false := by rfl) :
    JE X T E (.Call (.Name x p) (e :: es) [] pos) (gCall g dm n ga) := by
  obtain ⟨fd, ps, ds, dvs, rfl, F, hk, hb, hd, hdm⟩ := F.ex
  refine PE.le (pe_callG hs F hr hg hm hk hb hd hx ha hdb he hpl) fun σ H Q ⟨ρ, m, h, s, q⟩ => stepA s q fun ρ1 h1 H1 xs vs s1 e1 r1 q1 => ?_
  by_cases hn : xs.length + dm.length = ps.length
  · rw [if_pos hn] at q1
    exact go_sp s1.hr r1 (hdm _ _) hn q1
  · rw [if_neg hn] at q1
    exact q1.elim
theorem meth_M {ρ : List Addr} {m : ML} {h : MH} {H : Hp} {σ : L2.St} {Q : VK} {dvs : List V} {ps : List Str} {c : Nat} {t : TA} (hmi : me = nm mi) (hd : ∀ ρ H, RVs ⟨X.K, T⟩ ρ H dm dvs) (ht : ∀ σ H Q, tA ⟨X.K, T⟩ E ga σ H Q → t σ H Q)
    (s : SR ⟨X.K, T⟩ ρ m h σ H) (q : Post ⟨X.K, T⟩ (rV ⟨X.K, T⟩) ρ H Q E (gMeth c mi g dm ps.length go ga m h)) : tMeth (T c) me (spM ⟨X.K, T⟩ ps.length g) dvs E (tE ⟨X.K, T⟩ E go) t σ H Q := by
  refine stepE s q fun ρ1 h1 H1 y v s1 e1 r1 q1 => ?_
  cases r1 with
  | @ref i a hi =>
    have q2 : Post _ (rV ⟨X.K, T⟩) ρ1 H1 Q E (match h1.get i with
      | some (.ins c' fs) => if c' = c ∧ (fs.lookup mi).isNone = true then (ga m h1).bind fun as h2 => if as.length + dm.length + 1 = ps.length then g (.ref i :: (as ++ dm)) h2 else .bad else .bad
      | _ => .bad) := q1
    cases k : h1.get i with
    | none => rw [k] at q2; exact q2.elim
    | some ob =>
      rw [k] at q2
      obtain ⟨a', ha', ho⟩ := s1.hr.all i ob k
      rw [hi] at ha'
      cases ha'
      cases ob with
      | ins c' fs =>
        obtain ⟨dx, vs, h3, h4⟩ := ho
        dsimp only at q2
        by_cases z : c' = c ∧ (fs.lookup mi).isNone = true
        · obtain ⟨rfl, z⟩ := z
          rw [if_pos ⟨rfl, z⟩] at q2
          refine ⟨a, dx, vs, rfl, h3, ?_, ht _ _ _ (stepA s1 q2 fun ρ2 h2 H2 xs ws s2 e2 r2 q3 => ?_)⟩
          · rw [hmi]; rcases h4.lookup mi with ⟨_, w⟩ | ⟨_, _, w, _⟩
            · exact w
            · rw [w] at z; cases z
          · by_cases hn : xs.length + dm.length + 1 = ps.length
            · rw [if_pos hn] at q3
              exact go_sp (as := .ref i :: xs) (vs := .ref a :: ws) s2.hr (.cons (.ref (e2.at hi)) r2) (hd _ _) (by simp; omega) q3
            · rw [if_neg hn] at q3
              exact q3.elim
        · rw [if_neg z] at q2
          exact q2.elim
      | _ => exact q2.elim
  | _ => exact q1.elim
theorem je_meth {c : Nat} {pl : Sem Bool} (F : FM X.prog X.w X.K X.mg X.base T k f n dm g) (cl : Cls X.K (T c)) (mt : Meth X.K (T c) me f) (hmi : me = nm mi) (hs : JB.Still X.A) (hr : Room k X.A) (hx : Passes (L2.CX X.prog X.w) X E)
    (ho : JE X T E o go) (ha : JA X T E (e :: es) ga)
    (hst : starEach (e :: es) X.env = (false, eval e X.env) :: starEach es X.env := by rfl)
    (hpl : (backTo pos (starEach es X.env)).any (·.1) = false := by rfl)
    (ht : eval (.Call (.Attribute o me apos) (e :: es) [] pos) X.env = (do
      let ov ← eval o X.env
      standAt apos.atName
      let (f, first) ← holding [ov] (getMethod ov me pl)
      callWith pos f first (backTo pos (starEach (e :: es) X.env)) (backToKw pos (keywordEach [] X.env))) := by rfl) :
    JE X T E (.Call (.Attribute o me apos) (e :: es) [] pos) (gMeth c mi g dm n go ga) := by
  obtain ⟨fd, ps, ds, dvs, rfl, F, hk, hb, hd, hdm⟩ := F.ex
  exact PE.le (pe_methG hs ho cl mt F hr hb hd hx ha hst hpl ht) fun σ H Q ⟨ρ, m, h, s, q⟩ => meth_M hmi hdm (fun _ _ _ z => z) s q
theorem je_meth0 {c : Nat} {pl : Sem Bool} (F : FM X.prog X.w X.K X.mg X.base T k f n dm g) (cl : Cls X.K (T c)) (mt : Meth X.K (T c) me f) (hmi : me = nm mi) (hs : JB.Still X.A) (hr : Room k X.A) (hx : Passes (L2.CX X.prog X.w) X E)
    (ho : JE X T E o go)
    (ht : eval (.Call (.Attribute o me apos) [] [] pos) X.env = (do
      let ov ← eval o X.env
      standAt apos.atName
      let (f, first) ← holding [ov] (getMethod ov me pl)
      callWith pos f first (backTo pos (starEach [] X.env)) (backToKw pos (keywordEach [] X.env))) := by rfl) :
    JE X T E (.Call (.Attribute o me apos) [] [] pos) (gMeth c mi g dm n go gNil) := by
  obtain ⟨fd, ps, ds, dvs, rfl, F, hk, hb, hd, hdm⟩ := F.ex
  exact PE.le (pe_meth0G hs ho cl mt F hr hb hd hx ht) fun σ H Q ⟨ρ, m, h, s, q⟩ => meth_M hmi hdm (fun σ H Q ⟨ρ, m, h, s, q⟩ => q.ok s.hr .nil) s q
theorem make_M {ρ : List Addr} {h : MH} {H : Hp} {Q : VK} {dvs : List V} {ps : List Str} {c : Nat} {as : List MV} {vs : List V} (hd : ∀ ρ H, RVs ⟨X.K, T⟩ ρ H dm dvs)
    (s : HR ⟨X.K, T⟩ ρ h H) (r : RVs ⟨X.K, T⟩ ρ H as vs) (hn : as.length + dm.length + 1 = ps.length)
    (q : Post ⟨X.K, T⟩ (rV ⟨X.K, T⟩) ρ H Q E ((g (.ref h.n :: (as ++ dm)) (h.push (.ins c []))).bind fun r h2 => match r with
      | .non => .ok (.ref h.n) h2
      | _ => .bad)) :
    ∀ y dx, H y = none → H dx = none → dx ≠ y → spM ⟨X.K, T⟩ ps.length g (.ref y :: (vs ++ dvs)) (upd (upd H dx (.own y)) y (.ins (T c) dx [])) (fun v H2 => v = .non ∧ Q (.ref y) H2) E := by
  intro y dx hy hdx hne
  have hy' : upd H dx (.own y) y = none := by rw [upd_ne (Ne.symm hne)]; exact hy
  have e1 : Ext ρ H ρ (upd H dx (.own y)) := Ext.still1 hdx
  have e2 : Ext ρ (upd H dx (.own y)) (ρ ++ [y]) (upd (upd H dx (.own y)) y (.ins (T c) dx [])) := Ext.push hy'
  have s2 : HR ⟨X.K, T⟩ (ρ ++ [y]) (h.push (.ins c [])) (upd (upd H dx (.own y)) y (.ins (T c) dx [])) := (s.still1 hdx).push hy' ⟨dx, [], upd_same, .nil⟩
  have at_ : (ρ ++ [y])[h.n]? = some y := by rw [← s.len]; simp
  refine go_sp (as := .ref h.n :: as) (vs := .ref y :: vs) s2 (.cons (.ref at_) (r.ext (e1.trans e2))) (hd _ _) (by simp; omega) ?_
  refine (Post.bind (R := rV ⟨X.K, T⟩) (q.ext (e1.trans e2))).mono fun v H3 ⟨ρ3, h3, a, e3, r3, ra, q3⟩ => ?_
  cases ra with
  | non => exact ⟨rfl, q3.ok r3 (.ref (e3.at at_))⟩
  | _ => exact q3.elim
theorem je_make {c : Nat} (F : FM X.prog X.w X.K X.mg X.base T k f n dm g) (M : Mk X.K (T c) f) (hs : JB.Still X.A) (hr : Room (k + 1) X.A) (hx : Passes (L2.CX X.prog X.w) X E) (hg : Gl X x) (hm : X.mg x = some (.ref (T c))) (ha : JA X T E (e :: es) ga)
    (hdb : (x == ("__debug__" : Str)) = false := by decide) (he : starEach (e :: es) X.env = (false, eval e X.env) :: starEach es X.env := by rfl) (hpl : (backTo pos (starEach es X.env)).any (·.1) = false := by rfl) :
    JE X T E (.Call (.Name x p) (e :: es) [] pos) (gMake c g dm n ga) := by
  obtain ⟨fd, ps, ds, dvs, rfl, F, hk, hb, hd, hdm⟩ := F.ex
  refine PE.le (pe_makeG hs M F hr hg hm hb hd hx ha hdb he hpl) fun σ H Q ⟨ρ, m, h, s, q⟩ => stepA s q fun ρ1 h1 H1 xs vs s1 e1 r1 q1 => ?_
  by_cases hn : xs.length + dm.length + 1 = ps.length
  · rw [if_pos hn] at q1
    exact make_M hdm s1.hr r1 hn q1
  · rw [if_neg hn] at q1
    exact q1.elim
theorem je_make0 {c : Nat} (F : FM X.prog X.w X.K X.mg X.base T k f n dm g) (M : Mk X.K (T c) f) (hs : JB.Still X.A) (hr : Room (k + 1) X.A) (hx : Passes (L2.CX X.prog X.w) X E) (hg : Gl X x) (hm : X.mg x = some (.ref (T c)))
    (hdb : (x == ("__debug__" : Str)) = false := by decide) :
    JE X T E (.Call (.Name x p) [] [] pos) (gMake c g dm n gNil) := by
  obtain ⟨fd, ps, ds, dvs, rfl, F, hk, hb, hd, hdm⟩ := F.ex
  refine PE.le (pe_make0G hs M F hr hg hm hb hd hx hdb) fun σ H Q ⟨ρ, m, h, s, q⟩ => ?_
  have q1 : Post ⟨X.K, T⟩ (rV ⟨X.K, T⟩) ρ H Q E (if ([] : List MV).length + dm.length + 1 = ps.length then
    (g (.ref h.n :: ([] ++ dm)) (h.push (.ins c []))).bind fun r h2 => match r with
      | .non => .ok (.ref h.n) h2
      | _ => .bad
    else .bad) := q
  by_cases hn : ([] : List MV).length + dm.length + 1 = ps.length
  · rw [if_pos hn] at q1
    exact make_M (vs := []) hdm s.hr .nil hn q1
  · rw [if_neg hn] at q1
    exact q1.elim
end
end MI
set_option Elab.async false
set_option linter.all false
set_option maxRecDepth 100000
set_option maxHeartbeats 4000000
namespace MI
open PySem PySem.Spec PyProof.Rows L2 JB
section
variable {Z : Zt} {ρ : List Addr} {h : MH} {H : Hp} {i : Nat} {a : Addr}
theorem HR.obj (R : HR Z ρ h H) {o : MO} (hi : h.get i = some o) (ha : ρ[i]? = some a) : OR Z ρ H a o := by
  obtain ⟨b, h1, h2⟩ := R.all i o hi
  rw [ha] at h1
  cases h1
  exact h2
theorem HR.grow (R : HR Z ρ h H) {o : MO} (hi : h.get i = some o) (ha : ρ[i]? = some a) (u : HO) (hop : o.opn = true := by rfl) : Ext ρ H ρ (upd H a u) :=
  Ext.set (List.mem_of_getElem? ha) fun v e => (R.obj hi ha).notStill e hop
end
def leq : List Nat → List Nat → Bool
  | [], [] => true
  | a :: l, b :: r => if a = b then leq l r else false
  | _, _ => false
theorem leq_iff : ∀ {l r : List Nat}, leq l r = true ↔ l = r
  | [], [] => by simp [leq]
  | a :: l, b :: r => by
    unfold leq
    by_cases e : a = b
    · subst e; simp [leq_iff (l := l) (r := r)]
    · simp [e]
  | [], _ :: _ => by simp [leq]
  | _ :: _, [] => by simp [leq]
def mEq : MV → MV → Option Bool
  | .non, .non => some true
  | .int i, .int j => some (decide (i = j))
  | .bl i, .bl j => some (decide (i = j))
  | .str s, .str t => some (leq s t)
  | .non, .int _ => some false
  | .int _, .non => some false
  | .non, .bl _ => some false
  | .bl _, .non => some false
  | .non, .str _ => some false
  | .str _, .non => some false
  | .int _, .str _ => some false
  | .str _, .int _ => some false
  | .bl _, .str _ => some false
  | .str _, .bl _ => some false
  | _, _ => none
theorem str_eq {s t : List Nat} : decide (V.str ⟨s.toArray⟩ = V.str ⟨t.toArray⟩) = leq s t := by
  rw [Bool.eq_iff_iff, leq_iff]
  simp
theorem mEq_ok {Z : Zt} {ρ : List Addr} {H : Hp} {x y : MV} {v w : V} {b : Bool} (r : RV Z ρ H x v) (q : RV Z ρ H y w) (e : mEq x y = some b) : scal v w = true ∧ decide (v = w) = b := by
  cases r <;> cases q <;> first
    | (cases e; done)
    | (cases e; exact ⟨rfl, str_eq⟩)
    | (cases e; exact ⟨rfl, by simp⟩)
    | (cases e; exact ⟨rfl, rfl⟩)
def oB (o : Option Bool) (h : MH) : Out MV := match o with
  | some b => .ok (.bl b) h
  | none => .bad
def mEqV (x y : MV) (h : MH) : Out MV := oB (mEq x y) h
def mNeV (x y : MV) (h : MH) : Out MV := oB ((mEq x y).map (!·)) h
section
variable {Z : Zt} {E : XK}
theorem om_eq : OpM Z E mEqV rEq := fun ρ h H x y v w Q R r q p => by
  unfold mEqV oB at p
  cases e : mEq x y with
  | none => rw [e] at p; exact p.elim
  | some b =>
    rw [e] at p
    obtain ⟨h1, h2⟩ := mEq_ok r q e
    exact ⟨h1, by rw [h2]; exact p.ok R (.bl b)⟩
theorem om_ne : OpM Z E mNeV rNe := fun ρ h H x y v w Q R r q p => by
  unfold mNeV oB at p
  cases e : mEq x y with
  | none => rw [e] at p; exact p.elim
  | some b =>
    rw [e] at p
    obtain ⟨h1, h2⟩ := mEq_ok r q e
    exact ⟨h1, by rw [h2]; exact p.ok R (.bl _)⟩
def mI (g : Int → Int → MV) (x y : MV) (h : MH) : Out MV := match x, y with
  | .int i, .int j => .ok (g i j) h
  | _, _ => .bad
def mIc (c : Int → Int → Bool) (g : Int → Int → MV) (x y : MV) (h : MH) : Out MV := match x, y with
  | .int i, .int j => if c i j = true then .ok (g i j) h else .bad
  | _, _ => .bad
theorem om_I {g : Int → Int → MV} {g' : Int → Int → V} (k : ∀ i j ρ H, RV Z ρ H (g i j) (g' i j)) : OpM Z E (mI g) (rI0 g') := fun ρ h H x y v w Q R r q p => by
  cases r with
  | int i =>
    cases q with
    | int j => exact ⟨i, j, rfl, rfl, p.ok R (k i j ρ H)⟩
    | _ => exact p.elim
  | _ => exact p.elim
theorem om_Ic {c : Int → Int → Bool} {C : Int → Int → Prop} {g : Int → Int → MV} {g' : Int → Int → V} (hc : ∀ i j, c i j = true → C i j) (k : ∀ i j ρ H, RV Z ρ H (g i j) (g' i j)) : OpM Z E (mIc c g) (L2.rI C g') := fun ρ h H x y v w Q R r q p => by
  cases r with
  | int i =>
    cases q with
    | int j =>
      have p' : Post Z (rV Z) ρ H Q E (if c i j = true then .ok (g i j) h else .bad) := p
      by_cases e : c i j = true
      · rw [if_pos e] at p'
        exact ⟨i, j, rfl, rfl, hc i j e, p'.ok R (k i j ρ H)⟩
      · rw [if_neg e] at p'
        exact p'.elim
    | _ => exact p.elim
  | _ => exact p.elim
def mSub := mI fun i j => .int (i - j)
def cMul (i j : Int) : Bool := decide (i.natAbs < 18446744073709551616) || decide (j.natAbs < 18446744073709551616)
def mMul := mIc cMul fun i j => .int (i * j)
def mMod := mIc (fun _ j => decide (0 < j)) fun i j => .int (i % j)
def mDiv := mIc (fun _ j => decide (0 < j) && decide (j < 1073741824)) fun i j => .int (i / j)
def mPow := mIc (fun i j => decide (0 ≤ j) && decide (j ≤ 1000000) && decide (i.natAbs < 18446744073709551616)) fun i j => .int (i ^ j.toNat)
def mLtI := mI fun i j => .bl (decide (i < j))
def mGtI := mI fun i j => .bl (decide (j < i))
def mGeI := mI fun i j => .bl (decide (j ≤ i))
theorem om_sub : OpM Z E mSub (rI0 fun i j => .int (i - j)) := om_I fun _ _ _ _ => .int _
theorem om_mul : OpM Z E mMul (L2.rI CMul fun i j => .int (i * j)) := om_Ic (fun i j e => by
  unfold cMul at e
  simp at e
  unfold CMul
  omega) fun _ _ _ _ => .int _
theorem om_mod : OpM Z E mMod (L2.rI (fun _ j => 0 < j) fun i j => .int (i % j)) := om_Ic (fun i j e => by simpa using e) fun _ _ _ _ => .int _
theorem om_div : OpM Z E mDiv (L2.rI CDiv fun i j => .int (i / j)) := om_Ic (fun i j e => by simpa [CDiv] using e) fun _ _ _ _ => .int _
theorem om_pow : OpM Z E mPow (L2.rI CPow fun i j => .int (i ^ j.toNat)) := om_Ic (fun i j e => by
  simp at e
  exact ⟨e.1.1, e.1.2, by have : (2 : Nat) ^ 64 = 18446744073709551616 := by decide
                          omega⟩) fun _ _ _ _ => .int _
theorem om_lt : OpM Z E mLtI (rI0 fun i j => .bl (decide (i < j))) := om_I fun _ _ _ _ => .bl _
theorem om_gt : OpM Z E mGtI (rI0 fun i j => .bl (decide (j < i))) := om_I fun _ _ _ _ => .bl _
theorem om_ge : OpM Z E mGeI (rI0 fun i j => .bl (decide (j ≤ i))) := om_I fun _ _ _ _ => .bl _
def mAdd (x y : MV) (h : MH) : Out MV := match x, y with
  | .int i, .int j => .ok (.int (i + j)) h
  | .str s, .str t => if s.length + t.length ≤ 1000000 then .ok (.str (s ++ t)) h else .bad
  | .tup xs, .tup ys => if xs.length + ys.length ≤ 1000000 ∧ xs.isEmpty = false then .ok (.tup (xs ++ ys)) h else .bad
  | .ref i, .ref j => match h.get i, h.get j with
    | some (.lst xs), some (.lst ys) => if xs.length + ys.length ≤ 1000000 then .ok (.ref h.n) (h.push (.lst (xs ++ ys))) else .bad
    | _, _ => .bad
  | _, _ => .bad
abbrev rAddS : R2 := fun x y H Q => ∃ i j, x = .str i ∧ y = .str j ∧ i.length + j.length ≤ sizeLine ∧ Q (.str (i ++ j)) H
abbrev rAddM (K : PySem.W.Frag) : R2 := fun x y H Q => (rI0 (fun i j => .int (i + j)) x y H Q ∨ rAddS x y H Q) ∨ (rCatT K x y H Q ∨ rCat x y H Q)
theorem str_app {s t : List Nat} : (⟨s.toArray⟩ : Str) ++ ⟨t.toArray⟩ = ⟨(s ++ t).toArray⟩ := by
  show Str.mk _ = Str.mk _
  simp
theorem RVs.nil_iff {ρ : List Addr} {H : Hp} {xs : List MV} {vs : List V} (r : RVs Z ρ H xs vs) : vs = [] ↔ xs = [] := by
  cases r <;> simp
theorem om_add : OpM Z E mAdd (rAddM Z.K) := fun ρ h H x y v w Q R r q p => by
  cases r with
  | int i =>
    cases q with
    | int j => exact .inl (.inl ⟨i, j, rfl, rfl, p.ok R (.int _)⟩)
    | _ => exact p.elim
  | str s =>
    cases q with
    | str t =>
      have p' : Post Z (rV Z) ρ H Q E (if s.length + t.length ≤ 1000000 then .ok (.str (s ++ t)) h else .bad) := p
      by_cases e : s.length + t.length ≤ 1000000
      · rw [if_pos e] at p'
        refine .inl (.inr ⟨_, _, rfl, rfl, ?_, ?_⟩)
        · show s.toArray.size + t.toArray.size ≤ sizeLine
          rw [sizeLine_eq]; simp; omega
        · rw [str_app]
          exact p'.ok R (.str _)
      · rw [if_neg e] at p'
        exact p'.elim
    | _ => exact p.elim
  | tup h1 r1 =>
    cases q with
    | tup h2 r2 =>
      rename_i a xs vs b ys ws
      have p' : Post Z (rV Z) ρ H Q E (if xs.length + ys.length ≤ 1000000 ∧ xs.isEmpty = false then .ok (.tup (xs ++ ys)) h else .bad) := p
      by_cases e : xs.length + ys.length ≤ 1000000 ∧ xs.isEmpty = false
      · rw [if_pos e] at p'
        have ne : xs ≠ [] := by intro z; rw [z] at e; exact absurd e.2 (by decide)
        refine .inr (.inl ⟨a, b, vs, ws, rfl, rfl, .inl (.inl h1), .inl (.inl h2), fun z => ne (r1.nil_iff.mp z), by rw [← r1.length, ← r2.length, sizeLine_eq]; omega, fun z => ?_, fun z pp hp => ?_⟩)
        · rw [r2.nil_iff.mp z, List.append_nil] at p'
          exact p'.ok R (.tup h1 r1)
        · exact p' ρ _ _ (Ext.still1 hp) (R.still1 hp) (.tup upd_same (RVs.app (r2.ext (Ext.still1 hp)) (r1.ext (Ext.still1 hp))))
      · rw [if_neg e] at p'
        exact p'.elim
    | _ => exact p.elim
  | @ref i a hi =>
    cases q with
    | @ref j b hj =>
      have p' : Post Z (rV Z) ρ H Q E (match h.get i, h.get j with
        | some (.lst xs), some (.lst ys) => if xs.length + ys.length ≤ 1000000 then .ok (.ref h.n) (h.push (.lst (xs ++ ys))) else .bad
        | _, _ => .bad) := p
      cases k1 : h.get i with
      | none => rw [k1] at p'; exact p'.elim
      | some o1 =>
        cases k2 : h.get j with
        | none => rw [k1, k2] at p'; cases o1 <;> exact p'.elim
        | some o2 =>
          rw [k1, k2] at p'
          cases o1 with
          | lst xs =>
            cases o2 with
            | lst ys =>
              dsimp only at p'
              obtain ⟨vs, v1, v2⟩ := R.obj k1 hi
              obtain ⟨ws, w1, w2⟩ := R.obj k2 hj
              by_cases e : xs.length + ys.length ≤ 1000000
              · rw [if_pos e] at p'
                refine .inr (.inr ⟨a, b, vs, ws, rfl, rfl, v1, w1, by rw [← v2.length, ← w2.length, sizeLine_eq]; omega, fun pp hp => ?_⟩)
                refine p' (ρ ++ [pp]) _ _ (Ext.push hp) (R.push hp ⟨_, upd_same, RVs.app (w2.ext (Ext.push hp)) (v2.ext (Ext.push hp))⟩) (.ref ?_)
                rw [← R.len]; simp
              · rw [if_neg e] at p'
                exact p'.elim
            | _ => exact p'.elim
          | _ => exact p'.elim
    | _ => exact p.elim
  | _ => exact p.elim
end
section
variable {X : Cx} {T : Nat → Addr} {E : XK} {a b : Expr} {ga gb : ME} {pos : Pos}
theorem op_addM : OpR X (binaryOp .Add) (rAddM X.K) := (OpR.or (OpR.or op_add op_add_str) (OpR.or op_catT op_cat))
theorem je_add (ha : JE X T E a ga) (hb : JE X T E b gb) : JE X T E (.BinOp a .Add b pos) (gBin mAdd ga gb) := je_op op_addM om_add ha hb
theorem je_sub (ha : JE X T E a ga) (hb : JE X T E b gb) : JE X T E (.BinOp a .Sub b pos) (gBin mSub ga gb) := je_op op_sub om_sub ha hb
theorem je_mul (ha : JE X T E a ga) (hb : JE X T E b gb) : JE X T E (.BinOp a .Mult b pos) (gBin mMul ga gb) := je_op op_mul om_mul ha hb
theorem je_mod (ha : JE X T E a ga) (hb : JE X T E b gb) : JE X T E (.BinOp a .Mod b pos) (gBin mMod ga gb) := je_op op_mod om_mod ha hb
theorem je_div (ha : JE X T E a ga) (hb : JE X T E b gb) : JE X T E (.BinOp a .FloorDiv b pos) (gBin mDiv ga gb) := je_op op_fdiv om_div ha hb
theorem je_pow (ha : JE X T E a ga) (hb : JE X T E b gb) : JE X T E (.BinOp a .Pow b pos) (gBin mPow ga gb) := je_op op_pow om_pow ha hb
theorem jt_eq (ha : JE X T E a ga) (hb : JE X T E b gb) : JT X T E (.Compare a [.Eq] [b] pos) (gB (gBin mEqV ga gb)) := jt_cmp op_eq om_eq ha hb (nobehind _ (by decide) (by decide))
theorem jt_ne (ha : JE X T E a ga) (hb : JE X T E b gb) : JT X T E (.Compare a [.NotEq] [b] pos) (gB (gBin mNeV ga gb)) := jt_cmp op_ne om_ne ha hb (nobehind _ (by decide) (by decide))
theorem jt_lt (ha : JE X T E a ga) (hb : JE X T E b gb) : JT X T E (.Compare a [.Lt] [b] pos) (gB (gBin mLtI ga gb)) := jt_cmp op_lt om_lt ha hb (nobehind _ (by decide) (by decide))
theorem jt_gt (ha : JE X T E a ga) (hb : JE X T E b gb) : JT X T E (.Compare a [.Gt] [b] pos) (gB (gBin mGtI ga gb)) := jt_cmp op_gt om_gt ha hb (nobehind _ (by decide) (by decide))
theorem jt_ge (ha : JE X T E a ga) (hb : JE X T E b gb) : JT X T E (.Compare a [.GtE] [b] pos) (gB (gBin mGeI ga gb)) := jt_cmp op_ge om_ge ha hb (nobehind _ (by decide) (by decide))
theorem je_eq (ha : JE X T E a ga) (hb : JE X T E b gb) : JE X T E (.Compare a [.Eq] [b] pos) (gBin mEqV ga gb) := je_cmp op_eq om_eq ha hb (nobehind _ (by decide) (by decide))
theorem je_ne (ha : JE X T E a ga) (hb : JE X T E b gb) : JE X T E (.Compare a [.NotEq] [b] pos) (gBin mNeV ga gb) := je_cmp op_ne om_ne ha hb (nobehind _ (by decide) (by decide))
theorem je_ge (ha : JE X T E a ga) (hb : JE X T E b gb) : JE X T E (.Compare a [.GtE] [b] pos) (gBin mGeI ga gb) := je_cmp op_ge om_ge ha hb (nobehind _ (by decide) (by decide))
def mIsN (x : MV) : Bool := match x with
  | .non => true
  | _ => false
theorem isN_ok {Z : Zt} {ρ : List Addr} {H : Hp} {x : MV} {v : V} (r : RV Z ρ H x v) : decide (v = .non) = mIsN x := by cases r <;> rfl
def gIsN (a : ME) : ME := gUn (fun x h => .ok (.bl (mIsN x)) h) a
def gNotN (a : ME) : ME := gUn (fun x h => .ok (.bl (!mIsN x)) h) a
theorem le_isN : ∀ σ H Q, tE ⟨X.K, T⟩ E (gIsN ga) σ H Q → tIsN (tE ⟨X.K, T⟩ E ga) σ H Q := fun σ H Q ⟨ρ, m, h, s, q⟩ => stepE s q fun ρ1 h1 H1 x v s1 e1 r1 q1 => by
  rw [isN_ok r1]; exact q1.ok s1.hr (.bl _)
theorem le_notN : ∀ σ H Q, tE ⟨X.K, T⟩ E (gNotN ga) σ H Q → tNotN (tE ⟨X.K, T⟩ E ga) σ H Q := fun σ H Q ⟨ρ, m, h, s, q⟩ => stepE s q fun ρ1 h1 H1 x v s1 e1 r1 q1 => by
  rw [isN_ok r1]; exact q1.ok s1.hr (.bl _)
theorem le_B {t : TE} {g : ME} (k : ∀ σ H Q, tE ⟨X.K, T⟩ E g σ H Q → t σ H Q) : ∀ σ H Q, tT ⟨X.K, T⟩ E (gB g) σ H Q → tB t σ H Q := fun σ H Q ⟨ρ, m, h, s, q⟩ =>
  k _ _ _ (stepE s q fun ρ1 h1 H1 x v s1 e1 r1 q1 => by
    cases r1 with
    | bl b => exact ⟨b, rfl, q1.ok s1.hr rfl⟩
    | _ => exact q1.elim)
theorem jt_isN {j pos'} (ha : JE X T E a ga) : JT X T E (.Compare a [.Is] [.Constant .none j pos'] pos) (gB (gIsN ga)) := PT.le (pt_cmp (pc_isN ha)) (le_B le_isN)
theorem jt_notN {j pos'} (ha : JE X T E a ga) : JT X T E (.Compare a [.IsNot] [.Constant .none j pos'] pos) (gB (gNotN ga)) := PT.le (pt_cmp (pc_notN ha)) (le_B le_notN)
end
end MI
set_option Elab.async false
set_option linter.all false
set_option maxRecDepth 100000
set_option maxHeartbeats 4000000
namespace MI
open PySem PySem.Spec PyProof.Rows L2 JB
def mput (f : Nat) (v : MV) : List (Nat × MV) → List (Nat × MV)
  | [] => [(f, v)]
  | (g, x) :: r => if g = f then (g, v) :: r else (g, x) :: mput f v r
theorem RKs.put {Z : Zt} {ρ : List Addr} {H : Hp} {xs : List (Nat × MV)} {vs : List (Str × V)} (r : RKs nm Z ρ H xs vs) {f : Nat} {x : MV} {v : V} (q : RV Z ρ H x v) : RKs nm Z ρ H (mput f x xs) (putF (nm f) v vs) := by
  induction r with
  | nil => exact .cons q .nil
  | @cons k y w xs vs a r ih =>
    show RKs nm Z ρ H (if k = f then (k, x) :: xs else (k, y) :: mput f x xs) (if nm k = nm f then (nm k, v) :: vs else (nm k, w) :: putF (nm f) v vs)
    by_cases e : k = f
    · subst e; rw [if_pos rfl, if_pos rfl]; exact .cons q r
    · rw [if_neg e, if_neg (fun z => e (nm_inj z))]; exact .cons a ih
theorem RKs.length {κ κ' : Type} {f : κ → κ'} {Z : Zt} {ρ : List Addr} {H : Hp} {xs : List (κ × MV)} {vs : List (κ' × V)} (r : RKs f Z ρ H xs vs) : xs.length = vs.length := by
  induction r with
  | nil => rfl
  | cons _ _ ih => simp [ih]
def mFld (cs : List Nat) (f : Nat) (x : MV) (h : MH) : Out MV := match x with
  | .ref i => match h.get i with
    | some (.ins c fs) => if cs.contains c = true then match fs.lookup f with
        | some v => .ok v h
        | none => .bad
      else .bad
    | _ => .bad
  | _ => .bad
def gFld (cs : List Nat) (f : Nat) (a : ME) : ME := gUn (mFld cs f) a
def FldOk (K : PySem.W.Frag) (T : Nat → Addr) (cs : List Nat) (f : Nat) : Prop := ∀ c ∈ cs, Cls K (T c) ∧ NoAttr K (T c) (nm f)
def gFldS (cs : List Nat) (f : Nat) (v o : ME) : MS := fun m h => (v m h).bindS fun y h1 => (o m h1).bindS fun x h2 => match x with
  | .ref i => match h2.get i with
    | some (.ins c fs) => if cs.contains c = true ∧ fs.length < 900 then .nx m (h2.set i (.ins c (mput f y fs))) else .bad
    | _ => .bad
  | _ => .bad
def gFldAug (cs : List Nat) (f : Nat) (g : Int → Int → Int) (o v : ME) : MS := fun m h => (o m h).bindS fun x h1 => (mFld cs f x h1).bindS fun w h1 => (v m h1).bindS fun y h2 => match x, w, y with
  | .ref i, .int p, .int q => match h1.get i, h2.get i with
    | some (.ins c0 _), some (.ins c fs) => if c = c0 ∧ fs.length < 900 then .nx m (h2.set i (.ins c (mput f (.int (g p q)) fs))) else .bad
    | _, _ => .bad
  | _, _, _ => .bad
section
variable {X : Cx} {T : Nat → Addr} {E : XK} {o e value : Expr} {f : Str} {fi : Nat} {cs : List Nat} {pos pos' tpos : Pos} {go ge : ME}
theorem fld_ok {Z : Zt} {α : Type} {R : α → Prop} {ρ : List Addr} {h : MH} {H : Hp} {x : MV} {v : V} {k : MV → MH → SO} (R1 : HR Z ρ h H) (rv : RV Z ρ H x v) (D : Ends) (q : PostS Z ρ H D E ((mFld cs fi x h).bindS k)) :
    ∃ i a c fs dx vs y w, x = .ref i ∧ v = .ref a ∧ ρ[i]? = some a ∧ h.get i = some (.ins c fs) ∧ c ∈ cs ∧ H a = some (.ins (Z.adr c) dx vs) ∧ RKs nm Z ρ H fs vs ∧ vs.lookup (nm fi) = some w ∧ RV Z ρ H y w ∧ PostS Z ρ H D E (k y h) := by
  cases rv with
  | @ref i a hi =>
    have q' : PostS Z ρ H D E (Out.bindS (match h.get i with
      | some (.ins c fs) => if cs.contains c = true then match fs.lookup fi with
          | some v => .ok v h
          | none => .bad
        else .bad
      | _ => .bad) k) := q
    cases g : h.get i with
    | none => rw [g] at q'; exact q'.elim
    | some ob =>
      rw [g] at q'
      cases ob with
      | ins c fs =>
        dsimp only at q'
        by_cases z : cs.contains c = true
        · rw [if_pos z] at q'
          obtain ⟨dx, vs, h3, h4⟩ := R1.obj g hi
          rcases h4.lookup fi with ⟨l, _⟩ | ⟨y, w, l1, l2, l3⟩
          · rw [l] at q'; exact q'.elim
          · rw [l1] at q'
            exact ⟨i, a, c, fs, dx, vs, y, w, rfl, rfl, hi, g, by simpa using z, h3, h4, l2, l3, q'⟩
        · rw [if_neg z] at q'; exact q'.elim
      | _ => exact q'.elim
  | _ => exact q.elim
theorem je_fld (ho : JE X T E o go) (k : FldOk X.K T cs fi) (hf : f = nm fi := by rfl) (hb : attributeBase o f X.env (eval o X.env) = eval o X.env := by rfl) : JE X T E (.Attribute o f pos) (gFld cs fi go) := by
  refine PE.le (pe_fld ho hb) fun σ H Q ⟨ρ, m, h, s, q⟩ => stepE s q fun ρ1 h1 H1 x v s1 e1 r1 q1 => ?_
  cases r1 with
  | @ref i a hi =>
    have q' : Post ⟨X.K, T⟩ (rV ⟨X.K, T⟩) ρ1 H1 Q E (match h1.get i with
      | some (.ins c fs) => if cs.contains c = true then match fs.lookup fi with
          | some v => .ok v h1
          | none => .bad
        else .bad
      | _ => .bad) := q1
    cases g : h1.get i with
    | none => rw [g] at q'; exact q'.elim
    | some ob =>
      rw [g] at q'
      cases ob with
      | ins c fs =>
        dsimp only at q'
        by_cases z : cs.contains c = true
        · rw [if_pos z] at q'
          obtain ⟨dx, vs, h3, h4⟩ := s1.hr.obj g hi
          obtain ⟨k1, k2⟩ := k c (by simpa using z)
          rcases h4.lookup fi with ⟨l, _⟩ | ⟨y, w, l1, l2, l3⟩
          · rw [l] at q'; exact q'.elim
          · rw [l1] at q'
            subst hf
            exact ⟨a, T c, dx, vs, w, rfl, h3, k1, k2, l2, q'.ok s1.hr l3⟩
        · rw [if_neg z] at q'; exact q'.elim
      | _ => exact q'.elim
  | _ => exact q1.elim
theorem js_fld (ho : JE X T E o go) (hv : JE X T E value ge) (k : FldOk X.K T cs fi) (hf : f = nm fi := by rfl) (hs : swapsWith value (some (.Attribute o f pos')) pos.line X.env = pure false := by rfl) :
    JS X T E (.Assign [.Attribute o f pos'] value pos) (gFldS cs fi ge go) := by
  refine PS.le (ps_fld ho hv hs) fun D σ H ⟨ρ, m, h, s, q⟩ => sE s q fun ρ1 h1 H1 y w s1 e1 r1 q1 => sE s1 q1 fun ρ2 h2 H2 x v s2 e2 r2 q2 => ?_
  cases r2 with
  | @ref i a hi =>
    have q' : PostS ⟨X.K, T⟩ ρ2 H2 D E (match h2.get i with
      | some (.ins c fs) => if cs.contains c = true ∧ fs.length < 900 then .nx m (h2.set i (.ins c (mput fi y fs))) else .bad
      | _ => .bad) := q2
    cases g : h2.get i with
    | none => rw [g] at q'; exact q'.elim
    | some ob =>
      rw [g] at q'
      cases ob with
      | ins c fs =>
        dsimp only at q'
        by_cases z : cs.contains c = true ∧ fs.length < 900
        · rw [if_pos z] at q'
          obtain ⟨dx, vs, h3, h4⟩ := s2.hr.obj g hi
          obtain ⟨k1, k2⟩ := k c (by simpa using z.1)
          subst hf
          refine ⟨a, T c, dx, vs, rfl, h3, k1, k2, by rw [← h4.length]; omega, ?_⟩
          have x1 := s2.hr.grow g hi (.ins (T c) dx (putF (nm fi) w vs))
          exact q' ρ2 _ _ x1 (s2.to x1 (s2.hr.set g hi ⟨dx, _, upd_same, (h4.ext x1).put ((r1.ext e2).ext x1)⟩))
        · rw [if_neg z] at q'; exact q'.elim
      | _ => exact q'.elim
  | _ => exact q2.elim
theorem js_fldaug {op : Operator} {g : Int → Int → Int} (ho : JE X T E o go) (hv : JE X T E value ge) (k : FldOk X.K T cs fi) (hf : f = nm fi)
    (hop : InOp X op (fun x y H Q => ∃ i j, x = .int i ∧ y = .int j ∧ Q (.int (g i j)) H)) :
    JS X T E (.AugAssign (.Attribute o f tpos) op value pos) (gFldAug cs fi g go ge) := by
  refine PS.le (ps_fldaug ho hv hop) fun D σ H ⟨ρ, m, h, s, q⟩ => sE s q fun ρ1 h1 H1 x v s1 e1 r1 q1 => ?_
  obtain ⟨i, a, c, fs, dx, vs, y, w, rfl, rfl, hi, g1, hc, h3, _, l2, l3, q2⟩ := fld_ok (α := Unit) (R := fun _ => True) s1.hr r1 D q1
  obtain ⟨k1, k2⟩ := k c hc
  subst hf
  refine ⟨a, T c, dx, vs, w, rfl, h3, k1, k2, l2, sE s1 q2 fun ρ2 h2 H2 y2 w2 s2 e2 r2 q3 => ?_⟩
  have l4 := l3.ext e2
  clear l3
  cases l4 with
  | int p =>
    cases r2 with
    | int q0 =>
      refine ⟨p, q0, rfl, rfl, ?_⟩
      have q' : PostS ⟨X.K, T⟩ ρ2 H2 D E (match h1.get i, h2.get i with
        | some (.ins c0 _), some (.ins c fs) => if c = c0 ∧ fs.length < 900 then .nx m (h2.set i (.ins c (mput fi (.int (g p q0)) fs))) else .bad
        | _, _ => .bad) := q3
      rw [g1] at q'
      have hi2 := e2.at hi
      cases gg : h2.get i with
      | none => rw [gg] at q'; exact q'.elim
      | some ob =>
        rw [gg] at q'
        cases ob with
        | ins c' fs' =>
          dsimp only at q'
          by_cases z : c' = c ∧ fs'.length < 900
          · rw [if_pos z] at q'
            obtain ⟨rfl, z⟩ := z
            obtain ⟨dx', vs', h5, h6⟩ := s2.hr.obj gg hi2
            refine ⟨dx', vs', h5, by rw [← h6.length]; omega, ?_⟩
            have x1 := s2.hr.grow gg hi2 (.ins (T c') dx' (putF (nm fi) (.int (g p q0)) vs'))
            exact q' ρ2 _ _ x1 (s2.to x1 (s2.hr.set gg hi2 ⟨dx', _, upd_same, (h6.ext x1).put (.int _)⟩))
          · rw [if_neg z] at q'; exact q'.elim
        | _ => exact q'.elim
    | _ => exact q3.elim
  | _ => exact q3.elim
theorem aug_add : InOp X .Add (fun x y H Q => ∃ i j, x = .int i ∧ y = .int j ∧ Q (.int (i + j)) H) := in_add
end
def seqOf (h : MH) : MV → Option (List MV)
  | .tup xs => some xs
  | .ktp xs => some xs
  | .fls xs => some xs
  | .ref i => match h.get i with
    | some (.lst xs) => some xs
    | _ => none
  | _ => none
def isL : MV → Bool
  | .tup _ => false
  | .ktp _ => false
  | _ => true
theorem seqOf_ok {Z : Zt} {ρ : List Addr} {h : MH} {H : Hp} {x : MV} {v : V} {xs : List MV} (R : HR Z ρ h H) (r : RV Z ρ H x v) (e : seqOf h x = some xs) :
    ∃ a vs, v = .ref a ∧ RVs Z ρ H xs vs ∧ if isL x = true then SqL Z.K H a vs else SqT Z.K H a vs := by
  cases r with
  | tup h1 r1 => cases e; exact ⟨_, _, rfl, r1, .inl (.inl h1)⟩
  | ktp h1 r1 => cases e; exact ⟨_, _, rfl, r1, ktp_sq h1⟩
  | fls h1 r1 => cases e; exact ⟨_, _, rfl, r1, h1.sq⟩
  | @ref i a hi =>
    dsimp only [seqOf] at e
    cases g : h.get i with
    | none => rw [g] at e; cases e
    | some o =>
      rw [g] at e
      cases o with
      | lst ys =>
        cases e
        obtain ⟨vs, h1, h2⟩ := R.obj g hi
        exact ⟨a, vs, rfl, h2, .inl (.inl h1)⟩
      | _ => cases e
  | _ => cases e
theorem seqOf_or {Z : Zt} {ρ : List Addr} {h : MH} {H : Hp} {x : MV} {v : V} {xs : List MV} (R : HR Z ρ h H) (r : RV Z ρ H x v) (e : seqOf h x = some xs) :
    ∃ a vs, v = .ref a ∧ RVs Z ρ H xs vs ∧ (SqL Z.K H a vs ∨ SqT Z.K H a vs) := by
  obtain ⟨a, vs, h1, h2, h3⟩ := seqOf_ok R r e
  refine ⟨a, vs, h1, h2, ?_⟩
  split at h3
  · exact .inl h3
  · exact .inr h3
def mTru (h : MH) : MV → Option Bool
  | .non => some false
  | .bl b => some b
  | .int i => some (i != 0)
  | .str s => if s.length ≤ 1000000 then some (!s.isEmpty) else none
  | .ref i => match h.get i with
    | some (.lst xs) => some (!xs.isEmpty)
    | some (.dic kvs) => some (!kvs.isEmpty)
    | _ => none
  | x => (seqOf h x).map fun xs => !xs.isEmpty
def gTru (a : ME) : MT := fun m h => (a m h).bind fun x h1 => match mTru h1 x with
  | some b => .ok b h1
  | none => .bad
theorem RVs.emp {Z : Zt} {ρ : List Addr} {H : Hp} {xs : List MV} {vs : List V} (r : RVs Z ρ H xs vs) : (!xs.isEmpty) = !vs.isEmpty := by cases r <;> rfl
theorem RKs.emp {κ κ' : Type} {f : κ → κ'} {Z : Zt} {ρ : List Addr} {H : Hp} {xs : List (κ × MV)} {vs : List (κ' × V)} (r : RKs f Z ρ H xs vs) : (!xs.isEmpty) = !vs.isEmpty := by cases r <;> rfl
theorem mTru_ok {Z : Zt} {ρ : List Addr} {h : MH} {H : Hp} {x : MV} {v : V} {b : Bool} (R : HR Z ρ h H) (r : RV Z ρ H x v) (e : mTru h x = some b) : TruV Z.K v H b := by
  cases r with
  | non => cases e; exact rfl
  | bl c => cases e; exact rfl
  | int i => cases e; exact rfl
  | str s =>
    dsimp only [mTru] at e
    split at e
    · cases e
      refine ⟨?_, ?_⟩
      · show s.toArray.size ≤ sizeLine
        rw [sizeLine_eq]; simp; omega
      · show (!s.isEmpty) = ((s.toArray.size : Int) != 0)
        cases s with
        | nil => rfl
        | cons c l => simp; omega
    · cases e
  | tup h1 r1 => cases e; exact .inr (.inl ⟨_, .inl (.inl h1), r1.emp⟩)
  | ktp h1 r1 => cases e; exact .inr (.inl ⟨_, ktp_sq h1, r1.emp⟩)
  | fls h1 r1 => cases e; exact .inl ⟨_, h1.sq, r1.emp⟩
  | @ref i a hi =>
    dsimp only [mTru] at e
    cases g : h.get i with
    | none => rw [g] at e; cases e
    | some o =>
      rw [g] at e
      cases o with
      | lst ys =>
        cases e
        obtain ⟨vs, h1, h2⟩ := R.obj g hi
        exact .inl ⟨vs, .inl (.inl h1), h2.emp⟩
      | dic ys =>
        cases e
        obtain ⟨vs, h1, h2⟩ := R.obj g hi
        exact .inr (.inr ⟨vs, h1, h2.emp⟩)
      | _ => cases e
  | _ => cases e
section
variable {X : Cx} {T : Nat → Addr} {E : XK} {o e a : Expr} {pos : Pos} {go ge ga : ME}
theorem jt_tru (ha : JE X T E a ga) (he : ∀ whole, isTrue a X.env whole = (do let v ← whole; standAt a.pos; holding [v] (truthy v)) := by intro _; rfl) : JT X T E a (gTru ga) :=
  PT.le (pt_truth ha he) fun σ H Q ⟨ρ, m, h, s, q⟩ => stepE s q fun ρ1 h1 H1 x v s1 e1 r1 q1 => by
    cases k : mTru h1 x with
    | none => rw [k] at q1; exact q1.elim
    | some b => rw [k] at q1; exact ⟨b, mTru_ok s1.hr r1 k, q1.ok s1.hr rfl⟩
end
def mLen (h : MH) : MV → Option Nat
  | .str s => if s.length ≤ 1000000 then some s.length else none
  | .ref i => match h.get i with
    | some (.lst xs) => some xs.length
    | some (.dic kvs) => some kvs.length
    | _ => none
  | x => (seqOf h x).map List.length
end MI
set_option Elab.async false
set_option linter.all false
set_option maxRecDepth 100000
set_option maxHeartbeats 4000000
namespace MI
open PySem PySem.Spec PyProof.Rows L2 JB
def mkey : MV → Option MK
  | .int i => some (.inl i)
  | .str s => some (.inr s)
  | _ => none
def keq : MK → MK → Bool
  | .inl i, .inl j => decide (i = j)
  | .inr s, .inr t => leq s t
  | _, _ => false
theorem keq_iff : ∀ {a b : MK}, keq a b = true ↔ kOf a = kOf b
  | .inl i, .inl j => by simp [keq, kOf]
  | .inr s, .inr t => by
    show leq s t = true ↔ _
    rw [leq_iff]
    simp [kOf]
  | .inl _, .inr _ => by simp [keq, kOf]
  | .inr _, .inl _ => by simp [keq, kOf]
def keqs : List MK → List MK → Bool
  | [], [] => true
  | a :: l, b :: r => keq a b && keqs l r
  | _, _ => false
theorem keqs_iff : ∀ {a b : List MK}, keqs a b = true ↔ a.map kOf = b.map kOf
  | [], [] => by simp [keqs]
  | a :: l, b :: r => by simp [keqs, keq_iff, keqs_iff (a := l) (b := r)]
  | [], _ :: _ => by simp [keqs]
  | _ :: _, [] => by simp [keqs]
theorem mkey_ok {Z : Zt} {ρ : List Addr} {H : Hp} {x : MV} {v : V} {k : MK} (r : RV Z ρ H x v) (e : mkey x = some k) : v = kV (kOf k) := by
  cases r <;> cases e <;> rfl
def mkeys : List MV → Option (List MK)
  | [] => some []
  | x :: xs => match mkey x, mkeys xs with
    | some k, some ks => some (k :: ks)
    | _, _ => none
theorem mkeys_ok {Z : Zt} {ρ : List Addr} {H : Hp} : ∀ {xs : List MV} {vs : List V} {ks : List MK}, RVs Z ρ H xs vs → mkeys xs = some ks → vs = (ks.map kOf).map kV
  | _, _, ks, .nil, e => by cases e; rfl
  | _, _, ks, .cons (x := x) (xs := xs) a r, e => by
    dsimp only [mkeys] at e
    cases k1 : mkey x with
    | none => rw [k1] at e; cases e
    | some k =>
      cases k2 : mkeys xs with
      | none => rw [k1, k2] at e; cases e
      | some ks' =>
        rw [k1, k2] at e
        cases e
        rw [mkey_ok a k1, mkeys_ok r k2]; rfl
section
variable {κ κ' : Type} [DecidableEq κ'] (e : κ → κ → Bool)
def dval : List (κ × MV) → κ → Option MV
  | [], _ => none
  | (g, x) :: r, k => if e g k = true then some x else dval r k
def dhas : List (κ × MV) → κ → Bool
  | [], _ => false
  | (g, _) :: r, k => if e g k = true then true else dhas r k
def dset (k : κ) (v : MV) : List (κ × MV) → List (κ × MV)
  | [] => []
  | (g, x) :: r => if e g k = true then (g, v) :: dset k v r else (g, x) :: dset k v r
def dput (kvs : List (κ × MV)) (k : κ) (v : MV) : List (κ × MV) := if dhas e kvs k = true then dset e k v kvs else kvs ++ [(k, v)]
variable {e} {f : κ → κ'} {Z : Zt} {ρ : List Addr} {H : Hp}
theorem dval_ok (he : ∀ a b, e a b = true ↔ f a = f b) {xs : List (κ × MV)} {vs : List (κ' × V)} (r : RKs f Z ρ H xs vs) (k : κ) :
    (dval e xs k = none ∧ valV vs (f k) = none) ∨ ∃ x v, dval e xs k = some x ∧ valV vs (f k) = some v ∧ RV Z ρ H x v := by
  induction r with
  | nil => exact .inl ⟨rfl, rfl⟩
  | @cons g x v xs vs a r ih =>
    by_cases z : e g k = true
    · exact .inr ⟨x, v, if_pos z, valV_pos ((he _ _).mp z), a⟩
    · have z' : ¬ f g = f k := fun q => z ((he _ _).mpr q)
      rw [valV_neg z']
      show (((if e g k = true then some x else dval e xs k) = none) ∧ _) ∨ ∃ y v, ((if e g k = true then some x else dval e xs k) = some y) ∧ _
      rw [if_neg z]
      exact ih
theorem dhas_ok (he : ∀ a b, e a b = true ↔ f a = f b) {xs : List (κ × MV)} {vs : List (κ' × V)} (r : RKs f Z ρ H xs vs) (k : κ) : dhas e xs k = vs.any fun kv => decide (kv.1 = f k) := by
  induction r with
  | nil => rfl
  | @cons g x v xs vs a r ih =>
    rw [List.any_cons]
    show (if e g k = true then true else dhas e xs k) = _
    by_cases z : e g k = true
    · rw [if_pos z, decide_eq_true ((he _ _).mp z), Bool.true_or]
    · rw [if_neg z, decide_eq_false (fun q => z ((he _ _).mpr q)), Bool.false_or]; exact ih
theorem dset_ok (he : ∀ a b, e a b = true ↔ f a = f b) {xs : List (κ × MV)} {vs : List (κ' × V)} (r : RKs f Z ρ H xs vs) {k : κ} {y : MV} {w : V} (q : RV Z ρ H y w) :
    RKs f Z ρ H (dset e k y xs) (vs.map fun kv => if kv.1 = f k then (kv.1, w) else kv) := by
  induction r with
  | nil => exact .nil
  | @cons g x v xs vs a r ih =>
    rw [List.map_cons]
    show RKs f Z ρ H (if e g k = true then (g, y) :: dset e k y xs else (g, x) :: dset e k y xs) ((if f g = f k then (f g, w) else (f g, v)) :: _)
    by_cases z : e g k = true
    · rw [if_pos z, if_pos ((he _ _).mp z)]; exact .cons q ih
    · rw [if_neg z, if_neg (fun q => z ((he _ _).mpr q))]; exact .cons a ih
theorem RKs.snoc {xs : List (κ × MV)} {vs : List (κ' × V)} (r : RKs f Z ρ H xs vs) {k : κ} {y : MV} {w : V} (q : RV Z ρ H y w) : RKs f Z ρ H (xs ++ [(k, y)]) (vs ++ [(f k, w)]) := by
  induction r with
  | nil => exact .cons q .nil
  | cons a _ ih => exact .cons a ih
theorem dput_ok (he : ∀ a b, e a b = true ↔ f a = f b) {xs : List (κ × MV)} {vs : List (κ' × V)} (r : RKs f Z ρ H xs vs) {k : κ} {y : MV} {w : V} (q : RV Z ρ H y w) : RKs f Z ρ H (dput e xs k y) (putK vs (f k) w) := by
  unfold dput putK
  rw [dhas_ok he r k]
  split
  · exact dset_ok he r q
  · exact r.snoc q
end
theorem gBin_or {f f1 f2 : MV → MV → MH → Out MV} (k : ∀ x y h, f x y h = f1 x y h ∨ f x y h = f2 x y h) (a b : ME) (m : ML) (h : MH) : gBin f a b m h = gBin f1 a b m h ∨ gBin f a b m h = gBin f2 a b m h := by
  unfold gBin
  cases a m h with
  | bad => exact .inl rfl
  | er _ _ => exact .inl rfl
  | ok x h1 =>
    show (Out.bind (b m h1) _ = Out.bind (b m h1) _) ∨ _
    show ((b m h1).bind (fun y h2 => f x y h2) = (b m h1).bind fun y h2 => f1 x y h2) ∨ ((b m h1).bind (fun y h2 => f x y h2) = (b m h1).bind fun y h2 => f2 x y h2)
    cases b m h1 with
    | bad => exact .inl rfl
    | er _ _ => exact .inl rfl
    | ok y h2 => exact k x y h2
section
variable {X : Cx} {T : Nat → Addr} {E : XK} {e a b : Expr} {ga gb : ME} {f f1 f2 : MV → MV → MH → Out MV}
theorem PE.or {t t' : TE} (p : PE X e t) (q : PE X e t') : PE X e (fun σ H Q => t σ H Q ∨ t' σ H Q) := ⟨fun pins s σ H Q I h => h.elim (p.run pins s σ H Q I) (q.run pins s σ H Q I)⟩
theorem PT.or {t t' : TT} (p : PT X e t) (q : PT X e t') : PT X e (fun σ H Q => t σ H Q ∨ t' σ H Q) := ⟨fun pins s σ H Q I h => h.elim (p.run pins s σ H Q I) (q.run pins s σ H Q I)⟩
theorem je_bin_or (p : JE X T E e (gBin f1 ga gb)) (q : JE X T E e (gBin f2 ga gb)) (k : ∀ x y h, f x y h = f1 x y h ∨ f x y h = f2 x y h) : JE X T E e (gBin f ga gb) :=
  PE.le (PE.or p q) fun σ H Q ⟨ρ, m, h, s, z⟩ => by
    rcases gBin_or k ga gb m h with w | w
    · rw [w] at z; exact .inl ⟨ρ, m, h, s, z⟩
    · rw [w] at z; exact .inr ⟨ρ, m, h, s, z⟩
theorem jt_bin_or (p : JT X T E e (gB (gBin f1 ga gb))) (q : JT X T E e (gB (gBin f2 ga gb))) (k : ∀ x y h, f x y h = f1 x y h ∨ f x y h = f2 x y h) : JT X T E e (gB (gBin f ga gb)) :=
  PT.le (PT.or p q) fun σ H Q ⟨ρ, m, h, s, z⟩ => by
    unfold gB at z
    rcases gBin_or k ga gb m h with w | w
    · rw [w] at z; exact .inl ⟨ρ, m, h, s, z⟩
    · rw [w] at z; exact .inr ⟨ρ, m, h, s, z⟩
end
def isD (h : MH) : MV → Bool
  | .ref i => match h.get i with
    | some (.dic _) => true
    | some (.dit _) => true
    | some (.fdi _) => true
    | _ => false
  | _ => false
def oV (o : Option MV) (h : MH) : Out MV := match o with
  | some v => .ok v h
  | none => .bad
def mIxS (x y : MV) (h : MH) : Out MV := match y with
  | .int i => match x with
    | .str s => if s.length ≤ 1000000 then oV ((atI s i).map fun c => .str [c]) h else .bad
    | x => match seqOf h x with
      | some xs => oV (atI xs i) h
      | none => .bad
  | _ => .bad
def dGet (h : MH) (x y : MV) : Option (Option MV) := match x with
  | .ref i => match h.get i with
    | some (.dic kvs) => (mkey y).map fun k => dval keq kvs k
    | some (.fdi kvs) => (mkey y).map fun k => dval keq kvs k
    | some (.dit kvs) => match y with
      | .tup ys => (mkeys ys).map fun k => dval keqs kvs k
      | _ => none
    | _ => none
  | _ => none
def mIxD (x y : MV) (h : MH) : Out MV := match dGet h x y with
  | some o => oV o h
  | none => .bad
def mIx (x y : MV) (h : MH) : Out MV := if isD h x = true then mIxD x y h else mIxS x y h
theorem dGet_ok {Z : Zt} {ρ : List Addr} {h : MH} {H : Hp} {x y : MV} {v w : V} {o : Option MV} (R : HR Z ρ h H) (r : RV Z ρ H x v) (q : RV Z ρ H y w) (e : dGet h x y = some o) :
    ∃ a o', v = .ref a ∧ DGet H a w o' ∧ ((o = none ∧ o' = none) ∨ ∃ z u, o = some z ∧ o' = some u ∧ RV Z ρ H z u) := by
  cases r with
  | @ref i a hi =>
    dsimp only [dGet] at e
    cases g : h.get i with
    | none => rw [g] at e; cases e
    | some ob =>
      rw [g] at e
      cases ob with
      | dic kvs =>
        dsimp only at e
        obtain ⟨vs, h1, h2⟩ := R.obj g hi
        cases k : mkey y with
        | none => rw [k] at e; cases e
        | some k' =>
          rw [k] at e
          cases e
          rw [mkey_ok q k]
          exact ⟨a, _, rfl, DGet.k h1, dval_ok (e := keq) (f := kOf) (fun a b => keq_iff) h2 k'⟩
      | fdi kvs =>
        dsimp only at e
        obtain ⟨od, vs, h1, h2⟩ := R.obj g hi
        cases k : mkey y with
        | none => rw [k] at e; cases e
        | some k' =>
          rw [k] at e
          cases e
          rw [mkey_ok q k]
          exact ⟨a, _, rfl, .inl ⟨vs, kOf k', .inr ⟨od, h1⟩, rfl, rfl⟩, dval_ok (e := keq) (f := kOf) (fun a b => keq_iff) h2 k'⟩
      | dit kvs =>
        dsimp only at e
        obtain ⟨vs, h1, h2⟩ := R.obj g hi
        cases q with
        | tup h3 r3 =>
          dsimp only at e
          rename_i b ys ws
          cases k : mkeys ys with
          | none => rw [k] at e; cases e
          | some k' =>
            rw [k] at e
            cases e
            have hw := mkeys_ok r3 k
            subst hw
            exact ⟨a, _, rfl, DGet.t (k := k'.map kOf) h1 h3, dval_ok (e := keqs) (f := List.map kOf) (fun a b => keqs_iff) h2 k'⟩
        | _ => cases e
      | _ => cases e
  | _ => cases e
theorem RVs.len_get {Z : Zt} {ρ : List Addr} {H : Hp} {xs : List MV} {vs : List V} (r : RVs Z ρ H xs vs) {i : Int} {x : MV} (e : atI xs i = some x) : ∃ v, atI vs i = some v ∧ RV Z ρ H x v := by
  unfold atI at e ⊢
  rw [← r.length]
  cases k : ixN xs.length i with
  | none => rw [k] at e; cases e
  | some j =>
    rw [k] at e
    exact r.get e
theorem om_ixS {Z : Zt} {E : XK} : OpM Z E mIxS (rIx Z.K) := fun ρ h H x y v w Q R r q p => by
  cases q with
  | int i =>
    by_cases hs : ∃ s, x = .str s
    · obtain ⟨s, rfl⟩ := hs
      cases r
      have p' : Post Z (rV Z) ρ H Q E (if s.length ≤ 1000000 then oV ((atI s i).map fun c => .str [c]) h else .bad) := p
      by_cases z : s.length ≤ 1000000
      · rw [if_pos z] at p'
        cases k : atI s i with
        | none => rw [k] at p'; exact p'.elim
        | some c =>
          rw [k] at p'
          exact .inr (.inr ⟨_, i, c, rfl, rfl, by show s.toArray.size ≤ sizeLine; rw [sizeLine_eq]; simp; omega, k, Post.ok (R := rV Z) (a := .str [c]) p' R (.str [c])⟩)
      · rw [if_neg z] at p'; exact p'.elim
    · have p' : Post Z (rV Z) ρ H Q E (match seqOf h x with
        | some xs => oV (atI xs i) h
        | none => .bad) := by
        cases x <;> first
          | exact absurd ⟨_, rfl⟩ hs
          | exact p
      cases k : seqOf h x with
      | none => rw [k] at p'; exact p'.elim
      | some xs =>
        rw [k] at p'
        dsimp only at p'
        obtain ⟨a, vs, rfl, r2, hq⟩ := seqOf_or R r k
        cases k2 : atI xs i with
        | none => rw [k2] at p'; exact p'.elim
        | some z =>
          rw [k2] at p'
          obtain ⟨u, h1, h2⟩ := r2.len_get k2
          have fin := Post.ok (R := rV Z) (a := z) p' R h2
          rcases hq with hq | hq
          · exact .inl ⟨a, vs, i, u, rfl, rfl, hq, h1, fin⟩
          · exact .inr (.inl ⟨a, vs, i, u, rfl, rfl, hq, h1, fin⟩)
  | _ => exact p.elim
section
variable {X : Cx} {T : Nat → Addr} {E : XK} {e a b o i value : Expr} {ga gb gv go gi : ME} {pos pos' : Pos}
theorem je_ixS (ha : JE X T E a ga) (hb : JE X T E b gb) (hs : PlainIx b := by intro _ _; rfl) : JE X T E (.Subscript a b pos) (gBin mIxS ga gb) := PE.le (pe_ix ix_seq ha hb hs) (le_op om_ixS)
theorem je_ixD (hu : X.A.units + 1 < cLine) (ha : JE X T E a ga) (hb : JE X T E b gb) (hs : NoSl b := by intro _ _; rfl) : JE X T E (.Subscript a b pos) (gBin mIxD ga gb) :=
  PE.le (pe_dget hu ha hb hs) fun σ H Q ⟨ρ, m, h, s, q⟩ => stepE s q fun ρ1 h1 H1 x v s1 e1 r1 q1 => stepE s1 q1 fun ρ2 h2 H2 y w s2 e2 r2 q2 => by
    unfold mIxD at q2
    cases k : dGet h2 x y with
    | none => rw [k] at q2; exact q2.elim
    | some oo =>
      rw [k] at q2
      obtain ⟨aa, o', rfl, h3, h4⟩ := dGet_ok s2.hr (r1.ext e2) r2 k
      rcases h4 with ⟨rfl, rfl⟩ | ⟨z, u, rfl, rfl, h5⟩
      · exact q2.elim
      · exact ⟨aa, u, rfl, h3, Post.ok (R := rV ⟨X.K, T⟩) (a := z) q2 s2.hr h5⟩
theorem je_ix (hu : X.A.units + 1 < cLine) (ha : JE X T E a ga) (hb : JE X T E b gb) (hs : PlainIx b := by intro _ _; rfl) (hs2 : NoSl b := by intro _ _; rfl) : JE X T E (.Subscript a b pos) (gBin mIx ga gb) :=
  je_bin_or (je_ixD hu ha hb hs2) (je_ixS ha hb hs) fun x y h => by
    unfold mIx
    split
    · exact .inl rfl
    · exact .inr rfl
def mflat : MV → Bool
  | .non => true
  | .int _ => true
  | .str _ => true
  | _ => false
def mEqF : MV → MV → Bool
  | .non, .non => true
  | .int i, .int j => decide (i = j)
  | .str s, .str t => leq s t
  | _, _ => false
def mhas (x : MV) : List MV → Option Bool
  | [] => some false
  | y :: ys => if mflat y = true then (mhas x ys).map fun b => mEqF y x || b else none
def mInS (x y : MV) (h : MH) : Out MV := match y with
  | .str t => match x with
    | .str [c] => .ok (.bl (t.contains c)) h
    | _ => .bad
  | y => match seqOf h y with
    | some ys => if mflat x = true then oB (mhas x ys) h else .bad
    | none => .bad
def mInK (k : Bool → Bool) (x y : MV) (h : MH) : Out MV := (mInS x y h).bind fun b h => match b with
  | .bl b => .ok (.bl (k b)) h
  | _ => .bad
def mInD (k : Bool → Bool) (x y : MV) (h : MH) : Out MV := match dGet h y x with
  | some o => .ok (.bl (k o.isSome)) h
  | none => .bad
def mIn (k : Bool → Bool) (x y : MV) (h : MH) : Out MV := if isD h y = true then mInD k x y h else mInK k x y h
theorem mhas_ok {Z : Zt} {ρ : List Addr} {H : Hp} {x : MV} {v : V} (r : RV Z ρ H x v) (fx : mflat x = true) : ∀ {ys : List MV} {ws : List V} {b : Bool}, RVs Z ρ H ys ws → mhas x ys = some b → flatV v = true ∧ ws.all flatV = true ∧ inV v ws = b
  | _, _, b, .nil, e => by
    cases e
    exact ⟨(by cases r <;> first | rfl | cases fx), rfl, rfl⟩
  | _, _, b, .cons (x := y) (v := w) a r2, e => by
    dsimp only [mhas] at e
    by_cases fy : mflat y = true
    · rw [if_pos fy] at e
      obtain ⟨b', e1, rfl⟩ := Option.map_eq_some_iff.mp e
      obtain ⟨h1, h2, h3⟩ := mhas_ok r fx r2 e1
      refine ⟨h1, ?_, ?_⟩
      · rw [List.all_cons, h2, Bool.and_true]
        cases a <;> first | rfl | cases fy
      · show (eqV w v || inV v _) = _
        rw [h3]
        have : eqV w v = mEqF y x := by
          cases a <;> first
            | (cases fy; done)
            | (cases r <;> first
                | (cases fx; done)
                | rfl
                | (show (_ == _) = leq _ _
                   rw [Bool.eq_iff_iff, leq_iff]; simp)
                | (show (_ == _) = decide _
                   rw [Bool.eq_iff_iff]; simp))
        rw [this]
    · rw [if_neg fy] at e; cases e
abbrev rInM (K : PySem.W.Frag) : R2 := fun x y H Q => rIn K false x y H Q ∨ ∃ (c : Nat) (z : Str), x = .str ⟨#[c]⟩ ∧ y = .str z ∧ Q (.bl (decide (c ∈ z.cps.toList))) H
abbrev rNinM (K : PySem.W.Frag) : R2 := fun x y H Q => rIn K true x y H Q ∨ ∃ (c : Nat) (z : Str), x = .str ⟨#[c]⟩ ∧ y = .str z ∧ Q (.bl (!decide (c ∈ z.cps.toList))) H
theorem mInS_ok {Z : Zt} {ρ : List Addr} {h : MH} {H : Hp} {x y : MV} {v w : V} {E : XK} {Q : VK} {k : Bool → Bool} (R : HR Z ρ h H) (r : RV Z ρ H x v) (q : RV Z ρ H y w)
    (p : Post Z (rV Z) ρ H Q E ((mInS x y h).bind fun b h => match b with
      | .bl b => .ok (.bl (k b)) h
      | _ => .bad)) :
    (∃ p xs, w = .ref p ∧ (SqL Z.K H p xs ∨ SqT Z.K H p xs) ∧ flatV v = true ∧ xs.all flatV = true ∧ Q (.bl (k (inV v xs))) H) ∨ ∃ (c : Nat) (z : Str), v = .str ⟨#[c]⟩ ∧ w = .str z ∧ Q (.bl (k (decide (c ∈ z.cps.toList)))) H := by
  by_cases hs : ∃ s, y = .str s
  · obtain ⟨s, rfl⟩ := hs
    cases q
    by_cases hx : ∃ c, x = .str [c]
    · obtain ⟨c, rfl⟩ := hx
      cases r
      refine .inr ⟨c, _, rfl, rfl, ?_⟩
      have p' : Post Z (rV Z) ρ H Q E (.ok (.bl (k (s.contains c))) h) := p
      have e : decide (c ∈ (⟨s.toArray⟩ : Str).cps.toList) = s.contains c := by
        show decide (c ∈ s) = _
        rw [Bool.eq_iff_iff]; simp
      rw [e]
      exact p'.ok R (.bl _)
    · have : mInS x (.str s) h = .bad := by
        cases x with
        | str t =>
          cases t with
          | nil => rfl
          | cons c l =>
            cases l with
            | nil => exact absurd ⟨c, rfl⟩ hx
            | cons _ _ => rfl
        | _ => rfl
      rw [this] at p
      exact p.elim
  · have e : mInS x y h = (match seqOf h y with
      | some ys => if mflat x = true then oB (mhas x ys) h else .bad
      | none => .bad) := by
      cases y <;> first
        | exact absurd ⟨_, rfl⟩ hs
        | rfl
    rw [e] at p
    cases g : seqOf h y with
    | none => rw [g] at p; exact p.elim
    | some ys =>
      rw [g] at p
      dsimp only at p
      by_cases fx : mflat x = true
      · rw [if_pos fx] at p
        cases g2 : mhas x ys with
        | none => rw [g2] at p; exact p.elim
        | some b =>
          rw [g2] at p
          obtain ⟨a, ws, rfl, r2, hq⟩ := seqOf_or R q g
          obtain ⟨h1, h2, h3⟩ := mhas_ok r fx r2 g2
          have p' : Post Z (rV Z) ρ H Q E (.ok (.bl (k b)) h) := p
          exact .inl ⟨a, ws, rfl, hq, h1, h2, by rw [h3]; exact p'.ok R (.bl _)⟩
      · rw [if_neg fx] at p; exact p.elim
theorem om_in {Z : Zt} {E : XK} : OpM Z E (mInK fun b => b) (rInM Z.K) := fun ρ h H x y v w Q R r q p => by
  rcases mInS_ok (k := fun b => b) R r q p with ⟨a, xs, h1, h2, h3, h4, h5⟩ | z
  · exact .inl ⟨a, xs, h1, h2, h3, h4, h5⟩
  · exact .inr z
theorem om_nin {Z : Zt} {E : XK} : OpM Z E (mInK fun b => !b) (rNinM Z.K) := fun ρ h H x y v w Q R r q p => by
  rcases mInS_ok (k := fun b => !b) R r q p with ⟨a, xs, h1, h2, h3, h4, h5⟩ | z
  · exact .inl ⟨a, xs, h1, h2, h3, h4, h5⟩
  · exact .inr z
theorem le_inD : ∀ σ H Q, tE ⟨X.K, T⟩ E (gBin (mInD fun b => b) ga gb) σ H Q → tDIn (tE ⟨X.K, T⟩ E ga) (tE ⟨X.K, T⟩ E gb) σ H Q := fun σ H Q ⟨ρ, m, h, s, q⟩ =>
  stepE s q fun ρ1 h1 H1 x v s1 e1 r1 q1 => stepE s1 q1 fun ρ2 h2 H2 y w s2 e2 r2 q2 => by
    unfold mInD at q2
    cases k : dGet h2 y x with
    | none => rw [k] at q2; exact q2.elim
    | some oo =>
      rw [k] at q2
      obtain ⟨aa, o', rfl, h3, h4⟩ := dGet_ok s2.hr r2 (r1.ext e2) k
      have e : o'.isSome = oo.isSome := by rcases h4 with ⟨rfl, rfl⟩ | ⟨z, u, rfl, rfl, _⟩ <;> rfl
      exact ⟨aa, o', rfl, h3, by rw [e]; exact Post.ok (R := rV ⟨X.K, T⟩) (a := .bl oo.isSome) q2 s2.hr (.bl _)⟩
theorem le_ninD : ∀ σ H Q, tE ⟨X.K, T⟩ E (gBin (mInD fun b => !b) ga gb) σ H Q → tDNotIn (tE ⟨X.K, T⟩ E ga) (tE ⟨X.K, T⟩ E gb) σ H Q := fun σ H Q ⟨ρ, m, h, s, q⟩ =>
  stepE s q fun ρ1 h1 H1 x v s1 e1 r1 q1 => stepE s1 q1 fun ρ2 h2 H2 y w s2 e2 r2 q2 => by
    unfold mInD at q2
    cases k : dGet h2 y x with
    | none => rw [k] at q2; exact q2.elim
    | some oo =>
      rw [k] at q2
      obtain ⟨aa, o', rfl, h3, h4⟩ := dGet_ok s2.hr r2 (r1.ext e2) k
      have e : o'.isSome = oo.isSome := by rcases h4 with ⟨rfl, rfl⟩ | ⟨z, u, rfl, rfl, _⟩ <;> rfl
      exact ⟨aa, o', rfl, h3, by rw [e]; exact Post.ok (R := rV ⟨X.K, T⟩) (a := .bl (!oo.isSome)) q2 s2.hr (.bl _)⟩
theorem mIn_or (k : Bool → Bool) (x y : MV) (h : MH) : mIn k x y h = mInD k x y h ∨ mIn k x y h = mInK k x y h := by
  unfold mIn
  split
  · exact .inl rfl
  · exact .inr rfl
theorem jt_in (hu : X.A.units + 1 < cLine) (ha : JE X T E a ga) (hb : JE X T E b gb) (hm : behindInMarks .In b = false := by rfl) : JT X T E (.Compare a [.In] [b] pos) (gB (gBin (mIn fun b => b) ga gb)) :=
  jt_bin_or (PT.le (pt_cmp (pc_din hu ha hb) hm) (le_B le_inD)) (jt_cmp (OpR.or op_in_seq op_in_sign) om_in ha hb hm) (mIn_or _)
theorem jt_notIn (hu : X.A.units + 1 < cLine) (ha : JE X T E a ga) (hb : JE X T E b gb) (hm : behindInMarks .NotIn b = false := by rfl) : JT X T E (.Compare a [.NotIn] [b] pos) (gB (gBin (mIn fun b => !b) ga gb)) :=
  jt_bin_or (PT.le (pt_cmp (pc_dnotin hu ha hb) hm) (le_B le_ninD)) (jt_cmp (OpR.or op_notIn_seq op_notIn_sign) om_nin ha hb hm) (mIn_or _)
theorem je_in (hu : X.A.units + 1 < cLine) (ha : JE X T E a ga) (hb : JE X T E b gb) (hm : behindInMarks .In b = false := by rfl) : JE X T E (.Compare a [.In] [b] pos) (gBin (mIn fun b => b) ga gb) :=
  je_bin_or (PE.le (pe_cmp (pc_din hu ha hb) hm) le_inD) (je_cmp (OpR.or op_in_seq op_in_sign) om_in ha hb hm) (mIn_or _)
def gDic : ME := fun _ h => .ok (.ref h.n) (h.push (.dic []))
theorem je_dic : JE X T E (.Dict [] [] pos) gDic := PE.le pe_dnewK fun σ H Q ⟨ρ, m, h, s, q⟩ p hp =>
  q (ρ ++ [p]) _ _ (Ext.push hp) (s.hr.push hp ⟨[], upd_same, .nil⟩) (.ref (by rw [← s.hr.len]; simp))
def dPutM (h : MH) (x y v : MV) : Option MH := match x with
  | .ref i => match h.get i with
    | some (.dic kvs) => match mkey y with
      | some k => if kvs.length < 1000000 then some (h.set i (.dic (dput keq kvs k v))) else none
      | none => none
    | some (.dit kvs) => match y with
      | .tup ys => match mkeys ys with
        | some k => if kvs.length < 1000000 then some (h.set i (.dit (dput keqs kvs k v))) else none
        | none => none
      | _ => none
    | _ => none
  | _ => none
theorem dPut_ok {Z : Zt} {ρ : List Addr} {h h' : MH} {H : Hp} {x y z : MV} {v w u : V} (R : HR Z ρ h H) (r : RV Z ρ H x v) (q : RV Z ρ H y w) (t : RV Z ρ H z u) (e : dPutM h x y z = some h') :
    ∃ a H', v = .ref a ∧ DPut H a w u H' ∧ Ext ρ H ρ H' ∧ HR Z ρ h' H' := by
  cases r with
  | @ref i a hi =>
    dsimp only [dPutM] at e
    cases g : h.get i with
    | none => rw [g] at e; cases e
    | some ob =>
      rw [g] at e
      cases ob with
      | dic kvs =>
        dsimp only at e
        obtain ⟨vs, h1, h2⟩ := R.obj g hi
        cases k : mkey y with
        | none => rw [k] at e; cases e
        | some k' =>
          rw [k] at e
          dsimp only at e
          split at e
          · rename_i hl
            cases e
            rw [mkey_ok q k]
            refine ⟨a, _, rfl, DPut.k h1 (by rw [← h2.length, sizeLine_eq]; omega), R.grow g hi _, R.set g hi ⟨_, upd_same, ?_⟩⟩
            have x1 := R.grow g hi (.dK (putK vs (kOf k') u))
            exact dput_ok (e := keq) (f := kOf) (fun a b => keq_iff) (h2.ext x1) (t.ext x1)
          · cases e
      | dit kvs =>
        dsimp only at e
        obtain ⟨vs, h1, h2⟩ := R.obj g hi
        cases q with
        | tup h3 r3 =>
          dsimp only at e
          rename_i b ys ws
          cases k : mkeys ys with
          | none => rw [k] at e; cases e
          | some k' =>
            rw [k] at e
            dsimp only at e
            split at e
            · rename_i hl
              cases e
              have hw := mkeys_ok r3 k
              subst hw
              refine ⟨a, _, rfl, DPut.t (k := k'.map kOf) h1 h3 (by rw [← h2.length, sizeLine_eq]; omega), R.grow g hi _, R.set g hi ⟨_, upd_same, ?_⟩⟩
              have x1 := R.grow g hi (.dT (putK vs (k'.map kOf) u))
              exact dput_ok (e := keqs) (f := List.map kOf) (fun a b => keqs_iff) (h2.ext x1) (t.ext x1)
            · cases e
        | _ => cases e
      | _ => cases e
  | _ => cases e
end
end MI
set_option Elab.async false
set_option linter.all false
set_option maxRecDepth 100000
set_option maxHeartbeats 4000000
namespace MI
open PySem PySem.Spec PyProof.Rows L2 JB
def it1 (xs : List MV) : It1 := ⟨fun _ => xs.length, fun i _ => some xs[i]?⟩
def it1L (j : Nat) : It1 := ⟨fun h => match h.get j with
  | some (.lst xs) => xs.length
  | _ => 0, fun i h => match h.get j with
  | some (.lst xs) => some xs[i]?
  | _ => none⟩
def it1R (lo : Int) (n : Nat) : It1 := ⟨fun _ => n, fun i _ => some (if i < n then some (.int (lo + i)) else none)⟩
def mIter (h : MH) : MV → Option It1
  | .tup xs => some (it1 xs)
  | .ktp xs => some (it1 xs)
  | .fls xs => some (it1 xs)
  | .str s => some (it1 (s.map fun c => .str [c]))
  | .ref j => match h.get j with
    | some (.lst _) => some (it1L j)
    | _ => none
  | _ => none
def gIter (a : ME) : MI1 := fun m h => (a m h).bind fun x h1 => match mIter h1 x with
  | some it => .ok it h1
  | none => .bad
theorem RVs.none {Z : Zt} {ρ : List Addr} {H : Hp} {xs : List MV} {vs : List V} (r : RVs Z ρ H xs vs) {i : Nat} (e : xs[i]? = none) : vs.length ≤ i := by
  rw [← r.length]; exact List.getElem?_eq_none_iff.mp e
section
variable {Z : Zt} {ρ : List Addr} {h : MH} {H : Hp}
theorem rI_tup {a : Addr} {xs : List MV} {vs : List V} (r : RVs Z ρ H xs vs) (k : ∀ ρ' H', Ext ρ H ρ' H' → SqT Z.K H' a vs) : rI Z ρ H (it1 xs) (Itt Z.K a) := by
  intro i ρ' h' H' e R
  show match some xs[i]? with
    | none => True
    | some none => (Itt Z.K a).stop i H'
    | some (some x) => (Itt Z.K a).go i H' ∧ ∀ v H'', (Itt Z.K a).yld i H' v H'' → ∃ ρ'', Ext ρ' H' ρ'' H'' ∧ HR Z ρ'' h' H'' ∧ RV Z ρ'' H'' x v
  cases g : xs[i]? with
  | none => exact ⟨vs, k _ _ e, r.none g⟩
  | some x =>
    obtain ⟨v, h1, h2⟩ := r.get g
    refine ⟨⟨vs, v, k _ _ e, h1⟩, fun w H'' y => ?_⟩
    obtain ⟨rfl, y⟩ := y
    have := y vs (k _ _ e)
    rw [h1] at this
    cases this
    exact ⟨ρ', .refl, R, h2.ext e⟩
theorem rI_lst {a : Addr} {xs : List MV} {vs : List V} (r : RVs Z ρ H xs vs) (k : ∀ ρ' H', Ext ρ H ρ' H' → SqL Z.K H' a vs) : rI Z ρ H (it1 xs) (Itl Z.K a) := by
  intro i ρ' h' H' e R
  show match some xs[i]? with
    | none => True
    | some none => (Itl Z.K a).stop i H'
    | some (some x) => (Itl Z.K a).go i H' ∧ ∀ v H'', (Itl Z.K a).yld i H' v H'' → ∃ ρ'', Ext ρ' H' ρ'' H'' ∧ HR Z ρ'' h' H'' ∧ RV Z ρ'' H'' x v
  cases g : xs[i]? with
  | none => exact ⟨vs, k _ _ e, r.none g⟩
  | some x =>
    obtain ⟨v, h1, h2⟩ := r.get g
    refine ⟨⟨vs, v, k _ _ e, h1⟩, fun w H'' y => ?_⟩
    obtain ⟨rfl, y⟩ := y
    have := y vs (k _ _ e)
    rw [h1] at this
    cases this
    exact ⟨ρ', .refl, R, h2.ext e⟩
theorem rI_ref {a : Addr} {j : Nat} (hj : ρ[j]? = some a) : rI Z ρ H (it1L j) (Itl Z.K a) := by
  intro i ρ' h' H' e R
  show match (match h'.get j with
      | some (.lst xs) => some xs[i]?
      | _ => none) with
    | none => True
    | some none => (Itl Z.K a).stop i H'
    | some (some x) => (Itl Z.K a).go i H' ∧ ∀ v H'', (Itl Z.K a).yld i H' v H'' → ∃ ρ'', Ext ρ' H' ρ'' H'' ∧ HR Z ρ'' h' H'' ∧ RV Z ρ'' H'' x v
  cases g : h'.get j with
  | none => trivial
  | some o =>
    cases o with
    | lst xs =>
      obtain ⟨vs, h1, h2⟩ := R.obj g (e.at hj)
      have sq : SqL Z.K H' a vs := .inl (.inl h1)
      dsimp only
      cases g2 : xs[i]? with
      | none => exact ⟨vs, sq, h2.none g2⟩
      | some x =>
        obtain ⟨v, h3, h4⟩ := h2.get g2
        refine ⟨⟨vs, v, sq, h3⟩, fun w H'' y => ?_⟩
        obtain ⟨rfl, y⟩ := y
        have := y vs sq
        rw [h3] at this
        cases this
        exact ⟨ρ', .refl, R, h4⟩
    | _ => trivial
theorem rI_str {s : List Nat} : rI Z ρ H (it1 (s.map fun c => .str [c])) (Its ⟨s.toArray⟩) := by
  intro i ρ' h' H' e R
  show match some (s.map fun c => MV.str [c])[i]? with
    | none => True
    | some none => (Its ⟨s.toArray⟩).stop i H'
    | some (some x) => (Its ⟨s.toArray⟩).go i H' ∧ ∀ v H'', (Its ⟨s.toArray⟩).yld i H' v H'' → ∃ ρ'', Ext ρ' H' ρ'' H'' ∧ HR Z ρ'' h' H'' ∧ RV Z ρ'' H'' x v
  rw [List.getElem?_map]
  cases g : s[i]? with
  | none =>
    have := List.getElem?_eq_none_iff.mp g
    show s.toArray.size ≤ i
    simpa using this
  | some c =>
    refine ⟨?_, fun w H'' y => ?_⟩
    · have := (List.getElem?_eq_some_iff.mp g).1
      show i < s.toArray.size
      simpa using this
    · obtain ⟨rfl, c', hc, rfl⟩ := y
      have hc' : s.toArray[i]? = some c' := hc
      rw [List.getElem?_toArray, g] at hc'
      cases hc'
      exact ⟨ρ', .refl, R, .str [c]⟩
theorem rI_rng {lo : Int} {n : Nat} : rI Z ρ H (it1R lo n) (Itr lo n) := by
  intro i ρ' h' H' e R
  show match some (if i < n then some (MV.int (lo + i)) else none) with
    | none => True
    | some none => (Itr lo n).stop i H'
    | some (some x) => (Itr lo n).go i H' ∧ ∀ v H'', (Itr lo n).yld i H' v H'' → ∃ ρ'', Ext ρ' H' ρ'' H'' ∧ HR Z ρ'' h' H'' ∧ RV Z ρ'' H'' x v
  by_cases hi : i < n
  · rw [if_pos hi]
    refine ⟨hi, fun w H'' y => ?_⟩
    obtain ⟨rfl, rfl⟩ := y
    exact ⟨ρ', .refl, R, .int _⟩
  · rw [if_neg hi]
    exact Nat.le_of_not_lt hi
end
section
variable {X : Cx} {T : Nat → Addr} {E : XK} {e a tg : Expr} {es : List Expr} {ga : ME} {gr : MA} {pos p : Pos}
theorem PI.or {t t' : TI} (p : PI X tg e t) (q : PI X tg e t') : PI X tg e (fun σ H R => t σ H R ∨ t' σ H R) := ⟨fun pins s σ H R I h => h.elim (p.run pins s σ H R I) (q.run pins s σ H R I)⟩
theorem stepI {Z : Zt} {ρ : List Addr} {m : ML} {h : MH} {σ : L2.St} {H : Hp} {R : It → Hp → Prop} {Q' : V → Hp → Prop} {g : ME} {k : MV → MH → Out It1} (s : SR Z ρ m h σ H) (q : Post Z (rI Z) ρ H R E ((g m h).bind k))
    (n : ∀ ρ1 h1 H1 a v, SR Z ρ1 m h1 σ H1 → Ext ρ H ρ1 H1 → RV Z ρ1 H1 a v → Post Z (rI Z) ρ1 H1 R E (k a h1) → Q' v H1) : tE Z E g σ H Q' := stepE s q n
theorem ji_seq (ha : JE X T E e ga) : JI X T E tg e (gIter ga) := by
  refine PI.le (PI.or (pi_tup ha) (PI.or (pi_list ha) (pi_str ha))) fun σ H R ⟨ρ, m, h, s, q⟩ => ?_
  have key : ∀ c : MV → Bool, (∀ x h1, ga m h = .ok x h1 → c x = true) → ∀ Q' : V → Hp → Prop,
      (∀ ρ1 h1 H1 x v, c x = true → SR ⟨X.K, T⟩ ρ1 m h1 σ H1 → RV ⟨X.K, T⟩ ρ1 H1 x v → Post ⟨X.K, T⟩ (rI ⟨X.K, T⟩) ρ1 H1 R E (match mIter h1 x with
        | some it => Out.ok it h1
        | none => .bad) → Q' v H1) → tE ⟨X.K, T⟩ E ga σ H Q' := by
    intro c hc Q' n
    refine ⟨ρ, m, h, s, ?_⟩
    have q' : Post ⟨X.K, T⟩ (rI ⟨X.K, T⟩) ρ H R E ((ga m h).bind fun x h1 => match mIter h1 x with
        | some it => Out.ok it h1
        | none => .bad) := q
    generalize ga m h = o at q' hc ⊢
    cases o with
    | bad => exact q'
    | er x h1 => exact q'
    | ok x h1 => exact fun ρ1 H1 v e1 r1 rv => n ρ1 h1 H1 x v (hc x h1 rfl) (s.to e1 r1) rv (Post.ext (o := match mIter h1 x with
        | some it => Out.ok it h1
        | none => .bad) q' e1)
  let cT : MV → Bool := fun x => match x with
    | .tup _ => true
    | .ktp _ => true
    | _ => false
  let cS : MV → Bool := fun x => match x with
    | .str _ => true
    | _ => false
  by_cases z : ∀ x h1, ga m h = .ok x h1 → cT x = true
  · refine .inl (key cT z _ fun ρ1 h1 H1 x v c s1 rv q1 => ?_)
    cases rv with
    | tup h2 r2 => exact ⟨_, rfl, ⟨_, .inl (.inl h2)⟩, q1.ok s1.hr (rI_tup r2 fun ρ' H' e => e.sqT (.inl (.inl h2)))⟩
    | ktp h2 r2 => exact ⟨_, rfl, ⟨_, ktp_sq h2⟩, q1.ok s1.hr (rI_tup r2 fun ρ' H' e => ktp_sq h2)⟩
    | _ => cases c
  · refine .inr ?_
    by_cases z2 : ∀ x h1, ga m h = .ok x h1 → cS x = true
    · refine .inr (key cS z2 _ fun ρ1 h1 H1 x v c s1 rv q1 => ?_)
      cases rv with
      | str t => exact ⟨_, rfl, q1.ok s1.hr rI_str⟩
      | _ => cases c
    · refine .inl (key (fun x => !cT x && !cS x) (fun x h1 e => ?_) _ fun ρ1 h1 H1 x v c s1 rv q1 => ?_)
      · have n1 : cT x = false := by
          cases k : cT x with
          | false => rfl
          | true => exact absurd (fun x' h' e' => by rw [e] at e'; cases e'; exact k) z
        have n2 : cS x = false := by
          cases k : cS x with
          | false => rfl
          | true => exact absurd (fun x' h' e' => by rw [e] at e'; cases e'; exact k) z2
        rw [n1, n2]; rfl
      · cases rv with
        | fls h2 r2 => exact ⟨_, rfl, ⟨_, h2.sq⟩, q1.ok s1.hr (rI_lst r2 fun ρ' H' e => (e.fzL h2).sq)⟩
        | @ref j ad hj =>
          dsimp only [mIter] at q1
          cases g : h1.get j with
          | none => rw [g] at q1; exact q1.elim
          | some o =>
            rw [g] at q1
            cases o with
            | lst xs =>
              obtain ⟨vs, h3, h4⟩ := s1.hr.obj g hj
              exact ⟨ad, rfl, ⟨vs, .inl (.inl h3)⟩, Post.ok (R := rI ⟨X.K, T⟩) (a := it1L j) q1 s1.hr (rI_ref hj)⟩
            | _ => exact q1.elim
        | tup _ _ => cases c
        | ktp _ _ => cases c
        | str _ => cases c
        | _ => exact q1.elim
def gRng1 (a : ME) : MI1 := fun m h => (a m h).bind fun x h1 => match x with
  | .int n => if -1000000000 ≤ n ∧ n ≤ 1000000000 then .ok (it1R 0 n.toNat) h1 else .bad
  | _ => .bad
def gRng2 (a b : ME) : MI1 := fun m h => (a m h).bind fun x h1 => (b m h1).bind fun y h2 => match x, y with
  | .int i, .int n => if (-1000000000 ≤ i ∧ i ≤ 1000000000) ∧ -1000000000 ≤ n ∧ n ≤ 1000000000 then .ok (it1R i (n - i).toNat) h2 else .bad
  | _, _ => .bad
theorem ji_range1 (hg : Gl X "range") (hm : X.mg "range" = none) (ha : JE X T E a ga) (hs : starEach [a] X.env = [(false, eval a X.env)] := by rfl) : JI X T E tg (.Call (.Name "range" p) [a] [] pos) (gRng1 ga) :=
  PI.le (pi_range1 hg hm (pa_cons ha pa_nil hs) hs) fun σ H R ⟨ρ, m, h, s, q⟩ => stepI s q fun ρ1 h1 H1 x v s1 e1 r1 q1 => by
    cases r1 with
    | int n =>
      have q' : Post ⟨X.K, T⟩ (rI ⟨X.K, T⟩) ρ1 H1 R E (if -1000000000 ≤ n ∧ n ≤ 1000000000 then .ok (it1R 0 n.toNat) h1 else .bad) := q1
      by_cases z : -1000000000 ≤ n ∧ n ≤ 1000000000
      · rw [if_pos z] at q'
        exact ⟨n, rfl, by omega, by omega, q'.ok s1.hr rI_rng⟩
      · rw [if_neg z] at q'; exact q'.elim
    | _ => exact q1.elim
theorem ji_range2 {b : Expr} {gb : ME} (hg : Gl X "range") (hm : X.mg "range" = none) (ha : JE X T E a ga) (hb : JE X T E b gb) (hs : starEach [a, b] X.env = [(false, eval a X.env), (false, eval b X.env)] := by rfl) (hs2 : starEach [b] X.env = [(false, eval b X.env)] := by rfl) :
    JI X T E tg (.Call (.Name "range" p) [a, b] [] pos) (gRng2 ga gb) :=
  PI.le (pi_range2 hg hm (pa_cons ha (pa_cons hb pa_nil hs2) (by rw [hs, hs2])) hs hs2) fun σ H R ⟨ρ, m, h, s, q⟩ => stepI s q fun ρ1 h1 H1 x v s1 e1 r1 q1 => stepI s1 q1 fun ρ2 h2 H2 y w s2 e2 r2 q2 => by
    cases r1 with
    | int i =>
      cases r2 with
      | int n =>
        have q' : Post ⟨X.K, T⟩ (rI ⟨X.K, T⟩) ρ2 H2 R E (if (-1000000000 ≤ i ∧ i ≤ 1000000000) ∧ -1000000000 ≤ n ∧ n ≤ 1000000000 then .ok (it1R i (n - i).toNat) h2 else .bad) := q2
        by_cases z : (-1000000000 ≤ i ∧ i ≤ 1000000000) ∧ -1000000000 ≤ n ∧ n ≤ 1000000000
        · rw [if_pos z] at q'
          exact ⟨i, n, rfl, ⟨by omega, by omega, by omega, by omega⟩, q'.ok s2.hr rI_rng⟩
        · rw [if_neg z] at q'; exact q'.elim
      | _ => exact q2.elim
    | _ => exact q2.elim
end
end MI
set_option Elab.async false
set_option linter.all false
set_option maxRecDepth 100000
set_option maxHeartbeats 4000000
namespace MI
open PySem PySem.Spec PyProof.Rows L2 JB
def setMany : ML → List Nat → List MV → ML
  | m, i :: is, x :: xs => setMany (m.set i (some x)) is xs
  | m, _, _ => m
def setManyV : L2.St → List Nat → List V → L2.St
  | σ, i :: is, x :: xs => setManyV (σ.set i (some x)) is xs
  | σ, _, _ => σ
def lNames : List Nat → TGs
  | [] => L2.gNil
  | i :: is => L2.gCons (L2.gName i) (lNames is)
theorem names_run : ∀ (is : List Nat) {vs : List V} {σ : L2.St} {H : Hp} {Q : L2.St → Hp → Prop}, vs.length = is.length → Q (setManyV σ is vs) H → lNames is vs σ H Q
  | [], [], _, _, _, _, q => ⟨rfl, q⟩
  | i :: is, v :: vs, σ, H, Q, hl, q => ⟨v, vs, rfl, names_run is (by simpa using hl) q⟩
  | [], _ :: _, _, _, _, hl, _ => by simp at hl
  | _ :: _, [], _, _, _, hl, _ => by simp at hl
theorem SR.many {Z : Zt} {ρ : List Addr} {h : MH} {H : Hp} : ∀ {is : List Nat} {m : ML} {σ : L2.St} {xs : List MV} {vs : List V}, SR Z ρ m h σ H → RVs Z ρ H xs vs → SR Z ρ (setMany m is xs) h (setManyV σ is vs) H
  | [], _, _, _, _, s, .nil => s
  | [], _, _, _, _, s, .cons _ _ => s
  | _ :: _, _, _, _, _, s, .nil => s
  | i :: is, _, _, _, _, s, .cons a r => SR.many (is := is) (s.set i a) r
def tgTup (is : List Nat) : MG := fun x m h => match seqOf h x with
  | some xs => if xs.length = is.length then .nx (setMany m is xs) h else .bad
  | none => .bad
section
variable {X : Cx} {T : Nat → Addr} {E : XK} {es : List Expr} {pos : Pos}
theorem PG.or {e : Expr} {t t' : TG} (p : PG X e t) (q : PG X e t') : PG X e (fun v σ H Q => t v σ H Q ∨ t' v σ H Q) := ⟨fun pins s σ H v u Q I r h => h.elim (p.run pins s σ H v u Q I r) (q.run pins s σ H v u Q I r)⟩
theorem pgs_names : PGs X [] (lNames []) := pgs_nil
theorem pgs_more {e : Expr} {i : Nat} {is : List Nat} (h1 : PG X e (L2.gName i)) (h2 : PGs X es (lNames is)) (hs : (assignEach (e :: es) X.env).map (·.2) = assign e X.env :: (assignEach es X.env).map (·.2) := by rfl) : PGs X (e :: es) (lNames (i :: is)) := pgs_cons h1 h2 hs
theorem jg_tup {k : Nat} {is : List Nat} (hc : X.calm = true) (h : PGs X es (lNames is)) (hn : (assignEach es X.env).length = is.length := by rfl) (hst : (assignEach es X.env).findIdx? (·.1) = none := by rfl) : JG X T E (.Tuple es k pos) (tgTup is) :=
  PG.le (PG.or (pg_tup hc h hn hst) (pg_unl hc h hn hst)) fun v σ H Q ⟨ρ, m, h, x, s, r, q⟩ => by
    unfold tgTup at q
    cases g : seqOf h x with
    | none => rw [g] at q; exact q.elim
    | some xs =>
      rw [g] at q
      dsimp only at q
      by_cases z : xs.length = is.length
      · rw [if_pos z] at q
        obtain ⟨a, vs, rfl, r2, hq⟩ := seqOf_or s.hr r g
        have hl : vs.length = is.length := by rw [← r2.length]; exact z
        have fin := names_run is hl (q ρ H _ .refl (s.many r2))
        rcases hq with hq | hq
        · exact .inr ⟨a, vs, rfl, hq, hl, fin⟩
        · exact .inl ⟨a, vs, rfl, hq, hl, fin⟩
      · rw [if_neg z] at q; exact q.elim
end
def mwipe (m : ML) : List Nat → ML
  | [] => m
  | v :: vs => (mwipe m vs).set v none
theorem SR.wipe {Z : Zt} {ρ : List Addr} {m : ML} {h : MH} {σ : L2.St} {H : Hp} (s : SR Z ρ m h σ H) : ∀ vs : List Nat, SR Z ρ (mwipe m vs) h (L2.wipe σ vs) H
  | [] => s
  | v :: vs => by
    have t := SR.wipe s vs
    refine ⟨t.hr, by show ((mwipe m vs).set v none).length = ((L2.wipe σ vs).set v none).length; simp [t.len], fun i x e => ?_⟩
    have e' : ((mwipe m vs).set v none)[i]? = some (some x) := e
    show ∃ w, ((L2.wipe σ vs).set v none)[i]? = some (some w) ∧ _
    by_cases k : v = i
    · subst k
      rw [List.getElem?_set] at e'
      rw [if_pos rfl] at e'
      split at e' <;> cases e'
    · rw [List.getElem?_set_ne k] at e' ⊢
      exact t.slot i x e'
theorem wipe_at {σ : L2.St} {j : Nat} : ∀ {vs : List Nat}, (L2.wipe σ vs)[j]? = if j ∈ vs ∧ j < σ.length then some none else σ[j]?
  | [] => by simp [L2.wipe]
  | v :: vs => by
    show ((L2.wipe σ vs).set v none)[j]? = _
    rw [List.getElem?_set, wipe_at (vs := vs), wipe_length]
    by_cases k : v = j
    · subst k
      rw [if_pos rfl]
      by_cases l : v < σ.length
      · simp [l]
      · simp [l]
    · rw [if_neg k]
      have : (j ∈ v :: vs) ↔ j ∈ vs := by simp [Ne.symm k]
      simp [this]
theorem wipe_set {σ : L2.St} {i : Nat} {o : Option V} {vs : List Nat} (hi : i ∈ vs) : L2.wipe (σ.set i o) vs = L2.wipe σ vs := by
  apply List.ext_getElem?
  intro j
  rw [wipe_at, wipe_at, List.length_set]
  by_cases e : j = i
  · subst e
    by_cases l : j < σ.length
    · rw [if_pos ⟨hi, l⟩, if_pos ⟨hi, l⟩]
    · rw [if_neg (fun z => l z.2), if_neg (fun z => l z.2), List.getElem?_eq_none (by simp; omega), List.getElem?_eq_none (by omega)]
  · rw [List.getElem?_set_ne (Ne.symm e)]
theorem wipe_wipe {σ : L2.St} {vs : List Nat} : L2.wipe (L2.wipe σ vs) vs = L2.wipe σ vs := by
  apply List.ext_getElem?
  intro j
  rw [wipe_at, wipe_at, wipe_length]
  split <;> rfl
theorem wipe_many {vs : List Nat} : ∀ {is : List Nat} {σ : L2.St} {xs : List V}, (∀ i ∈ is, i ∈ vs) → L2.wipe (setManyV σ is xs) vs = L2.wipe σ vs
  | [], σ, [], _ => rfl
  | [], σ, _ :: _, _ => rfl
  | _ :: _, σ, [], _ => rfl
  | i :: is, σ, x :: xs, h => by
    show L2.wipe (setManyV (σ.set i (some x)) is xs) vs = _
    rw [wipe_many fun j hj => h j (List.mem_cons_of_mem _ hj), wipe_set (h i List.mem_cons_self)]
inductive CT where
  | one (i : Nat) | row (is : List Nat)
def CT.set : CT → MG
  | .one i => tgName i
  | .row is => tgTup is
def CT.slots : CT → List Nat
  | .one i => [i]
  | .row is => is
def tCT (K : PySem.W.Frag) : CT → TG
  | .one i => L2.gName i
  | .row is => fun v σ H Q => L2.gTup K is.length (lNames is) v σ H Q ∨ gUnl K is.length (lNames is) v σ H Q
theorem ct_ok {Z : Zt} {ρ : List Addr} {m : ML} {h : MH} {σ : L2.St} {H : Hp} {c : CT} {x : MV} {v : V} {m' : ML} {h' : MH} {vs : List Nat} {Q : L2.St → Hp → Prop} (s : SR Z ρ m h σ H) (r : RV Z ρ H x v) (e : c.set x m h = .nx m' h')
    (hv : ∀ i ∈ c.slots, i ∈ vs) (k : ∀ σ', SR Z ρ m' h' σ' H → L2.wipe σ' vs = L2.wipe σ vs → Q σ' H) : tCT Z.K c v σ H Q := by
  cases c with
  | one i =>
    cases e
    exact k _ (s.set i r) (wipe_set (hv i (by simp [CT.slots])))
  | row is =>
    have e' : tgTup is x m h = .nx m' h' := e
    unfold tgTup at e'
    cases g : seqOf h x with
    | none => rw [g] at e'; cases e'
    | some xs =>
      rw [g] at e'
      dsimp only at e'
      by_cases z : xs.length = is.length
      · rw [if_pos z] at e'
        cases e'
        obtain ⟨a, ws, rfl, r2, hq⟩ := seqOf_or s.hr r g
        have hl : ws.length = is.length := by rw [← r2.length]; exact z
        have fin := names_run is hl (k _ (s.many r2) (wipe_many hv))
        rcases hq with hq | hq
        · exact .inr ⟨a, ws, rfl, hq, hl, fin⟩
        · exact .inl ⟨a, ws, rfl, hq, hl, fin⟩
      · rw [if_neg z] at e'; cases e'
def gLcN (it : It1) (c : CT) (t : MT) (e : ME) (D : Nat) (mw : ML) : Nat → Nat → MH → Out MV
  | 0, _, _ => .bad
  | n + 1, i, h => match it.at_ i h with
    | none => .bad
    | some none => .ok (.ref D) h
    | some (some x) => match c.set x mw h with
      | .nx m1 h1 => match t m1 h1 with
        | .ok true h2 => match e m1 h2 with
          | .ok y h3 => match h3.get D with
            | some (.lst acc) => if acc.length < 1000000 then gLcN it c t e D mw n (i + 1) (h3.set D (.lst (acc ++ [y]))) else .bad
            | _ => .bad
          | _ => .bad
        | .ok false h2 => gLcN it c t e D mw n (i + 1) h2
        | _ => .bad
      | _ => .bad
def gLc (i : MI1) (c : CT) (t : MT) (e : ME) (own : List Nat) : ME := fun m h => (i m h).bind fun it h1 => gLcN it c t e h1.n (mwipe m own) (it.size h1 + 1) 0 (h1.push (.lst []))
def gYes : MT := fun _ h => .ok true h
abbrev E00 : XK := fun _ _ _ => False
section
variable {X : Cx} {T : Nat → Addr} {E : XK} {elt tg iter : Expr} {ifs : List Expr} {scope : Scope} {own : List (Str × Nat)} {pos : Pos} {gi : MI1} {c : CT} {gt : MT} {ge : ME}
theorem lc_le {E : XK} {gi : MI1} {c : CT} {gt : MT} {ge : ME} {ow : List Nat} (hv : ∀ i ∈ c.slots, i ∈ ow) : ∀ σ H Q, tE ⟨X.K, T⟩ E (gLc gi c gt ge ow) σ H Q → tLc (tI ⟨X.K, T⟩ E gi) (tCT X.K c) (tT ⟨X.K, T⟩ E00 gt) (tE ⟨X.K, T⟩ E00 ge) ow σ H Q := by
  intro σ H Q ⟨ρ, m, h, s, q⟩
  refine ⟨ρ, m, h, s, ?_⟩
  refine (Post.bind (R := rI ⟨X.K, T⟩) q).mono fun J H1 ⟨ρ1, h1, it, e1, r1, w1, q1⟩ D hD => ?_
  have s1 := s.to e1 r1
  have x0 : Ext ρ1 H1 (ρ1 ++ [D]) (upd H1 D (.lst [])) := Ext.push hD
  have s0 : SR ⟨X.K, T⟩ (ρ1 ++ [D]) m (h1.push (.lst [])) σ (upd H1 D (.lst [])) := s1.to x0 (r1.push hD ⟨[], upd_same, .nil⟩)
  have a0 : (ρ1 ++ [D])[h1.n]? = some D := by rw [← r1.len]; simp
  generalize hD' : h1.n = d at q1 a0
  refine ⟨fun i n H2 => ∃ ρ2 h2, Ext (ρ1 ++ [D]) (upd H1 D (.lst [])) ρ2 H2 ∧ SR ⟨X.K, T⟩ ρ2 m h2 σ H2 ∧ Post ⟨X.K, T⟩ (rV ⟨X.K, T⟩) ρ2 H2 Q E (gLcN it c gt ge d (mwipe m ow) n i h2),
    ⟨_, ρ1 ++ [D], _, .refl, s0, q1.ext x0⟩, fun i n H2 ⟨ρ2, h2, e2, s2, q2⟩ => ?_⟩
  cases n with
  | zero => exact q2.elim
  | succ n =>
    have w2 := w1 i ρ2 h2 H2 (x0.trans e2) s2.hr
    unfold gLcN at q2
    cases k : it.at_ i h2 with
    | none => rw [k] at q2; exact q2.elim
    | some o =>
      rw [k] at q2 w2
      cases o with
      | none => exact .inl ⟨w2, q2.ok s2.hr (.ref (e2.at a0))⟩
      | some x =>
        refine .inr ⟨w2.1, fun H3 => ∃ ρ3 h3, Ext (ρ1 ++ [D]) (upd H1 D (.lst [])) ρ3 H3 ∧ SR ⟨X.K, T⟩ ρ3 m h3 σ H3 ∧ Post ⟨X.K, T⟩ (rV ⟨X.K, T⟩) ρ3 H3 Q E (gLcN it c gt ge d (mwipe m ow) n (i + 1) h3),
          fun H3 z => ⟨n, Nat.lt_succ_self _, z⟩, fun v H3 y => ?_⟩
        obtain ⟨ρ3, e3, r3, rv3⟩ := w2.2 v H3 y
        dsimp only at q2
        have s3 := s2.to e3 r3
        have sw := s3.wipe ow
        cases g : c.set x (mwipe m ow) h2 with
        | nx m4 h4 =>
          rw [g] at q2
          dsimp only at q2
          refine ct_ok sw rv3 g hv fun σ4 s4 hw => ⟨by rw [hw, wipe_wipe], ?_⟩
          refine ⟨ρ3, m4, h4, s4, ?_⟩
          have q3 := q2.ext e3
          generalize gt m4 h4 = ot at q3 ⊢
          cases ot with
          | bad => exact q3.elim
          | er _ _ => exact q3.elim
          | ok b h5 =>
            intro ρ5 H5 b' e5 r5 hb
            have hb' : b = b' := hb
            subst hb'
            have s5 := s4.to e5 r5
            cases b with
            | false =>
              rw [if_neg Bool.false_ne_true]
              exact ⟨ρ5, h5, (e2.trans e3).trans e5, (s3.to e5 r5), q3.ext e5⟩
            | true =>
              rw [if_pos rfl]
              dsimp only at q3
              refine ⟨ρ5, m4, h5, s5, ?_⟩
              have q4 := q3.ext e5
              generalize ge m4 h5 = oe at q4 ⊢
              cases oe with
              | bad => exact q4.elim
              | er _ _ => exact q4.elim
              | ok y6 h6 =>
                intro ρ6 H6 v6 e6 r6 rv6
                dsimp only at q4
                have q5 := q4.ext e6
                have a6 := e6.at (e5.at (e3.at (e2.at a0)))
                cases gd : h6.get d with
                | none => rw [gd] at q5; exact q5.elim
                | some od =>
                  rw [gd] at q5
                  cases od with
                  | lst acc =>
                    dsimp only at q5
                    obtain ⟨ws, h7, h8⟩ := r6.obj gd a6
                    by_cases z : acc.length < 1000000
                    · rw [if_pos z] at q5
                      have r8 : RVs ⟨X.K, T⟩ ρ6 H6 (acc ++ [y6]) (ws ++ [v6]) := RVs.app (.cons rv6 .nil) h8
                      have x7 : Ext ρ6 H6 ρ6 (upd H6 D (.lst (ws ++ [v6]))) := r6.grow gd a6 _
                      have r7 : HR ⟨X.K, T⟩ ρ6 (h6.set d (.lst (acc ++ [y6]))) (upd H6 D (.lst (ws ++ [v6]))) := r6.set gd a6 ⟨_, upd_same, r8.ext x7⟩
                      have s7 := ((s3.to e5 r5).to e6 r6).to x7 r7
                      have e7 := (((e2.trans e3).trans e5).trans e6).trans x7
                      have q7 := q5.ext x7
                      refine ⟨ws, h7, by rw [← h8.length, sizeLine_eq]; omega, ?_⟩
                      exact ⟨ρ6, _, e7, s7, q7⟩
                    · rw [if_neg z] at q5; exact q5.elim
                  | _ => exact q5.elim
        | _ => rw [g] at q2; exact q2.elim
theorem je_lc (hc : X.calm = true) (hN : X.N.Nodup) (hi : JI X T E tg iter gi) (ok : BlkOk X.N X.env.scope scope own)
    (hg : ∀ (s : Shared) (H : Hp) (C : Addr) (cl : List (Str × Addr)) (fp : List Addr), PG (X.blk s H scope (compEnvC scope cl C X.env) fp) tg (tCT X.K c))
    (ht : ∀ (s : Shared) (H : Hp) (C : Addr) (cl : List (Str × Addr)) (fp : List Addr), PTs (X.blk s H scope (compEnvC scope cl C X.env) fp) ifs (tT ⟨X.K, T⟩ E00 gt))
    (he : ∀ (s : Shared) (H : Hp) (C : Addr) (cl : List (Str × Addr)) (fp : List Addr), JE (X.blk s H scope (compEnvC scope cl C X.env) fp) T E00 elt ge)
    (hv : ∀ i ∈ c.slots, i ∈ own.map (·.2)) (hs : ∀ x, foldedSetIterable iter X.env x = pure x := by intro _; rfl) :
    JE X T E (.ListComp elt [⟨tg, iter, ifs, 0⟩] scope pos) (gLc gi c gt ge (own.map (·.2))) := by
  exact PE.le (pe_lc (te := tE ⟨X.K, T⟩ E00 ge) hc hN hi ok hg ht he hs) (lc_le hv)
theorem js_setLc {i : Nat} {y : Str} {py spos : Pos} (hy : X.N[i]? = some y) (hyl : X.env.scope.names.lookup y = some .local) (hc : X.calm = true) (hN : X.N.Nodup)
    (hsw : swapsWith (.ListComp elt [⟨tg, iter, ifs, 0⟩] scope pos) (some (.Name y py)) spos.line X.env = pure true) (hi : JI X T E tg iter gi) (ok : BlkOk X.N X.env.scope scope own)
    (hg : ∀ (s : Shared) (H : Hp) (C : Addr) (cl : List (Str × Addr)) (fp : List Addr), PG (X.blk s H scope (compEnvC scope cl C X.env) fp) tg (tCT X.K c))
    (ht : ∀ (s : Shared) (H : Hp) (C : Addr) (cl : List (Str × Addr)) (fp : List Addr), PTs (X.blk s H scope (compEnvC scope cl C X.env) fp) ifs (tT ⟨X.K, T⟩ E00 gt))
    (he : ∀ (s : Shared) (H : Hp) (C : Addr) (cl : List (Str × Addr)) (fp : List Addr), JE (X.blk s H scope (compEnvC scope cl C X.env) fp) T E00 elt ge)
    (hv : ∀ i ∈ c.slots, i ∈ own.map (·.2)) (hs : ∀ x, foldedSetIterable iter X.env x = pure x := by intro _; rfl) :
    JS X T E (.Assign [.Name y py] (.ListComp elt [⟨tg, iter, ifs, 0⟩] scope pos) spos) (gAsg (gLc gi c gt ge (own.map (·.2))) (tgName i)) :=
  PS.le (ps_setLc (te := tE ⟨X.K, T⟩ E00 ge) hc hN hy hyl hsw hi ok hg ht he hs) fun D σ H ⟨ρ, m, h, s, q⟩ => lc_le hv _ _ _ (sE s q fun ρ1 h1 H1 x v s1 e1 r1 q1 => q1 ρ1 H1 _ .refl (s1.set i r1))
end
end MI
set_option Elab.async false
set_option linter.all false
set_option maxRecDepth 100000
set_option maxHeartbeats 4000000
namespace MI
open PySem PySem.Spec PyProof.Rows L2 JB
def CallM (Z : Zt) (E : XK) (f : MF) (r : List V → Hp → VK → Prop) : Prop := ∀ ρ h H xs vs Q, HR Z ρ h H → RVs Z ρ H xs vs → Post Z (rV Z) ρ H Q E (f xs h) → r vs H Q
def gCB (f : MF) (a : MA) : ME := fun m h => (a m h).bind fun xs h1 => f xs h1
def f1 (f : MV → MH → Out MV) : MF := fun xs h => match xs with
  | [x] => f x h
  | _ => .bad
theorem CallM.one {Z : Zt} {E : XK} {f : MV → MH → Out MV} {r : List V → Hp → VK → Prop} (k : ∀ ρ h H x v Q, HR Z ρ h H → RV Z ρ H x v → Post Z (rV Z) ρ H Q E (f x h) → r [v] H Q) : CallM Z E (f1 f) r := fun ρ h H xs vs Q R r q => by
  cases r with
  | nil => exact q.elim
  | cons a r =>
    cases r with
    | nil => exact k ρ h H _ _ Q R a q
    | cons _ _ => exact q.elim
section
variable {X : Cx} {T : Nat → Addr} {E : XK} {o e : Expr} {es : List Expr} {go : ME} {ga : MA} {f : MF} {r : List V → Hp → VK → Prop} {x : Str} {id Ty : String} {p pos apos : Pos} {name : Str}
theorem je_callB (hc : CallR X (.builtin id) r) (k : CallM ⟨X.K, T⟩ E f r) (hg : Gl X x) (hm : X.mg x = none) (hv : bootBuiltins x = some (.builtin id)) (ha : JA X T E (e :: es) ga) (hn : x ≠ "__name__" := by decide) (hdb : (x == ("__debug__" : Str)) = false := by decide)
    (he : starEach (e :: es) X.env = (false, eval e X.env) :: starEach es X.env := by rfl) (hpl : (backTo pos (starEach es X.env)).any (·.1) = false := by rfl) : JE X T E (.Call (.Name x p) (e :: es) [] pos) (gCB f ga) :=
  PE.le (pe_callB hc hg hm hv ha hn hdb he hpl) fun σ H Q ⟨ρ, m, h, s, q⟩ => stepA s q fun ρ1 h1 H1 xs vs s1 e1 r1 q1 => k ρ1 h1 H1 xs vs Q s1.hr r1 q1
theorem je_callT (hc : CallR X (.type Ty) r) (k : CallM ⟨X.K, T⟩ E f r) (hg : Gl X x) (hm : X.mg x = none) (hv : bootBuiltins x = some (.type Ty)) (ha : JA X T E (e :: es) ga) (hn : x ≠ "__name__" := by decide) (hdb : (x == ("__debug__" : Str)) = false := by decide)
    (he : starEach (e :: es) X.env = (false, eval e X.env) :: starEach es X.env := by rfl) (hpl : (backTo pos (starEach es X.env)).any (·.1) = false := by rfl) : JE X T E (.Call (.Name x p) (e :: es) [] pos) (gCB f ga) :=
  PE.le (pe_callTy hc hg hm hv ha hn hdb he hpl) fun σ H Q ⟨ρ, m, h, s, q⟩ => stepA s q fun ρ1 h1 H1 xs vs s1 e1 r1 q1 => k ρ1 h1 H1 xs vs Q s1.hr r1 q1
def MethM (Z : Zt) (E : XK) (f : MV → MF) (r : V → List V → Hp → VK → Prop) : Prop := ∀ ρ h H x v xs vs Q, HR Z ρ h H → RV Z ρ H x v → RVs Z ρ H xs vs → Post Z (rV Z) ρ H Q E (f x xs h) → r v vs H Q
def isTy (h : MH) (Ty : String) : MV → Bool
  | .str _ => Ty == "str"
  | .int _ => Ty == "int"
  | .fls _ => Ty == "list"
  | .ref i => match h.get i with
    | some (.lst _) => Ty == "list"
    | some (.dic _) => Ty == "dict"
    | some (.dit _) => Ty == "dict"
    | _ => false
  | _ => false
theorem isTy_ok {Z : Zt} {ρ : List Addr} {h : MH} {H : Hp} {y : MV} {v : V} (R : HR Z ρ h H) (r : RV Z ρ H y v) (e : isTy h Ty y = true) : tyV Z.K Ty v H := by
  cases r with
  | str s => exact beq_iff_eq.mp e
  | int i => exact beq_iff_eq.mp e
  | fls h1 r1 => exact .inl ⟨beq_iff_eq.mp e, _, h1.sq⟩
  | @ref i a hi =>
    dsimp only [isTy] at e
    cases g : h.get i with
    | none => rw [g] at e; cases e
    | some ob =>
      rw [g] at e
      cases ob with
      | lst xs =>
        obtain ⟨vs, h1, _⟩ := R.obj g hi
        exact .inl ⟨beq_iff_eq.mp e, vs, .inl (.inl h1)⟩
      | dic kvs =>
        obtain ⟨vs, h1, _⟩ := R.obj g hi
        exact .inr (.inr (.inl ⟨beq_iff_eq.mp e, .inl ⟨vs, h1⟩⟩))
      | dit kvs =>
        obtain ⟨vs, h1, _⟩ := R.obj g hi
        exact .inr (.inr (.inl ⟨beq_iff_eq.mp e, .inr ⟨vs, h1⟩⟩))
      | _ => cases e
  | _ => cases e
def gBM (Ty : String) (f : MV → MF) (o : ME) (a : MA) : ME := fun m h => (o m h).bind fun x h1 => if isTy h1 Ty x = true then (a m h1).bind fun xs h2 => f x xs h2 else .bad
theorem je_bm {fm : MV → MF} {rm : V → List V → Hp → VK → Prop} (pa : PlainAttrs Ty) (slot : Slot Ty name id) (hty : typeOf (.builtin id) = pure (.type "method_descriptor")) (hm : MtR X id rm) (k : MethM ⟨X.K, T⟩ E fm rm) (ho : JE X T E o go) (ha : JA X T E (e :: es) ga)
    (hbase : attributeBase o name X.env (eval o X.env) = eval o X.env := by rfl)
    (hfew : ((backTo pos (starEach (e :: es) X.env)).all (fun x => !x.1) && (backToKw pos (keywordEach [] X.env)).all (fun x => x.1.isSome)
      && decide ((e :: es).length + ([] : List Keyword).length + (if ([] : List Keyword).isEmpty then 0 else 1) < 30)) = true := by rfl)
    (hline : (apos.endLine == pos.line) = true := by rfl) (hs : starEach (e :: es) X.env = (false, eval e X.env) :: starEach es X.env := by rfl) (hplain : (backTo pos (starEach es X.env)).any (·.1) = false := by rfl) :
    JE X T E (.Call (.Attribute o name apos) (e :: es) [] pos) (gBM Ty fm go ga) :=
  PE.le (pe_bm pa slot hty hm ho ha hbase hfew hline hs hplain) fun σ H Q ⟨ρ, m, h, s, q⟩ => stepE s q fun ρ1 h1 H1 y v s1 e1 r1 q1 => by
    by_cases z : isTy h1 Ty y = true
    · rw [if_pos z] at q1
      exact ⟨isTy_ok s1.hr r1 z, stepA s1 q1 fun ρ2 h2 H2 xs vs s2 e2 r2 q2 => k ρ2 h2 H2 y v xs vs Q s2.hr (r1.ext e2) r2 q2⟩
    · rw [if_neg z] at q1; exact q1.elim
theorem je_bm0 {fm : MV → MF} {rm : V → List V → Hp → VK → Prop} (pa : PlainAttrs Ty) (slot : Slot Ty name id) (hty : typeOf (.builtin id) = pure (.type "method_descriptor")) (hm : MtR X id rm) (k : MethM ⟨X.K, T⟩ E fm rm) (ho : JE X T E o go)
    (hbase : attributeBase o name X.env (eval o X.env) = eval o X.env := by rfl) (hline : (apos.endLine == pos.line) = true := by rfl) :
    JE X T E (.Call (.Attribute o name apos) [] [] pos) (gBM Ty fm go gNil) :=
  PE.le (pe_bm0 pa slot hty hm ho hbase hline) fun σ H Q ⟨ρ, m, h, s, q⟩ => stepE s q fun ρ1 h1 H1 y v s1 e1 r1 q1 => by
    by_cases z : isTy h1 Ty y = true
    · rw [if_pos z] at q1
      exact ⟨isTy_ok s1.hr r1 z, k ρ1 h1 H1 y v [] [] Q s1.hr r1 .nil q1⟩
    · rw [if_neg z] at q1; exact q1.elim
end
def mLenV (x : MV) (h : MH) : Out MV := match mLen h x with
  | some n => .ok (.int n) h
  | none => .bad
def mList (x : MV) (h : MH) : Out MV := match seqOf h x with
  | some xs => .ok (.ref h.n) (h.push (.lst xs))
  | none => .bad
def mTuple (x : MV) (h : MH) : Out MV := match x with
  | .tup xs => .ok (.tup xs) h
  | .ktp xs => .ok (.ktp xs) h
  | x => match seqOf h x with
    | some xs => .ok (.tup xs) h
    | none => .bad
def mAbs (x : MV) (h : MH) : Out MV := match x with
  | .int i => .ok (.int (if i < 0 then -i else i)) h
  | _ => .bad
def lApp (x : MV) (xs : List MV) (h : MH) : Out MV := match x, xs with
  | .ref i, [y] => match h.get i with
    | some (.lst l) => if l.length < 1000000 then .ok .non (h.set i (.lst (l ++ [y]))) else .bad
    | _ => .bad
  | _, _ => .bad
def lExt (x : MV) (xs : List MV) (h : MH) : Out MV := match x, xs with
  | .ref i, [.ref j] => match h.get i, h.get j with
    | some (.lst l), some (.lst r) => if l.length + r.length < 1000000 then .ok .non (h.set i (.lst (l ++ r))) else .bad
    | _, _ => .bad
  | _, _ => .bad
def lPop (x : MV) (xs : List MV) (h : MH) : Out MV := match x, xs with
  | .ref i, [] => match h.get i with
    | some (.lst l) => match l[l.length - 1]? with
      | some y => .ok y (h.set i (.lst l.dropLast))
      | none => .bad
    | _ => .bad
  | _, _ => .bad
section
variable {X : Cx} {T : Nat → Addr} {E : XK}
theorem RVs.dropLast {Z : Zt} {ρ : List Addr} {H : Hp} : ∀ {xs : List MV} {vs : List V}, RVs Z ρ H xs vs → RVs Z ρ H xs.dropLast vs.dropLast
  | _, _, .nil => .nil
  | _, _, .cons a .nil => .nil
  | _, _, .cons a (.cons b r) => .cons a (RVs.dropLast (.cons b r))
theorem mm_app {Z : Zt} : MethM Z E lApp rAppend := fun ρ h H x v xs vs Q R r rs q => by
  cases r with
  | @ref i a hi =>
    cases rs with
    | nil => exact q.elim
    | @cons y w xs vs ry rs =>
      cases rs with
      | cons _ _ => exact q.elim
      | nil =>
        have q' : Post Z (rV Z) ρ H Q E (match h.get i with
          | some (.lst l) => if l.length < 1000000 then .ok .non (h.set i (.lst (l ++ [y]))) else .bad
          | _ => .bad) := q
        cases g : h.get i with
        | none => rw [g] at q'; exact q'.elim
        | some ob =>
          rw [g] at q'
          cases ob with
          | lst l =>
            dsimp only at q'
            obtain ⟨ws, h1, h2⟩ := R.obj g hi
            by_cases z : l.length < 1000000
            · rw [if_pos z] at q'
              have x1 : Ext ρ H ρ (upd H a (.lst (ws ++ [w]))) := R.grow g hi _
              have r8 : RVs Z ρ H (l ++ [y]) (ws ++ [w]) := RVs.app (.cons ry .nil) h2
              exact ⟨a, ws, w, rfl, rfl, h1, by rw [← h2.length, sizeLine_eq]; omega, q' ρ _ .non x1 (R.set g hi ⟨_, upd_same, r8.ext x1⟩) .non⟩
            · rw [if_neg z] at q'; exact q'.elim
          | _ => exact q'.elim
  | _ => exact q.elim
theorem mm_pop {Z : Zt} : MethM Z E lPop rPop := fun ρ h H x v xs vs Q R r rs q => by
  cases r with
  | @ref i a hi =>
    cases rs with
    | cons _ _ => exact q.elim
    | nil =>
      have q' : Post Z (rV Z) ρ H Q E (match h.get i with
        | some (.lst l) => match l[l.length - 1]? with
          | some y => .ok y (h.set i (.lst l.dropLast))
          | none => .bad
        | _ => .bad) := q
      cases g : h.get i with
      | none => rw [g] at q'; exact q'.elim
      | some ob =>
        rw [g] at q'
        cases ob with
        | lst l =>
          dsimp only at q'
          obtain ⟨ws, h1, h2⟩ := R.obj g hi
          cases k : l[l.length - 1]? with
          | none => rw [k] at q'; exact q'.elim
          | some y =>
            rw [k] at q'
            obtain ⟨w, h3, h4⟩ := h2.get k
            have x1 : Ext ρ H ρ (upd H a (.lst ws.dropLast)) := R.grow g hi _
            exact ⟨a, ws, w, rfl, rfl, h1, by rw [← h2.length]; exact h3, q' ρ _ w x1 (R.set g hi ⟨_, upd_same, (h2.dropLast).ext x1⟩) (h4.ext x1)⟩
        | _ => exact q'.elim
  | _ => exact q.elim
theorem mm_ext {Z : Zt} : MethM Z E lExt rExtend := fun ρ h H x v xs vs Q R r rs q => by
  cases r with
  | @ref i a hi =>
    cases rs with
    | nil => exact q.elim
    | @cons y w xs vs ry rs =>
      cases rs with
      | cons _ _ => cases ry <;> exact q.elim
      | nil =>
        cases ry with
        | @ref j b hj =>
          have q' : Post Z (rV Z) ρ H Q E (match h.get i, h.get j with
            | some (.lst l), some (.lst r) => if l.length + r.length < 1000000 then .ok .non (h.set i (.lst (l ++ r))) else .bad
            | _, _ => .bad) := q
          cases g : h.get i with
          | none => rw [g] at q'; exact q'.elim
          | some ob =>
            cases g2 : h.get j with
            | none => rw [g, g2] at q'; cases ob <;> exact q'.elim
            | some ob2 =>
              rw [g, g2] at q'
              cases ob with
              | lst l =>
                cases ob2 with
                | lst l2 =>
                  dsimp only at q'
                  obtain ⟨ws, h1, h2⟩ := R.obj g hi
                  obtain ⟨ws2, h3, h4⟩ := R.obj g2 hj
                  by_cases z : l.length + l2.length < 1000000
                  · rw [if_pos z] at q'
                    have x1 : Ext ρ H ρ (upd H a (.lst (ws ++ ws2))) := R.grow g hi _
                    exact ⟨a, b, ws, ws2, rfl, rfl, h1, h3, by rw [← h2.length, ← h4.length, sizeLine_eq]; omega, q' ρ _ .non x1 (R.set g hi ⟨_, upd_same, (RVs.app h4 h2).ext x1⟩) .non⟩
                  · rw [if_neg z] at q'; exact q'.elim
                | _ => exact q'.elim
              | _ => exact q'.elim
        | _ => exact q.elim
  | _ => exact q.elim
theorem mc_abs {Z : Zt} : CallM Z E (f1 mAbs) (fun xs H Q => ∃ i, xs = [.int i] ∧ Q (.int (if i < 0 then -i else i)) H) := .one fun ρ h H x v Q R r q => by
  cases r with
  | int i => exact ⟨i, rfl, q.ok R (.int _)⟩
  | _ => exact q.elim
abbrev rLenM (K : PySem.W.Frag) : List V → Hp → VK → Prop := fun xs H Q => (∃ x n, xs = [x] ∧ LenV K x H n ∧ Q (.int n) H) ∨ (∃ a kvs, xs = [V.ref a] ∧ H a = some (.dK kvs) ∧ Q (.int kvs.length) H)
theorem mc_len {Z : Zt} : CallM Z E (f1 mLenV) (rLenM Z.K) := .one fun ρ h H x v Q R r q => by
  unfold mLenV at q
  cases k : mLen h x with
  | none => rw [k] at q; exact q.elim
  | some n =>
    rw [k] at q
    have fin : Q (.int n) H := Post.ok (R := rV Z) (a := .int n) q R (.int _)
    cases r with
    | str s =>
      dsimp only [mLen] at k
      split at k
      · cases k
        refine .inl ⟨_, _, rfl, ⟨?_, rfl⟩, ?_⟩
        · show s.toArray.size ≤ sizeLine
          rw [sizeLine_eq]; simp; omega
        · have : (⟨s.toArray⟩ : Str).length = s.length := by show s.toArray.size = _; simp
          rw [this]; exact fin
      · cases k
    | tup h1 r1 => cases k; exact .inl ⟨_, _, rfl, .inr ⟨_, .inl (.inl h1), rfl⟩, by rw [← r1.length]; exact fin⟩
    | ktp h1 r1 => cases k; exact .inl ⟨_, _, rfl, .inr ⟨_, ktp_sq h1, rfl⟩, by rw [← r1.length]; exact fin⟩
    | fls h1 r1 => cases k; exact .inl ⟨_, _, rfl, .inl ⟨_, h1.sq, rfl⟩, by rw [← r1.length]; exact fin⟩
    | @ref i a hi =>
      dsimp only [mLen] at k
      cases g : h.get i with
      | none => rw [g] at k; cases k
      | some ob =>
        rw [g] at k
        cases ob with
        | lst l =>
          cases k
          obtain ⟨ws, h1, h2⟩ := R.obj g hi
          exact .inl ⟨_, _, rfl, .inl ⟨ws, .inl (.inl h1), rfl⟩, by rw [← h2.length]; exact fin⟩
        | dic l =>
          cases k
          obtain ⟨ws, h1, h2⟩ := R.obj g hi
          exact .inr ⟨a, ws, rfl, h1, by rw [← h2.length]; exact fin⟩
        | _ => cases k
    | _ => cases k
theorem call_lenM : CallR X (.builtin "len") (rLenM X.K) := CallR.or call_len call_lenD
theorem mc_list {Z : Zt} : CallM Z E (f1 mList) (fun xs H Q => ∃ p ys, xs = [.ref p] ∧ (SqL Z.K H p ys ∨ SqT Z.K H p ys) ∧ ∀ l, H l = none → Q (.ref l) (upd H l (.lst ys))) := .one fun ρ h H x v Q R r q => by
  unfold mList at q
  cases k : seqOf h x with
  | none => rw [k] at q; exact q.elim
  | some xs =>
    rw [k] at q
    obtain ⟨a, vs, rfl, r2, hq⟩ := seqOf_or R r k
    have q' : Post Z (rV Z) ρ H Q E (.ok (.ref h.n) (h.push (.lst xs))) := q
    exact ⟨a, vs, rfl, hq, fun l hl => q' (ρ ++ [l]) _ _ (Ext.push hl) (R.push hl ⟨vs, upd_same, r2.ext (Ext.push hl)⟩) (.ref (by rw [← R.len]; simp))⟩
theorem mc_tuple {Z : Zt} : CallM Z E (f1 mTuple) (fun xs H Q => ∃ p ys, xs = [.ref p] ∧ ((SqL Z.K H p ys ∧ ∀ l, H l = none → Q (.ref l) (upd H l (.tup ys))) ∨ (SqT Z.K H p ys ∧ Q (.ref p) H))) := .one fun ρ h H x v Q R r q => by
  cases r with
  | tup h1 r1 => exact ⟨_, _, rfl, .inr ⟨.inl (.inl h1), Post.ok (R := rV Z) (a := .tup _) q R (.tup h1 r1)⟩⟩
  | ktp h1 r1 => exact ⟨_, _, rfl, .inr ⟨ktp_sq h1, Post.ok (R := rV Z) (a := .ktp _) q R (.ktp h1 r1)⟩⟩
  | @fls a xs vs h1 r1 =>
    have q' : Post Z (rV Z) ρ H Q E (.ok (.tup xs) h) := q
    exact ⟨a, vs, rfl, .inl ⟨h1.sq, fun l hl => q' ρ _ _ (Ext.still1 hl) (R.still1 hl) (.tup upd_same (r1.ext (Ext.still1 hl)))⟩⟩
  | @ref i a hi =>
    have q' : Post Z (rV Z) ρ H Q E (match seqOf h (.ref i) with
      | some xs => .ok (.tup xs) h
      | none => .bad) := q
    dsimp only [seqOf] at q'
    cases g : h.get i with
    | none => rw [g] at q'; exact q'.elim
    | some ob =>
      rw [g] at q'
      cases ob with
      | lst xs =>
        obtain ⟨vs, h1, h2⟩ := R.obj g hi
        exact ⟨a, vs, rfl, .inl ⟨.inl (.inl h1), fun l hl => q' ρ _ _ (Ext.still1 hl) (R.still1 hl) (.tup upd_same (h2.ext (Ext.still1 hl)))⟩⟩
      | _ => exact q'.elim
  | _ => exact q.elim
end
end MI
set_option Elab.async false
set_option linter.all false
set_option maxRecDepth 100000
set_option maxHeartbeats 4000000
namespace MI
open PySem PySem.Spec PyProof.Rows L2 JB
def putM (h : MH) (x y z : MV) : Option MH := if isD h x = true then dPutM h x y z else match x, y with
  | .ref i, .int k => match h.get i with
    | some (.lst xs) => match ixN xs.length k with
      | some j => some (h.set i (.lst (xs.set j z)))
      | none => none
    | _ => none
  | _, _ => none
theorem RVs.set {Z : Zt} {ρ : List Addr} {H : Hp} : ∀ {xs : List MV} {vs : List V} (j : Nat) {z : MV} {w : V}, RVs Z ρ H xs vs → RV Z ρ H z w → RVs Z ρ H (xs.set j z) (vs.set j w)
  | _, _, _, _, _, .nil, _ => .nil
  | _, _, 0, _, _, .cons a r, q => .cons q r
  | _, _, j + 1, _, _, .cons a r, q => .cons a (RVs.set j r q)
theorem PSet.or {X : Cx} {t t' : TSet} (p : PSet X t) (q : PSet X t') : PSet X (fun o i v H Q => t o i v H Q ∨ t' o i v H Q) := fun pins s σ H o i v ov iv u Q I r1 r2 r3 h =>
  h.elim (p pins s σ H o i v ov iv u Q I r1 r2 r3) (q pins s σ H o i v ov iv u Q I r1 r2 r3)
def tgSub (o i : ME) : MG := fun z m h => (o m h).bindS fun x h1 => (i m h1).bindS fun y h2 => match putM h2 x y z with
  | some h3 => .nx m h3
  | none => .bad
section
variable {X : Cx} {T : Nat → Addr} {E : XK} {o i e a b : Expr} {rest : List Expr} {go gi ga gb : ME} {pos p : Pos}
theorem put_ok {Z : Zt} {ρ : List Addr} {h h' : MH} {H : Hp} {x y z : MV} {v w u : V} {Q : Hp → Prop} (R : HR Z ρ h H) (r : RV Z ρ H x v) (q : RV Z ρ H y w) (t : RV Z ρ H z u) (e : putM h x y z = some h')
    (k : ∀ H', Ext ρ H ρ H' → HR Z ρ h' H' → Q H') : rSetL v w u H Q ∨ rSetD v w u H Q := by
  unfold putM at e
  by_cases d : isD h x = true
  · rw [if_pos d] at e
    obtain ⟨a, H', rfl, p1, p2, p3⟩ := dPut_ok R r q t e
    exact .inr ⟨a, H', rfl, p1, k H' p2 p3⟩
  · rw [if_neg d] at e
    cases r with
    | @ref j a hj =>
      cases q with
      | int n =>
        dsimp only at e
        cases g : h.get j with
        | none => rw [g] at e; cases e
        | some ob =>
          rw [g] at e
          cases ob with
          | lst xs =>
            dsimp only at e
            obtain ⟨vs, h1, h2⟩ := R.obj g hj
            cases k1 : ixN xs.length n with
            | none => rw [k1] at e; cases e
            | some j' =>
              rw [k1] at e
              cases e
              have x1 : Ext ρ H ρ (upd H a (.lst (vs.set j' u))) := R.grow g hj _
              exact .inl ⟨a, vs, n, j', rfl, rfl, h1, by rw [← h2.length]; exact k1, k _ x1 (R.set g hj ⟨_, upd_same, (RVs.set j' h2 t).ext x1⟩)⟩
          | _ => cases e
      | _ => cases e
    | _ => cases e
theorem jg_sub (hu : X.A.units + 1 < cLine) (ho : JE X T E o go) (hi : JE X T E i gi) (ha : ∀ v, assign (.Subscript o i pos) X.env v = (do
      let ov ← holding [v] (eval o X.env)
      let iv ← holding [v, ov] (eval i X.env)
      standAt pos
      holding [v, ov, iv] (setItem ov iv v)
      release [v, ov, iv] []) := by intro _; rfl) : JG X T E (.Subscript o i pos) (tgSub go gi) :=
  PG.le (pg_sub ho hi (PSet.or set_list (set_dict hu)) ha) fun v σ H Q ⟨ρ, m, h, z, s, r, q⟩ => sE s q fun ρ1 h1 H1 x vx s1 e1 r1 q1 => sE s1 q1 fun ρ2 h2 H2 y vy s2 e2 r2 q2 => by
    cases k : putM h2 x y z with
    | none => rw [k] at q2; exact q2.elim
    | some h3 =>
      rw [k] at q2
      exact put_ok s2.hr (r1.ext e2) r2 ((r.ext e1).ext e2) k fun H' x1 R1 => q2 ρ2 H' σ x1 (s2.to x1 R1)
def gOrT (a b : ME) : ME := fun m h => (a m h).bind fun x h1 => match mTru h1 x with
  | some true => .ok x h1
  | some false => b m h1
  | none => .bad
theorem je_orT (ha : JE X T E a ga) (hb : JE X T E (.BoolOp .Or (b :: rest) pos) gb) : JE X T E (.BoolOp .Or (a :: b :: rest) pos) (gOrT ga gb) :=
  PE.le (pe_orT ha hb) fun σ H Q ⟨ρ, m, h, s, q⟩ => stepE s q fun ρ1 h1 H1 x v s1 e1 r1 q1 => by
    cases k : mTru h1 x with
    | none => rw [k] at q1; exact q1.elim
    | some c =>
      rw [k] at q1
      refine ⟨c, mTru_ok s1.hr r1 k, ?_⟩
      cases c with
      | true => exact Post.ok (R := rV ⟨X.K, T⟩) (a := x) q1 s1.hr r1
      | false => exact endE s1 q1
def mcut {α : Type} (xs : List α) (lo hi : Option Int) : List α := (xs.drop (HT.sIx xs.length 0 lo)).take (HT.sIx xs.length xs.length hi - HT.sIx xs.length 0 lo)
theorem RVs.drop {Z : Zt} {ρ : List Addr} {H : Hp} : ∀ {xs : List MV} {vs : List V} (n : Nat), RVs Z ρ H xs vs → RVs Z ρ H (xs.drop n) (vs.drop n)
  | _, _, 0, r => r
  | _, _, _ + 1, .nil => .nil
  | _, _, n + 1, .cons _ r => RVs.drop n r
theorem RVs.take {Z : Zt} {ρ : List Addr} {H : Hp} : ∀ {xs : List MV} {vs : List V} (n : Nat), RVs Z ρ H xs vs → RVs Z ρ H (xs.take n) (vs.take n)
  | _, _, 0, _ => by rw [List.take_zero, List.take_zero]; exact .nil
  | _, _, _ + 1, .nil => .nil
  | _, _, n + 1, .cons a r => .cons a (RVs.take n r)
theorem RVs.cut {Z : Zt} {ρ : List Addr} {H : Hp} {xs : List MV} {vs : List V} (r : RVs Z ρ H xs vs) (lo hi : Option Int) : RVs Z ρ H (mcut xs lo hi) (cutV vs lo hi) := by
  unfold mcut cutV
  rw [r.length]
  exact (r.drop _).take _
def mSl (x : MV) (lo hi : Option Int) (h : MH) : Out MV := match x with
  | .str s => if s.length ≤ 1000000 then .ok (.str (mcut s lo hi)) h else .bad
  | .tup xs => .ok (.tup (mcut xs lo hi)) h
  | x => if isL x = true then match seqOf h x with
      | some xs => .ok (.ref h.n) (h.push (.lst (mcut xs lo hi)))
      | none => .bad
    else .bad
abbrev MP := ML → MH → Out (Option Int)
def gPn : MP := fun _ h => .ok none h
def gPs (a : ME) : MP := fun m h => (a m h).bind fun x h1 => match x with
  | .int i => .ok (some i) h1
  | _ => .bad
def gSl (o : ME) (l u : MP) : ME := fun m h => (o m h).bind fun x h1 => (l m h1).bind fun lo h2 => (u m h2).bind fun hi h3 => mSl x lo hi h3
abbrev rO : Rl (Option Int) (Option Int) := fun _ _ x v => x = v
def tP (Z : Zt) (E : XK) (g : MP) : TO := fun σ H Q => ∃ ρ m h, SR Z ρ m h σ H ∧ Post Z rO ρ H Q E (g m h)
abbrev JP (X : Cx) (T : Nat → Addr) (E : XK) (e : Option Expr) (g : MP) : Prop := PO X e (tP ⟨X.K, T⟩ E g)
theorem PO.le {e : Option Expr} {t t' : TO} (p : PO X e t) (k : ∀ σ H Q, t' σ H Q → t σ H Q) : PO X e t' := ⟨fun pins s σ H Q I h => p.run pins s σ H Q I (k σ H Q h)⟩
theorem jp_none : JP X T E none gPn := PO.le po_none fun σ H Q ⟨ρ, m, h, s, q⟩ => q.ok s.hr rfl
theorem jp_some (ha : JE X T E a ga) : JP X T E (some a) (gPs ga) := PO.le (po_some ha) fun σ H Q ⟨ρ, m, h, s, q⟩ => stepE s q fun ρ1 h1 H1 x v s1 e1 r1 q1 => by
  cases r1 with
  | int i => exact ⟨i, rfl, q1.ok s1.hr rfl⟩
  | _ => exact q1.elim
theorem stepP {γ δ : Type} {Z : Zt} {ρ : List Addr} {m : ML} {h : MH} {σ : L2.St} {H : Hp} {R' : Rl γ δ} {Q : δ → Hp → Prop} {Q' : Option Int → Hp → Prop} {g : MP} {k : Option Int → MH → Out γ} (s : SR Z ρ m h σ H) (p : Post Z R' ρ H Q E ((g m h).bind k))
    (n : ∀ ρ1 h1 H1 a, SR Z ρ1 m h1 σ H1 → Ext ρ H ρ1 H1 → Post Z R' ρ1 H1 Q E (k a h1) → Q' a H1) : tP Z E g σ H Q' :=
  ⟨ρ, m, h, s, (Post.bind (R := rO) p).mono fun b H' ⟨ρ1, h1, a, e, r, q, z⟩ => by have q' : a = b := q; rw [← q']; exact n ρ1 h1 H' a (s.to e r) e z⟩
abbrev rSlM (K : PySem.W.Frag) : V → Option Int → Option Int → Hp → VK → Prop := fun x lo hi H Q => rSlL K x lo hi H Q ∨ (rSlA K x lo hi H Q ∨ rSlS x lo hi H Q)
theorem whole_cut {vs : List V} {lo hi : Option Int} (h : HT.sIx vs.length 0 lo = 0 ∧ HT.sIx vs.length vs.length hi = vs.length) : cutV vs lo hi = vs := by
  unfold cutV
  rw [h.1, h.2]; simp
theorem sl_M {Z : Zt} {ρ : List Addr} {h : MH} {H : Hp} {x : MV} {v : V} {lo hi : Option Int} {Q : VK} (R : HR Z ρ h H) (r : RV Z ρ H x v) (q : Post Z (rV Z) ρ H Q E (mSl x lo hi h)) : rSlM Z.K v lo hi H Q := by
  cases r with
  | str s =>
    have q' : Post Z (rV Z) ρ H Q E (if s.length ≤ 1000000 then .ok (.str (mcut s lo hi)) h else .bad) := q
    by_cases z : s.length ≤ 1000000
    · rw [if_pos z] at q'
      refine .inr (.inr ⟨_, rfl, by show s.toArray.size ≤ sizeLine; rw [sizeLine_eq]; simp; omega, ?_⟩)
      exact q'.ok R (.str _)
    · rw [if_neg z] at q'; exact q'.elim
  | @tup a xs vs h1 r1 =>
    have q' : Post Z (rV Z) ρ H Q E (.ok (.tup (mcut xs lo hi)) h) := q
    refine .inr (.inl ⟨a, vs, rfl, .inl (.inl h1), fun w => ?_, fun w p hp => ?_⟩)
    · refine q'.ok R (.tup h1 ?_)
      have := r1.cut lo hi
      rw [whole_cut w] at this
      exact this
    · exact q' ρ _ _ (Ext.still1 hp) (R.still1 hp) (.tup upd_same ((r1.cut lo hi).ext (Ext.still1 hp)))
  | @fls a xs vs h1 r1 =>
    have q' : Post Z (rV Z) ρ H Q E (.ok (.ref h.n) (h.push (.lst (mcut xs lo hi)))) := q
    exact .inl ⟨a, vs, rfl, h1.sq, fun p hp => q' (ρ ++ [p]) _ _ (Ext.push hp) (R.push hp ⟨_, upd_same, (r1.cut lo hi).ext (Ext.push hp)⟩) (.ref (by rw [← R.len]; simp))⟩
  | @ref i a hi' =>
    have q' : Post Z (rV Z) ρ H Q E (match seqOf h (.ref i) with
      | some xs => .ok (.ref h.n) (h.push (.lst (mcut xs lo hi)))
      | none => .bad) := q
    dsimp only [seqOf] at q'
    cases g : h.get i with
    | none => rw [g] at q'; exact q'.elim
    | some ob =>
      rw [g] at q'
      cases ob with
      | lst xs =>
        obtain ⟨vs, h1, h2⟩ := R.obj g hi'
        exact .inl ⟨a, vs, rfl, .inl (.inl h1), fun p hp => q' (ρ ++ [p]) _ _ (Ext.push hp) (R.push hp ⟨_, upd_same, (h2.cut lo hi).ext (Ext.push hp)⟩) (.ref (by rw [← R.len]; simp))⟩
      | _ => exact q'.elim
  | _ => exact q.elim
theorem je_slice {lo hi : Option Expr} {gl gu : MP} {p2 : Pos} (ho : JE X T E o go) (hl : JP X T E lo gl) (hu : JP X T E hi gu) : JE X T E (.Subscript o (.Slice lo hi none p2) pos) (gSl go gl gu) :=
  PE.le (pe_slice (SlR.or sl_list (SlR.or sl_tupA sl_str)) ho hl hu) fun σ H Q ⟨ρ, m, h, s, q⟩ => stepE s q fun ρ1 h1 H1 x v s1 e1 r1 q1 => stepP s1 q1 fun ρ2 h2 H2 l s2 e2 q2 => stepP s2 q2 fun ρ3 h3 H3 u s3 e3 q3 =>
    sl_M s3.hr ((r1.ext e2).ext e3) q3
def it1E (xs : List MV) : It1 := ⟨fun _ => xs.length, fun i _ => some (xs[i]?.map fun x => .tup [.int (i : Nat), x])⟩
def it1EL (j : Nat) : It1 := ⟨fun h => match h.get j with
  | some (.lst xs) => xs.length
  | _ => 0, fun i h => match h.get j with
  | some (.lst xs) => some (xs[i]?.map fun x => .tup [.int (i : Nat), x])
  | _ => none⟩
def gEnum (a : ME) : MI1 := fun m h => (a m h).bind fun x h1 => match x with
  | .fls xs => .ok (it1E xs) h1
  | .ref j => match h1.get j with
    | some (.lst _) => .ok (it1EL j) h1
    | _ => .bad
  | _ => .bad
theorem rI_enum {Z : Zt} {ρ ρ' : List Addr} {h' : MH} {H H' : Hp} {a : Addr} {i : Nat} {xs : List MV} {vs : List V} (R : HR Z ρ' h' H') (sq : SqL Z.K H' a vs) (r : RVs Z ρ' H' xs vs) :
    match some (xs[i]?.map fun x => MV.tup [.int (i : Nat), x]) with
    | none => True
    | some none => (Ite Z.K a).stop i H'
    | some (some x) => (Ite Z.K a).go i H' ∧ ∀ v H'', (Ite Z.K a).yld i H' v H'' → ∃ ρ'', Ext ρ' H' ρ'' H'' ∧ HR Z ρ'' h' H'' ∧ RV Z ρ'' H'' x v := by
  cases g : xs[i]? with
  | none => exact ⟨vs, sq, r.none g⟩
  | some x =>
    obtain ⟨v, h1, h2⟩ := r.get g
    refine ⟨⟨vs, v, sq, h1⟩, fun w H'' y => ?_⟩
    obtain ⟨t, x', rfl, ht, rfl, y⟩ := y
    have := y vs sq
    rw [h1] at this
    cases this
    exact ⟨ρ', Ext.still1 ht, R.still1 ht, .tup upd_same (.cons (.int _) (.cons (h2.ext (Ext.still1 ht)) .nil))⟩
theorem ji_enum {elts : List Expr} {kk : Nat} {tpos : Pos} (hg : Gl X "enumerate") (hm : X.mg "enumerate" = none) (ha : JE X T E a ga) (hs : starEach [a] X.env = [(false, eval a X.env)] := by rfl) :
    JI X T E (.Tuple elts kk tpos) (.Call (.Name "enumerate" p) [a] [] pos) (gEnum ga) :=
  PI.le (pi_enum hg hm (pa_cons ha pa_nil hs) hs) fun σ H R ⟨ρ, m, h, s, q⟩ => stepI s q fun ρ1 h1 H1 x v s1 e1 r1 q1 => by
    cases r1 with
    | @fls ad xs vs h2 r2 =>
      have q' : Post ⟨X.K, T⟩ (rI ⟨X.K, T⟩) ρ1 H1 R E (.ok (it1E xs) h1) := q1
      exact ⟨ad, vs, rfl, h2.sq, q'.ok s1.hr fun i ρ' h' H' e R' => rI_enum (ρ := ρ1) (H := H1) R' (e.fzL h2).sq (r2.ext e)⟩
    | @ref j ad hj =>
      have q' : Post ⟨X.K, T⟩ (rI ⟨X.K, T⟩) ρ1 H1 R E (match h1.get j with
        | some (.lst _) => .ok (it1EL j) h1
        | _ => .bad) := q1
      cases g : h1.get j with
      | none => rw [g] at q'; exact q'.elim
      | some ob =>
        rw [g] at q'
        cases ob with
        | lst xs =>
          obtain ⟨vs, h3, h4⟩ := s1.hr.obj g hj
          refine ⟨ad, vs, rfl, .inl (.inl h3), Post.ok (R := rI ⟨X.K, T⟩) (a := it1EL j) q' s1.hr fun i ρ' h' H' e R' => ?_⟩
          show match (match h'.get j with
              | some (.lst xs) => some (xs[i]?.map fun x => MV.tup [.int (i : Nat), x])
              | _ => none) with
            | none => True
            | some none => (Ite X.K ad).stop i H'
            | some (some x) => (Ite X.K ad).go i H' ∧ ∀ v H'', (Ite X.K ad).yld i H' v H'' → ∃ ρ'', Ext ρ' H' ρ'' H'' ∧ HR ⟨X.K, T⟩ ρ'' h' H'' ∧ RV ⟨X.K, T⟩ ρ'' H'' x v
          cases g2 : h'.get j with
          | none => trivial
          | some o2 =>
            cases o2 with
            | lst ys =>
              obtain ⟨ws, h5, h6⟩ := R'.obj g2 (e.at hj)
              exact rI_enum (ρ := ρ1) (H := H1) R' (.inl (.inl h5)) h6
            | _ => trivial
        | _ => exact q'.elim
    | _ => exact q1.elim
end
end MI
set_option Elab.async false
set_option linter.all false
set_option maxRecDepth 100000
set_option maxHeartbeats 4000000
namespace MI
open PySem PySem.Spec PyProof.Rows L2 JB
def gPar (i j : Nat) (a : MA) : MS := fun m h => (a m h).bindS fun xs h1 => match xs with
  | [x, y] => .nx ((m.set i (some x)).set j (some y)) h1
  | _ => .bad
def mInt (x : MV) (h : MH) : Out MV := match x with
  | .int i => .ok (.int i) h
  | .bl b => .ok (.int (if b = true then 1 else 0)) h
  | _ => .bad
section
variable {X : Cx} {T : Nat → Addr} {E : XK} {a b : Expr} {ga : MA} {pos : Pos}
theorem sA {Z : Zt} {ρ : List Addr} {m : ML} {h : MH} {σ : L2.St} {H : Hp} {D : Ends} {Q' : List V → Hp → Prop} {g : MA} {k : List MV → MH → SO} (s : SR Z ρ m h σ H) (p : PostS Z ρ H D E ((g m h).bindS k))
    (n : ∀ ρ1 h1 H1 a v, SR Z ρ1 m h1 σ H1 → Ext ρ H ρ1 H1 → RVs Z ρ1 H1 a v → PostS Z ρ1 H1 D E (k a h1) → Q' v H1) : tA Z E g σ H Q' :=
  ⟨ρ, m, h, s, p.bind.mono fun b H' ⟨ρ1, h1, a, e, r, q, z⟩ => n ρ1 h1 H' a b (s.to e r) e q z⟩
theorem js_par {i j : Nat} {x y : Str} {px py pt : Pos} {kt k2 pt2} (hc : X.calm = true) (hN : X.N.Nodup) (hi : X.N[i]? = some x) (hj : X.N[j]? = some y) (hij : i ≠ j)
    (hx : X.env.scope.names.lookup x = some .local) (hy : X.env.scope.names.lookup y = some .local) (ha : JA X T E [a, b] ga)
    (hw : swappedStores [.Tuple [.Name x px, .Name y py] kt pt] (.Tuple [a, b] k2 pt2) X.env = pure (some [x, y]) := by rfl)
    (hs : swapsWithSole [.Tuple [.Name x px, .Name y py] kt pt] (.Tuple [a, b] k2 pt2) pos.line X.env = pure false := by rfl) :
    JS X T E (.Assign [.Tuple [.Name x px, .Name y py] kt pt] (.Tuple [a, b] k2 pt2) pos) (gPar i j ga) :=
  PS.le (ps_par hc hN hi hj hij hx hy ha hw hs) fun D σ H ⟨ρ, m, h, s, q⟩ => sA s q fun ρ1 h1 H1 xs vs s1 e1 r1 q1 => by
    cases r1 with
    | nil => exact q1.elim
    | cons ra r1 =>
      cases r1 with
      | nil => exact q1.elim
      | cons rb r1 =>
        cases r1 with
        | cons _ _ => exact q1.elim
        | nil => exact ⟨_, _, rfl, q1 ρ1 H1 _ .refl ((s1.set i ra).set j rb)⟩
theorem mc_int {Z : Zt} : CallM Z E (f1 mInt) (fun xs H Q => (∃ i, xs = [.int i] ∧ Q (.int i) H) ∨ ∃ k, xs = [.bl k] ∧ Q (.int (if k then 1 else 0)) H) := .one fun ρ h H x v Q R r q => by
  cases r with
  | int i => exact .inl ⟨i, rfl, q.ok R (.int _)⟩
  | bl b => exact .inr ⟨b, rfl, Post.ok (R := rV Z) (a := .int (if b = true then 1 else 0)) q R (.int _)⟩
  | _ => exact q.elim
end
end MI
set_option Elab.async false
set_option linter.all false
set_option maxRecDepth 100000
set_option maxHeartbeats 4000000
namespace JB
open PySem PySem.Spec PyProof.Rows L2
section
variable {X : Cx} {pins : List (Addr × Obj)}
end
end JB
set_option Elab.async false
set_option linter.all false
set_option maxRecDepth 100000
set_option maxHeartbeats 4000000
namespace MI
open PySem PySem.Spec PyProof.Rows L2 JB
section
variable {Z : Zt} {ρ : List Addr} {h : MH} {H : Hp} {E : XK}
end
section
variable {X : Cx} {T : Nat → Addr} {E : XK} {e o a b : Expr} {ge go ga gb : ME} {pos apos : Pos}
theorem isD_ok {Z : Zt} {ρ : List Addr} {h : MH} {H : Hp} {x : MV} {v : V} (R : HR Z ρ h H) (r : RV Z ρ H x v) (e : isD h x = true) : ∃ a, v = .ref a ∧ IsD H a := by
  cases r with
  | @ref i a hi =>
    dsimp only [isD] at e
    cases g : h.get i with
    | none => rw [g] at e; cases e
    | some ob =>
      rw [g] at e
      cases ob with
      | dic kvs => obtain ⟨vs, h1, _⟩ := R.obj g hi; exact ⟨a, rfl, .inl ⟨vs, .inl h1⟩⟩
      | dit kvs => obtain ⟨vs, h1, _⟩ := R.obj g hi; exact ⟨a, rfl, .inr ⟨vs, .inl h1⟩⟩
      | fdi kvs => obtain ⟨od, vs, h1, _⟩ := R.obj g hi; exact ⟨a, rfl, .inl ⟨vs, .inr ⟨od, h1⟩⟩⟩
      | _ => cases e
  | _ => cases e
end
end MI
set_option Elab.async false
set_option linter.all false
set_option maxRecDepth 100000
set_option maxHeartbeats 4000000
namespace MI
open PySem PySem.Spec PyProof.Rows L2 JB
def allD (f : MV → Option PyData) : List MV → Option (List PyData)
  | [] => some []
  | x :: xs => match f x, allD f xs with
    | some d, some ds => some (d :: ds)
    | _, _ => none
def toD (h : MH) : Nat → MV → Option PyData
  | 0, _ => none
  | n + 1, x => match x with
    | .non => some .none
    | .bl b => some (.bool b)
    | .int i => some (.int i)
    | .str s => some (.str ⟨s.toArray⟩)
    | .tup xs => (allD (toD h n) xs).map .tuple
    | .ktp xs => (allD (toD h n) xs).map .tuple
    | .fls xs => (allD (toD h n) xs).map .list
    | .ref i => match h.get i with
      | some (.lst xs) => (allD (toD h n) xs).map .list
      | _ => none
    | _ => none
section
variable {Z : Zt} {ρ : List Addr} {h : MH} {H : Hp}
theorem allD_ok {f : MV → Option PyData} (k : ∀ {x : MV} {v : V} {d : PyData}, RV Z ρ H x v → f x = some d → Dp Z.K H v d) : ∀ {xs : List MV} {vs : List V} {ds : List PyData}, RVs Z ρ H xs vs → allD f xs = some ds → DpAll Z.K H vs ds
  | _, _, ds, .nil, e => by cases e; exact .nil
  | _, _, ds, .cons (x := x) (xs := xs) a r, e => by
    dsimp only [allD] at e
    cases k1 : f x with
    | none => rw [k1] at e; cases e
    | some d =>
      cases k2 : allD f xs with
      | none => rw [k1, k2] at e; cases e
      | some ds' =>
        rw [k1, k2] at e
        cases e
        exact .cons (k a k1) (allD_ok k r k2)
theorem toD_ok (R : HR Z ρ h H) : ∀ (n : Nat) {x : MV} {v : V} {d : PyData}, RV Z ρ H x v → toD h n x = some d → Dp Z.K H v d
  | 0, _, _, _, _, e => by cases e
  | n + 1, _, _, d, r, e => by
    have ih := fun {x : MV} {v : V} {d : PyData} (r : RV Z ρ H x v) (e : toD h n x = some d) => toD_ok R n r e
    cases r with
    | non => cases e; exact .non
    | bl b => cases e; exact .bl b
    | int i => cases e; exact .int i
    | str s => cases e; exact .str _
    | tup h1 r1 =>
      obtain ⟨ds, e1, rfl⟩ := Option.map_eq_some_iff.mp (show (allD (toD h n) _).map PyData.tuple = some d from e)
      exact .tup (.inl (.inl h1)) (allD_ok ih r1 e1)
    | ktp h1 r1 =>
      obtain ⟨ds, e1, rfl⟩ := Option.map_eq_some_iff.mp (show (allD (toD h n) _).map PyData.tuple = some d from e)
      exact .tup (ktp_sq h1) (allD_ok ih r1 e1)
    | fls h1 r1 =>
      obtain ⟨ds, e1, rfl⟩ := Option.map_eq_some_iff.mp (show (allD (toD h n) _).map PyData.list = some d from e)
      exact .lst h1.sq (allD_ok ih r1 e1)
    | @ref i a hi =>
      dsimp only [toD] at e
      cases g : h.get i with
      | none => rw [g] at e; cases e
      | some ob =>
        rw [g] at e
        cases ob with
        | lst xs =>
          obtain ⟨vs, h1, h2⟩ := R.obj g hi
          obtain ⟨ds, e1, rfl⟩ := Option.map_eq_some_iff.mp (show (allD (toD h n) xs).map PyData.list = some d from e)
          exact .lst (.inl (.inl h1)) (allD_ok ih h2 e1)
        | _ => cases e
    | _ => cases e
end
def isRow : MV → Bool
  | .tup _ => true
  | .ktp _ => true
  | .fls _ => true
  | .ref _ => true
  | _ => false
end MI
set_option Elab.async false
set_option linter.all false
set_option maxRecDepth 100000
set_option maxHeartbeats 4000000
namespace MI
open PySem PySem.Spec PyProof PyProof.Rows L2 JB PySem.AutoSeq1
theorem ext_tup (l : Addr) (items : Array Value) (n : Nat) (b : Addr) (o : Obj) (items2 : Array Value) (n2 : Nat) (hc : o.cls = .type "tuple") (hd : o.data = .seq items2 n2)
    (h0 : ¬(!items.isEmpty && Builtin.List.listTooLong (items.size + items2.size)) = true) (h1 : items.size ≤ sizeLine) (h2 : items.size + items2.size ≤ sizeLine + 1) :
    Meets (Builtin.«list.extend» ⟨[.ref l, .ref b], []⟩) (fun _ R s => s.heap.get? l = some { cls := .type "list", data := .seq items n } ∧ s.heap.get? b = some o ∧
      R (.ok (.ret Value.none)) { s with heap := s.heap.update l (Obj.mapSeq fun x => x ++ items2) }) :=
  .of_wp fun prog w A R s h => by
    obtain ⟨c, dc, dt, sl⟩ := o
    obtain rfl : c = .type "tuple" := hc
    obtain rfl : dt = .seq items2 n2 := hd
    obtain ⟨hp, g, d, tk, os⟩ := s
    obtain ⟨hl, hb, h⟩ := h
    have f1 := AutoSeq1.idx_int
    have f4 := AutoSeq1.sub_tuple_list
    have f2 := AutoSeq1.sub_tuple_tuple
    have f3 := AutoSeq1.sub_list_list
    have f5 := AutoSeq1.sub_list_tuple
    have hz' : (items ++ items2).size ≤ sizeLine + 1 := by rw [Array.size_append]; exact h2
    wp_walk using (wpAny_updateSeq hl rfl (hz := h1) (_hz' := hz')), wpAny_loadPart' hl, wpAny_loadPart' hb
    exact ⟨_, rfl, h⟩
def rExtT (K : PySem.W.Frag) : V → List V → Hp → VK → Prop := fun x vs H Q => ∃ l b xs zs, x = .ref l ∧ vs = [.ref b] ∧
  H l = some (.lst xs) ∧ SqT K H b zs ∧ xs.length + zs.length ≤ sizeLine ∧ Q .non (upd H l (.lst (xs ++ zs)))
section
variable {X : Cx}
theorem mt_extT : MtR X "list.extend" (rExtT X.K) := by
  intro pins s σ H x vs v us Q I rx rv h
  obtain ⟨l, b, xs, zs, rfl, rfl, hH, hB, hz, q⟩ := h
  cases rx
  obtain ⟨u, rfl, ru⟩ := rv.one
  cases ru
  obtain ⟨z, its, n, r, hl, e⟩ := I.lstM hH
  obtain ⟨its2, r2, ⟨ob, eb, cb, nb, db⟩, hz2⟩ := I.tuple hB
  have hl2 := r2.length
  have hsz : its.toArray.size + its2.toArray.size ≤ sizeLine := by
    rw [List.size_toArray, List.size_toArray, ← hl2, ← hl]; exact hz
  have hlong : ¬ (!its.toArray.isEmpty && Builtin.List.listTooLong (its.toArray.size + its2.toArray.size)) = true := by
    rw [notLongL hsz, Bool.and_false]
    exact Bool.false_ne_true
  refine call_meets F.slot_list_extend ⟨_, e, rfl⟩ F.entry_list_extend (F.args_list_extend_2 _ _)
    (ext_tup l its.toArray n b ob its2.toArray nb cb db hlong (by rw [List.size_toArray]; omega) (by omega)) ⟨e, eb, ?_⟩
  refine ⟨.non, _, I.lset (its' := its ++ its2) hH e (by simp) (r.append r2) ?_, rfl, q⟩
  rw [List.length_append]
  omega
end
def lExtR (x : MV) (o : Option (List MV)) (t : Bool) (h : MH) : Out MV := match x, o with
  | .ref i, some r => if t = true then .bad else match h.get i with
    | some (.lst l) => if l.length + r.length < 1000000 then .ok .non (h.set i (.lst (l ++ r))) else .bad
    | _ => .bad
  | _, _ => .bad
def lExtA (x : MV) (xs : List MV) (h : MH) : Out MV := match xs with
  | [.ref j] => lExt x [.ref j] h
  | [y] => lExtR x (seqOf h y) (isL y) h
  | _ => .bad
theorem mm_extA {Z : Zt} {E : XK} : MethM Z E lExtA (fun x vs H Q => rExtend x vs H Q ∨ rExtT Z.K x vs H Q) := fun ρ h H x v xs vs Q R r rs q => by
  by_cases c : ∃ j, xs = [.ref j]
  · obtain ⟨j, rfl⟩ := c
    exact .inl (mm_ext ρ h H x v [.ref j] vs Q R r rs q)
  · cases rs with
    | nil => exact q.elim
    | @cons y w xs vs ry rs =>
      cases rs with
      | cons _ _ => cases ry <;> exact q.elim
      | nil =>
        have q' : Post Z (rV Z) ρ H Q E (lExtR x (seqOf h y) (isL y) h) := by
          cases y <;> first
            | exact absurd ⟨_, rfl⟩ c
            | exact q
        cases r with
        | @ref i a hi =>
          cases k : seqOf h y with
          | none => rw [k] at q'; exact q'.elim
          | some zs =>
            rw [k] at q'
            dsimp only [lExtR] at q'
            by_cases z : isL y = true
            · rw [if_pos z] at q'; exact q'.elim
            · rw [if_neg z] at q'
              obtain ⟨b, ws, rfl, r2, hq⟩ := seqOf_ok R ry k
              rw [if_neg z] at hq
              cases g : h.get i with
              | none => rw [g] at q'; exact q'.elim
              | some ob =>
                rw [g] at q'
                cases ob with
                | lst l =>
                  dsimp only at q'
                  obtain ⟨ls, h1, h2⟩ := R.obj g hi
                  by_cases y2 : l.length + zs.length < 1000000
                  · rw [if_pos y2] at q'
                    have x1 : Ext ρ H ρ (upd H a (.lst (ls ++ ws))) := R.grow g hi _
                    exact .inr ⟨a, b, ls, ws, rfl, rfl, h1, hq, by rw [← h2.length, ← r2.length, sizeLine_eq]; omega, q' ρ _ .non x1 (R.set g hi ⟨_, upd_same, (RVs.app r2 h2).ext x1⟩) .non⟩
                  · rw [if_neg y2] at q'; exact q'.elim
                | _ => exact q'.elim
        | _ => exact q'.elim
end MI
set_option Elab.async false
set_option linter.all false
set_option maxRecDepth 100000
set_option maxHeartbeats 4000000
namespace MI
open PySem PySem.Spec PyProof.Rows L2 JB
def allEq (f : PyData → PyData → Bool) : List PyData → List PyData → Bool
  | [], [] => true
  | a :: l, b :: r => f a b && allEq f l r
  | _, _ => false
def dEq : Nat → PyData → PyData → Bool
  | 0, _, _ => false
  | n + 1, a, b => match a, b with
    | .none, .none => true
    | .bool x, .bool y => x == y
    | .int x, .int y => decide (x = y)
    | .str x, .str y => leq x.cps.toList y.cps.toList
    | .list xs, .list ys => allEq (dEq n) xs ys
    | .tuple xs, .tuple ys => allEq (dEq n) xs ys
    | _, _ => false
theorem allEq_eq {f : PyData → PyData → Bool} (k : ∀ {a b}, f a b = true → a = b) : ∀ {l r : List PyData}, allEq f l r = true → l = r
  | [], [], _ => rfl
  | a :: l, b :: r, e => by
    simp only [allEq, Bool.and_eq_true] at e
    rw [k e.1, allEq_eq k e.2]
  | [], _ :: _, e => by cases e
  | _ :: _, [], e => by cases e
theorem dEq_eq : ∀ (n : Nat) {a b : PyData}, dEq n a b = true → a = b
  | 0, _, _, e => by cases e
  | n + 1, a, b, e => by
    have ih := fun {a b : PyData} (e : dEq n a b = true) => dEq_eq n e
    cases a <;> cases b <;> first
      | rfl
      | (cases e; done)
      | (rename_i x y; exact congrArg _ (by simpa [dEq] using e))
      | (rename_i x y
         have e' := leq_iff.mp (show leq x.cps.toList y.cps.toList = true from e)
         obtain ⟨x⟩ := x
         obtain ⟨y⟩ := y
         have : x = y := by simpa using e'
         rw [this])
      | (rename_i x y; exact congrArg _ (allEq_eq ih e))
section
variable {P : Program} {w : World} {K : PySem.W.Frag} {mg : Str → Option Value} {base : Heap} {T : Nat → Addr}
theorem row_ref {Z : Zt} {ρ : List Addr} {H : Hp} {x : MV} {v : V} (r : RV Z ρ H x v) (c : isRow x = true) : ∃ a, v = .ref a := by cases r <;> first | exact ⟨_, rfl⟩ | cases c
end
end MI
set_option Elab.async false
set_option linter.all false
set_option maxRecDepth 100000
set_option maxHeartbeats 4000000
namespace MI
open PySem PySem.Spec PyProof.Rows L2 JB
def S1 (l : List Nat) : Str := ⟨l.toArray⟩
end MI
set_option Elab.async false
set_option linter.all false
set_option maxRecDepth 100000
set_option maxHeartbeats 4000000
namespace MI
open PySem PySem.Spec PyProof.Rows L2 JB
def gBadS : MS := fun _ _ => .bad
section
variable {X : Cx} {T : Nat → Addr} {E : XK} {e : Expr} {es : List Expr} {st : Stmt}
theorem js_bad : JS X T E st gBadS := ⟨fun pins s σ H D I ⟨ρ, m, h, _, q⟩ => q.elim⟩
end
section
variable {Z : Zt} {ρ ρ' : List Addr} {h : MH} {H H' : Hp}
theorem HR.nil : HR Z [] .empty H := ⟨List.nodup_nil, rfl, fun i o e => (by rw [MH.get_none (h := MH.empty) (Nat.zero_le _)] at e; cases e), fun i hi => absurd hi (Nat.not_lt_zero i)⟩
end
section
variable {P : Program} {w : World} {K : PySem.W.Frag} {mg : Str → Option Value} {base : Heap} {T : Nat → Addr} {k : Nat} {f : Addr}
end
end MI
set_option Elab.async false
set_option linter.all false
set_option maxRecDepth 100000
set_option maxHeartbeats 4000000
namespace MI
open PySem PySem.Spec PyProof.Rows L2 JB
def itoaN (n : Nat) : List Nat := (Nat.toDigits 10 n).map Char.toNat
def itoa : Int → List Nat
  | .ofNat n => itoaN n
  | .negSucc n => 45 :: itoaN (n + 1)
theorem ofS (s : String) : Str.ofString s = ⟨(s.toList.map Char.toNat).toArray⟩ := by
  rw [Str.ofString_eq_byList]; rfl
theorem itoa_ok (i : Int) : Str.ofString (toString i) = ⟨(itoa i).toArray⟩ := by
  rw [ofS]
  cases i with
  | ofNat n =>
    show Str.mk ((toString n).toList.map Char.toNat).toArray = _
    have : (toString n).toList = Nat.toDigits 10 n := by
      show (Nat.repr n).toList = _
      unfold Nat.repr
      simp
    rw [this]; rfl
  | negSucc n =>
    show Str.mk (("-" ++ toString (n + 1)).toList.map Char.toNat).toArray = _
    have : (toString (n + 1)).toList = Nat.toDigits 10 (n + 1) := by
      show (Nat.repr (n + 1)).toList = _
      unfold Nat.repr
      simp
    rw [String.toList_append, this]; rfl
def iSmall (i : Int) : Bool := decide (i.natAbs < 1606938044258990275541962092341162602522202993782792835301376)
theorem iSmall_ok {i : Int} (h : iSmall i = true) : i.natAbs.log2 < 1920 := by
  have h' : i.natAbs < 2 ^ 200 := by
    have := of_decide_eq_true h
    have e : (2 : Nat) ^ 200 = 1606938044258990275541962092341162602522202993782792835301376 := by decide
    omega
  by_cases z : i.natAbs = 0
  · rw [z]; decide
  · exact Nat.lt_trans ((Nat.log2_lt z).mpr h') (by decide)
def mFmt (x : MV) (h : MH) : Out MV := match x with
  | .str s => if s.length ≤ 1000000 then .ok (.str s) h else .bad
  | .int i => if iSmall i = true then .ok (.str (itoa i)) h else .bad
  | _ => .bad
def mStr (x : MV) (h : MH) : Out MV := match x with
  | .int i => if iSmall i = true then .ok (.str (itoa i)) h else .bad
  | _ => .bad
def gFs : List ME → List Nat → ME
  | [], acc, _, h => .ok (.str acc) h
  | g :: gs, acc, m, h => (g m h).bind fun x h1 => match x with
    | .str s => if acc.length + s.length ≤ 1000000 then gFs gs (acc ++ s) m h1 else .bad
    | _ => .bad
section
variable {X : Cx} {T : Nat → Addr} {E : XK} {e a b : Expr} {es : List Expr} {ga gb : ME} {gr : MA} {pos : Pos}
theorem je_fmt (ha : JE X T E e ga) : JE X T E (.FormattedValue e (-1) none pos) (gUn mFmt ga) :=
  PE.le (pe_fmt ha) fun σ H Q ⟨ρ, m, h, s, q⟩ => stepE s q fun ρ1 h1 H1 x v s1 e1 r1 q1 => by
    cases r1 with
    | str z =>
      have q' : Post ⟨X.K, T⟩ (rV ⟨X.K, T⟩) ρ1 H1 Q E (if z.length ≤ 1000000 then .ok (.str z) h1 else .bad) := q1
      by_cases c : z.length ≤ 1000000
      · rw [if_pos c] at q'
        exact .inl ⟨_, rfl, by show z.toArray.size ≤ sizeLine; rw [sizeLine_eq]; simp; omega, q'.ok s1.hr (.str z)⟩
      · rw [if_neg c] at q'; exact q'.elim
    | int i =>
      have q' : Post ⟨X.K, T⟩ (rV ⟨X.K, T⟩) ρ1 H1 Q E (if iSmall i = true then .ok (.str (itoa i)) h1 else .bad) := q1
      by_cases c : iSmall i = true
      · rw [if_pos c] at q'
        exact .inr ⟨i, rfl, iSmall_ok c, by rw [itoa_ok]; exact q'.ok s1.hr (.str _)⟩
      · rw [if_neg c] at q'; exact q'.elim
    | _ => exact q1.elim
theorem mc_str {Z : Zt} : CallM Z E (f1 mStr) (fun xs H Q => ∃ i, xs = [.int i] ∧ i.natAbs.log2 < 1920 ∧ Q (.str (toString i)) H) := .one fun ρ h H x v Q R r q => by
  cases r with
  | int i =>
    have q' : Post Z (rV Z) ρ H Q E (if iSmall i = true then .ok (.str (itoa i)) h else .bad) := q
    by_cases c : iSmall i = true
    · rw [if_pos c] at q'
      exact ⟨i, rfl, iSmall_ok c, by rw [itoa_ok]; exact q'.ok R (.str _)⟩
    · rw [if_neg c] at q'; exact q'.elim
  | _ => exact q.elim
theorem fs_ok {Z : Zt} : ∀ (gs : List ME) (acc : List Nat) {ρ : List Addr} {m : ML} {h : MH} {σ : L2.St} {H : Hp} {Q : VK}, SR Z ρ m h σ H → Post Z (rV Z) ρ H Q E (gFs gs acc m h) →
    tJs (gs.map (tE Z E)) ⟨acc.toArray⟩ σ H fun out H1 => Q (.str out) H1
  | [], acc, ρ, m, h, σ, H, Q, s, q => Post.ok (R := rV Z) (a := .str acc) q s.hr (.str acc)
  | g :: gs, acc, ρ, m, h, σ, H, Q, s, q => by
    have q' : Post Z (rV Z) ρ H Q E ((g m h).bind fun x h1 => match x with
      | .str s => if acc.length + s.length ≤ 1000000 then gFs gs (acc ++ s) m h1 else .bad
      | _ => .bad) := q
    refine stepE s q' fun ρ1 h1 H1 x v s1 e1 r1 q1 => ?_
    cases r1 with
    | str z =>
      have q2 : Post Z (rV Z) ρ1 H1 Q E (if acc.length + z.length ≤ 1000000 then gFs gs (acc ++ z) m h1 else .bad) := q1
      by_cases c : acc.length + z.length ≤ 1000000
      · rw [if_pos c] at q2
        refine ⟨_, rfl, ?_, ?_⟩
        · rw [str_app]
          show (acc ++ z).toArray.size ≤ sizeLine
          rw [sizeLine_eq]; simp; omega
        · rw [str_app]
          exact fs_ok gs (acc ++ z) s1 q2
      · rw [if_neg c] at q2; exact q2.elim
    | _ => exact q1.elim
theorem je_fs {v1 v2 : Expr} {rest : List Expr} {gs : List ME} (h : PJ X (v1 :: v2 :: rest) (gs.map (tE ⟨X.K, T⟩ E))) : JE X T E (.JoinedStr (v1 :: v2 :: rest) pos) (gFs gs []) :=
  PE.le (pe_joined h) fun σ H Q ⟨ρ, m, h, s, q⟩ => fs_ok gs [] s q
def gStar (a : ME) (r : MA) : MA := fun m h => (a m h).bind fun x h1 => match seqOf h1 x with
  | some xs => (r m h1).bind fun ys h2 => .ok (xs ++ ys) h2
  | none => .bad
theorem ja_star {p : Pos} (ha : JE X T E e ga) (hr : JA X T E es gr) (hs : starEach (.Starred e p :: es) X.env = (true, eval e X.env) :: starEach es X.env := by rfl) : JA X T E (.Starred e p :: es) (gStar ga gr) :=
  PA.le (StX.pa_star ha hr hs) fun σ H Q ⟨ρ, m, h, s, q⟩ => stepE s q fun ρ1 h1 H1 x v s1 e1 r1 q1 => by
    cases k : seqOf h1 x with
    | none => rw [k] at q1; exact q1.elim
    | some xs =>
      rw [k] at q1
      obtain ⟨a, vs, rfl, r2, hq⟩ := seqOf_or s1.hr r1 k
      exact ⟨a, vs, rfl, hq.symm, stepA s1 q1 fun ρ2 h2 H2 ys ws s2 e2 r3 q2 => Post.ok (R := rVs ⟨X.K, T⟩) (a := xs ++ ys) q2 s2.hr (RVs.app r3 (r2.ext e2))⟩
def reps {α : Type} (xs : List α) : Nat → List α
  | 0 => []
  | n + 1 => xs ++ reps xs n
theorem reps_eq {α : Type} (xs : List α) : ∀ n, (List.replicate n xs).flatten = reps xs n
  | 0 => rfl
  | n + 1 => by rw [List.replicate_succ, List.flatten_cons, reps_eq xs n]; rfl
theorem RVs.reps {Z : Zt} {ρ : List Addr} {H : Hp} {xs : List MV} {vs : List V} (r : RVs Z ρ H xs vs) : ∀ n, RVs Z ρ H (reps xs n) (reps vs n)
  | 0 => .nil
  | n + 1 => RVs.app (r.reps n) r
def mRepL (x y : MV) (h : MH) : Out MV := match x, y with
  | .ref i, .int k => match h.get i with
    | some (.lst xs) => if k ≤ 10000 ∧ -10000 ≤ k ∧ xs.length ≤ 100 then .ok (.ref h.n) (h.push (.lst (reps xs k.toNat))) else .bad
    | _ => .bad
  | _, _ => .bad
theorem om_repL {Z : Zt} : OpM Z E mRepL rRep := fun ρ h H x y v w Q R r q p => by
  cases r with
  | @ref i a hi =>
    cases q with
    | int k =>
      have p' : Post Z (rV Z) ρ H Q E (match h.get i with
        | some (.lst xs) => if k ≤ 10000 ∧ -10000 ≤ k ∧ xs.length ≤ 100 then .ok (.ref h.n) (h.push (.lst (reps xs k.toNat))) else .bad
        | _ => .bad) := p
      cases g : h.get i with
      | none => rw [g] at p'; exact p'.elim
      | some ob =>
        rw [g] at p'
        cases ob with
        | lst xs =>
          dsimp only at p'
          obtain ⟨vs, h1, h2⟩ := R.obj g hi
          by_cases c : k ≤ 10000 ∧ -10000 ≤ k ∧ xs.length ≤ 100
          · rw [if_pos c] at p'
            refine ⟨a, k, vs, rfl, rfl, h1, by omega, by omega, ?_, fun pp hp => ?_⟩
            · rw [← h2.length, sizeLine_eq]
              have : xs.length * k.toNat ≤ 100 * 10000 := Nat.mul_le_mul c.2.2 (by omega)
              omega
            · rw [reps_eq]
              exact p' (ρ ++ [pp]) _ _ (Ext.push hp) (R.push hp ⟨_, upd_same, (h2.ext (Ext.push hp)).reps _⟩) (.ref (by rw [← R.len]; simp))
          · rw [if_neg c] at p'; exact p'.elim
        | _ => exact p'.elim
    | _ => exact p.elim
  | _ => exact p.elim
def isRep : MV → Bool
  | .ref _ => true
  | _ => false
def mMulV (x y : MV) (h : MH) : Out MV := if isRep x = true then mRepL x y h else mMul x y h
theorem je_mulV (ha : JE X T E a ga) (hb : JE X T E b gb) : JE X T E (.BinOp a .Mult b pos) (gBin mMulV ga gb) :=
  je_bin_or (je_op op_rep om_repL ha hb) (je_mul ha hb) fun x y h => by
    unfold mMulV
    split
    · exact .inl rfl
    · exact .inr rfl
def ins1 (x : Int) : List Int → List Int
  | [] => [x]
  | y :: l => if x ≤ y then x :: y :: l else y :: ins1 x l
def isort : List Int → List Int
  | [] => []
  | x :: l => ins1 x (isort l)
theorem ins1_perm (x : Int) : ∀ l, (ins1 x l).Perm (x :: l)
  | [] => .refl _
  | y :: l => by
    unfold ins1
    split
    · exact .refl _
    · exact ((ins1_perm x l).cons y).trans (.swap x y l)
theorem isort_perm : ∀ l, (isort l).Perm l
  | [] => .refl _
  | x :: l => (ins1_perm x (isort l)).trans ((isort_perm l).cons x)
theorem ins1_mem {x z : Int} {l : List Int} (h : z ∈ ins1 x l) : z = x ∨ z ∈ l := by
  have := (ins1_perm x l).mem_iff.mp h
  simpa using this
theorem ins1_pw (x : Int) : ∀ l : List Int, l.Pairwise (· ≤ ·) → (ins1 x l).Pairwise (· ≤ ·)
  | [], _ => by simp [ins1]
  | y :: l, h => by
    obtain ⟨h1, h2⟩ := List.pairwise_cons.mp h
    unfold ins1
    split
    · rename_i c
      refine List.pairwise_cons.mpr ⟨fun z hz => ?_, h⟩
      rcases List.mem_cons.mp hz with rfl | hz
      · exact c
      · exact Int.le_trans c (h1 z hz)
    · rename_i c
      refine List.pairwise_cons.mpr ⟨fun z hz => ?_, ins1_pw x l h2⟩
      rcases ins1_mem hz with rfl | hz
      · omega
      · exact h1 z hz
theorem isort_pw : ∀ l : List Int, (isort l).Pairwise (· ≤ ·)
  | [] => List.Pairwise.nil
  | x :: l => ins1_pw x _ (isort_pw l)
theorem isort_uniq {ys ks : List Int} (p : ys.Perm ks) (s : ys.Pairwise (· ≤ ·)) : ys = isort ks := PySem.W.ksm_same (p.trans (isort_perm ks).symm) s (isort_pw ks)
def intsOf : List MV → Option (List Int)
  | [] => some []
  | .int i :: r => (intsOf r).map fun l => i :: l
  | _ => none
theorem intsOf_ok {Z : Zt} {ρ : List Addr} {H : Hp} : ∀ {xs : List MV} {vs : List V} {l : List Int}, RVs Z ρ H xs vs → intsOf xs = some l → vs = l.map V.int
  | _, _, l, .nil, e => by cases e; rfl
  | _, _, l, .cons (x := x) (xs := xs) a r, e => by
    cases a with
    | int i =>
      obtain ⟨l', e1, rfl⟩ := Option.map_eq_some_iff.mp (show (intsOf xs).map (fun l => i :: l) = some l from e)
      rw [intsOf_ok r e1]; rfl
    | _ => cases e
theorem RVs.ints {Z : Zt} {ρ : List Addr} {H : Hp} : ∀ l : List Int, RVs Z ρ H (l.map MV.int) (l.map V.int)
  | [] => .nil
  | i :: l => .cons (.int i) (RVs.ints l)
def keysOf : List (MK × MV) → Option (List Int)
  | [] => some []
  | (.inl i, _) :: r => (keysOf r).map fun l => i :: l
  | _ => none
theorem keysOf_ok {Z : Zt} {ρ : List Addr} {H : Hp} {xs : List (MK × MV)} {vs : List (Key × V)} (r : RKs kOf Z ρ H xs vs) : ∀ {l : List Int}, keysOf xs = some l → vs.map (·.1) = l.map Sum.inl := by
  induction r with
  | nil => intro l e; cases e; rfl
  | @cons k x v xs vs a r ih =>
    intro l e
    cases k with
    | inl i =>
      obtain ⟨l', e1, rfl⟩ := Option.map_eq_some_iff.mp (show (keysOf xs).map (fun l => i :: l) = some l from e)
      rw [List.map_cons, ih e1]; rfl
    | inr s => cases e
def mSorted (x : MV) (h : MH) : Out MV := match x with
  | .ref i => match h.get i with
    | some (.lst xs) => match intsOf xs with
      | some l => .ok (.ref h.n) (h.push (.lst ((isort l).map MV.int)))
      | none => .bad
    | some (.dic kvs) => match keysOf kvs with
      | some l => if l.length < 64 then .ok (.ref h.n) (h.push (.lst ((isort l).map MV.int))) else .bad
      | none => .bad
    | _ => .bad
  | _ => .bad
abbrev rSortM (K : PySem.W.Frag) : List V → Hp → VK → Prop := fun xs H Q => rSortedI K xs H Q ∨ ∃ (a : Addr) (kvs : List (Key × V)) (ks : List Int), xs = [.ref a] ∧ Rd H a (.dK kvs) ∧ kvs.map (·.1) = ks.map Sum.inl ∧ ks.length < 64 ∧
    ∀ (ys : List Int) (p : Addr), ys.Perm ks → ys.Pairwise (· ≤ ·) → H p = none → Q (.ref p) (upd H p (.lst (ys.map V.int)))
theorem call_sortM (hc : X.calm = true) : CallR X (.builtin "sorted") (rSortM X.K) := CallR.or cr_sortedI (call_sortedDI hc)
theorem mc_sorted {Z : Zt} : CallM Z E (f1 mSorted) (rSortM Z.K) := .one fun ρ h H x v Q R r q => by
  cases r with
  | @ref i a hi =>
    have q' : Post Z (rV Z) ρ H Q E (match h.get i with
      | some (.lst xs) => match intsOf xs with
        | some l => .ok (.ref h.n) (h.push (.lst ((isort l).map MV.int)))
        | none => .bad
      | some (.dic kvs) => match keysOf kvs with
        | some l => if l.length < 64 then .ok (.ref h.n) (h.push (.lst ((isort l).map MV.int))) else .bad
        | none => .bad
      | _ => .bad) := q
    have fin : ∀ (l ys : List Int) (p : Addr), Post Z (rV Z) ρ H Q E (.ok (.ref h.n) (h.push (.lst ((isort l).map MV.int)))) → ys.Perm l → ys.Pairwise (· ≤ ·) → H p = none → Q (.ref p) (upd H p (.lst (ys.map V.int))) := by
      intro l ys p q2 p1 p2 hp
      rw [isort_uniq p1 p2]
      exact q2 (ρ ++ [p]) _ _ (Ext.push hp) (R.push hp ⟨_, upd_same, RVs.ints _⟩) (.ref (by rw [← R.len]; simp))
    cases g : h.get i with
    | none => rw [g] at q'; exact q'.elim
    | some ob =>
      rw [g] at q'
      cases ob with
      | lst xs =>
        dsimp only at q'
        obtain ⟨vs, h1, h2⟩ := R.obj g hi
        cases k : intsOf xs with
        | none => rw [k] at q'; exact q'.elim
        | some l =>
          rw [k] at q'
          exact .inl ⟨a, l, rfl, by rw [← intsOf_ok h2 k]; exact .inl (.inl h1), fun ys p p1 p2 hp => fin l ys p q' p1 p2 hp⟩
      | dic kvs =>
        dsimp only at q'
        obtain ⟨vs, h1, h2⟩ := R.obj g hi
        cases k : keysOf kvs with
        | none => rw [k] at q'; exact q'.elim
        | some l =>
          rw [k] at q'
          dsimp only at q'
          by_cases z : l.length < 64
          · rw [if_pos z] at q'
            exact .inr ⟨a, vs, l, rfl, .of h1, keysOf_ok h2 k, z, fun ys p p1 p2 hp => fin l ys p q' p1 p2 hp⟩
          · rw [if_neg z] at q'; exact q'.elim
      | _ => exact q'.elim
  | _ => exact q.elim
def boolsOf : List MV → Option (List Bool)
  | [] => some []
  | .bl i :: r => (boolsOf r).map fun l => i :: l
  | _ => none
theorem boolsOf_ok {Z : Zt} {ρ : List Addr} {H : Hp} : ∀ {xs : List MV} {vs : List V} {l : List Bool}, RVs Z ρ H xs vs → boolsOf xs = some l → vs = l.map V.bl
  | _, _, l, .nil, e => by cases e; rfl
  | _, _, l, .cons (x := x) (xs := xs) a r, e => by
    cases a with
    | bl i =>
      obtain ⟨l', e1, rfl⟩ := Option.map_eq_some_iff.mp (show (boolsOf xs).map (fun l => i :: l) = some l from e)
      rw [boolsOf_ok r e1]; rfl
    | _ => cases e
def mAll (x : MV) (h : MH) : Out MV := match x with
  | .ref i => match h.get i with
    | some (.lst xs) => match boolsOf xs with
      | some l => .ok (.bl (l.all id)) h
      | none => .bad
    | _ => .bad
  | _ => .bad
theorem mc_all {Z : Zt} : CallM Z E (f1 mAll) (rAll Z.K) := .one fun ρ h H x v Q R r q => by
  cases r with
  | @ref i a hi =>
    have q' : Post Z (rV Z) ρ H Q E (match h.get i with
      | some (.lst xs) => match boolsOf xs with
        | some l => .ok (.bl (l.all id)) h
        | none => .bad
      | _ => .bad) := q
    cases g : h.get i with
    | none => rw [g] at q'; exact q'.elim
    | some ob =>
      rw [g] at q'
      cases ob with
      | lst xs =>
        dsimp only at q'
        obtain ⟨vs, h1, h2⟩ := R.obj g hi
        cases k : boolsOf xs with
        | none => rw [k] at q'; exact q'.elim
        | some l =>
          rw [k] at q'
          exact ⟨a, l, rfl, by rw [← boolsOf_ok h2 k]; exact .inl (.inl h1), Post.ok (R := rV Z) (a := .bl (l.all id)) q' R (.bl _)⟩
      | _ => exact q'.elim
  | _ => exact q.elim
end
end MI
set_option Elab.async false
set_option linter.all false
set_option maxRecDepth 100000
set_option maxHeartbeats 4000000
namespace MI
open PySem PySem.Spec PyProof.Rows L2 JB
def ddrop {κ : Type} (e : κ → κ → Bool) (k : κ) : List (κ × MV) → List (κ × MV)
  | [] => []
  | (g, x) :: r => if e g k = true then ddrop e k r else (g, x) :: ddrop e k r
theorem ddrop_ok {κ κ' : Type} [DecidableEq κ'] {e : κ → κ → Bool} {f : κ → κ'} {Z : Zt} {ρ : List Addr} {H : Hp} (he : ∀ a b, e a b = true ↔ f a = f b) {xs : List (κ × MV)} {vs : List (κ' × V)} (r : RKs f Z ρ H xs vs) {k : κ} :
    RKs f Z ρ H (ddrop e k xs) (dropK vs (f k)) := by
  induction r with
  | nil => exact .nil
  | @cons g x v xs vs a r ih =>
    show RKs f Z ρ H (if e g k = true then ddrop e k xs else (g, x) :: ddrop e k xs) (dropK ((f g, v) :: vs) (f k))
    by_cases z : e g k = true
    · rw [if_pos z, dropK_pos ((he _ _).mp z)]; exact ih
    · rw [if_neg z, dropK_neg (fun q => z ((he _ _).mpr q))]; exact .cons a ih
def gDel (d i : ME) : MS := fun m h => (d m h).bindS fun x h1 => (i m h1).bindS fun y h2 => match x, mkey y with
  | .ref j, some k => match h2.get j with
    | some (.dic kvs) => if (dval keq kvs k).isSome = true then .nx m (h2.set j (.dic (ddrop keq k kvs))) else .bad
    | _ => .bad
  | _, _ => .bad
section
variable {X : Cx} {T : Nat → Addr} {E : XK} {o i e f a b : Expr} {go gi ge gf ga gb : ME} {pos tpos apos cpos : Pos}
theorem js_del (ho : JE X T E o go) (hi : JE X T E i gi) : JS X T E (.Delete [.Subscript o i tpos] pos) (gDel go gi) :=
  PS.le (ps_ddel ho hi) fun D σ H ⟨ρ, m, h, s, q⟩ => sE s q fun ρ1 h1 H1 x v s1 e1 r1 q1 => sE s1 q1 fun ρ2 h2 H2 y w s2 e2 r2 q2 => by
    have r1' := r1.ext e2
    cases r1' with
    | @ref j a hj =>
      cases k : mkey y with
      | none => rw [k] at q2; exact q2.elim
      | some k' =>
        rw [k] at q2
        have q' : PostS ⟨X.K, T⟩ ρ2 H2 D E (match h2.get j with
          | some (.dic kvs) => if (dval keq kvs k').isSome = true then .nx m (h2.set j (.dic (ddrop keq k' kvs))) else .bad
          | _ => .bad) := q2
        cases g : h2.get j with
        | none => rw [g] at q'; exact q'.elim
        | some ob =>
          rw [g] at q'
          cases ob with
          | dic kvs =>
            dsimp only at q'
            obtain ⟨vs, h3, h4⟩ := s2.hr.obj g hj
            by_cases z : (dval keq kvs k').isSome = true
            · rw [if_pos z] at q'
              have x1 := s2.hr.grow g hj (.dK (dropK vs (kOf k')))
              refine ⟨a, vs, kOf k', rfl, h3, mkey_ok r2 k, ?_, q' ρ2 _ _ x1 (s2.to x1 (s2.hr.set g hj ⟨_, upd_same, (ddrop_ok (e := keq) (fun a b => keq_iff) h4).ext x1⟩))⟩
              rcases dval_ok (e := keq) (f := kOf) (fun a b => keq_iff) h4 k' with ⟨l, _⟩ | ⟨y, w, l1, l2, _⟩
              · rw [l] at z; cases z
              · rw [l2]; rfl
            · rw [if_neg z] at q'; exact q'.elim
          | _ => exact q'.elim
    | _ => exact q2.elim
def gSetd (d k x : ME) : ME := fun m h => (d m h).bind fun z h1 => if isD h1 z = true then (k m h1).bind fun y h2 => (x m h2).bind fun u h3 => match z, mkey y with
  | .ref j, some k => match h3.get j with
    | some (.dic kvs) => if kvs.length < 1000000 then match dval keq kvs k with
        | some v => .ok v h3
        | none => .ok u (h3.set j (.dic (dput keq kvs k u)))
      else .bad
    | _ => .bad
  | _, _ => .bad
  else .bad
theorem je_setd (ho : JE X T E o go) (he : JE X T E e ge) (hf : JE X T E f gf) (m2 : M2 X o "setdefault" apos e f cpos) : JE X T E (.Call (.Attribute o "setdefault" apos) [e, f] [] cpos) (gSetd go ge gf) :=
  PE.le (pe_dsetd ho he hf m2) fun σ H Q ⟨ρ, m, h, s, q⟩ => stepE s q fun ρ1 h1 H1 x v s1 e1 r1 q1 => by
    by_cases d : isD h1 x = true
    · rw [if_pos d] at q1
      obtain ⟨a, rfl, hd⟩ := isD_ok s1.hr r1 d
      refine ⟨a, rfl, hd, stepE s1 q1 fun ρ2 h2 H2 y w s2 e2 r2 q2 => stepE s2 q2 fun ρ3 h3 H3 u z s3 e3 r3 q3 => ?_⟩
      have r1' := (r1.ext e2).ext e3
      cases r1' with
      | @ref j a hj =>
        cases k : mkey y with
        | none => rw [k] at q3; exact q3.elim
        | some k' =>
          rw [k] at q3
          have q' : Post ⟨X.K, T⟩ (rV ⟨X.K, T⟩) ρ3 H3 Q E (match h3.get j with
            | some (.dic kvs) => if kvs.length < 1000000 then match dval keq kvs k' with
                | some v => .ok v h3
                | none => .ok u (h3.set j (.dic (dput keq kvs k' u)))
              else .bad
            | _ => .bad) := q3
          cases g : h3.get j with
          | none => rw [g] at q'; exact q'.elim
          | some ob =>
            rw [g] at q'
            cases ob with
            | dic kvs =>
              dsimp only at q'
              obtain ⟨vs, h4, h5⟩ := s3.hr.obj g hj
              by_cases c : kvs.length < 1000000
              · rw [if_pos c] at q'
                refine ⟨vs, kOf k', h4, mkey_ok (r2.ext e3) k, by rw [← h5.length, sizeLine_eq]; omega, fun v' l => ?_, fun l => ?_⟩
                · rcases dval_ok (e := keq) (f := kOf) (fun a b => keq_iff) h5 k' with ⟨l1, l2⟩ | ⟨y', w', l1, l2, l3⟩
                  · rw [l] at l2; cases l2
                  · rw [l] at l2; cases l2
                    rw [l1] at q'
                    exact q'.ok s3.hr l3
                · rcases dval_ok (e := keq) (f := kOf) (fun a b => keq_iff) h5 k' with ⟨l1, l2⟩ | ⟨y', w', l1, l2, l3⟩
                  · rw [l1] at q'
                    have x1 := s3.hr.grow g hj (.dK (putK vs (kOf k') z))
                    exact q' ρ3 _ _ x1 (s3.hr.set g hj ⟨_, upd_same, dput_ok (e := keq) (f := kOf) (fun a b => keq_iff) (h5.ext x1) (r3.ext x1)⟩) (r3.ext x1)
                  · rw [l] at l2; cases l2
              · rw [if_neg c] at q'; exact q'.elim
            | _ => exact q'.elim
      | _ => exact q3.elim
    · rw [if_neg d] at q1; exact q1.elim
def okD (d : PyData) : Bool := SeqAt.shaped d
theorem je_glI {x : Str} {i : Int} (hg : Gl X x) (hm : ∃ t, X.mg x = some (.int i t)) (hd : (x == ("__debug__" : Str)) = false := by decide) (hcd : (x == ("__classdict__" : Str)) = false := by decide) : JE X T E (.Name x pos) (gC (.int i)) := by
  obtain ⟨t, hm⟩ := hm
  exact je_c (w := .int i) (pe_glob hg hm ⟨t, rfl⟩ hd) fun _ _ => .int _
end
end MI
set_option Elab.async false
set_option linter.all false
set_option maxRecDepth 100000
set_option maxHeartbeats 4000000
namespace ET
open PySem PySem.Spec PyProof.Rows L2
section
variable {prog : Program} {w : World} {A : Around} {E : Value → Shared → Prop} {s : Shared}
theorem next_item {j t : Addr} {i : Nat} {its : Array Value} {v : Value} {Q : Value → Shared → Prop} (a1 : s.heap.IsTupleIter j t i) (a2 : s.heap.IsTuple t its) (a3 : its[i]? = some v)
    (k : ∀ h', h'.IsTupleIter j t (i + 1) → Heap.SameBut j s.heap h' → Q v { s with heap := h' }) : wpAny (model prog w) A (Builtin.SmallTypes.nextOf (.ref j)) Q E s := by
  obtain ⟨o, b1, b2, b3⟩ := id a1
  obtain ⟨u, c1, _, m, c2⟩ := a2
  unfold Builtin.SmallTypes.nextOf
  refine wpAny_bind (wpAny_callSpecial?_slot (name := Str.ofString "__next__") a1.typeIs F.slot_tuple_iterator_next
    (wpAny_call_entry F.slot_tuple_iterator_next a1.typeIs F.entry_tuple_iterator_next ?_ (F.args_tuple_iterator_next_1 _)))
  show wpAny _ _ (field (.ref j) 0 >>= _) _ _ s
  refine wpAny_bind (wpAny_field b1 b3 (x := .ref t) rfl ?_)
  show wpAny _ _ (if (Value.ref t == Value.none) = true then _ else _) _ _ s
  rw [if_neg (show ¬ (Value.ref t == Value.none) = true from fun z => nomatch z)]
  show wpAny _ _ (field (.ref j) 1 >>= _) _ _ s
  refine wpAny_bind (wpAny_field b1 b3 (x := .int i 0) rfl ?_)
  show wpAny _ _ (seqItems? (.ref t) >>= _) _ _ s
  refine wpAny_bind (wpAny_seqItems c1 c2 ?_)
  simp only [Int.toNat_natCast, a3]
  refine wpAny_bind (wpAny_setField b1 b3 (by simp) (wpAny_pure ⟨_, rfl, wpAny_pure (k _ ?_ (Heap.SameBut.update ..))⟩))
  exact ⟨_, Heap.get?_update_self _ b1 (Obj.isFreed_of_fields (Obj.data_mapFields b3 _)), (Obj.cls_mapFields ..).trans b2, by rw [Obj.data_mapFields b3]; simp [rawInt]⟩
theorem next_end {j t : Addr} {i : Nat} {its : Array Value} {Q : Value → Shared → Prop} (hn : A.handled = none) (a1 : s.heap.IsTupleIter j t i) (a2 : s.heap.IsTuple t its) (a3 : its[i]? = none)
    (k : ∀ h' e, Heap.ExtBut j s.heap h' → (∃ o, h'.get? e = some o ∧ o.cls = .type "StopIteration") → E (.ref e) { s with heap := h' }) : wpAny (model prog w) A (Builtin.SmallTypes.nextOf (.ref j)) Q E s := by
  obtain ⟨o, b1, b2, b3⟩ := id a1
  obtain ⟨u, c1, _, m, c2⟩ := a2
  unfold Builtin.SmallTypes.nextOf
  refine wpAny_bind (wpAny_callSpecial?_slot (name := Str.ofString "__next__") a1.typeIs F.slot_tuple_iterator_next
    (wpAny_call_entry F.slot_tuple_iterator_next a1.typeIs F.entry_tuple_iterator_next ?_ (F.args_tuple_iterator_next_1 _)))
  show wpAny _ _ (field (.ref j) 0 >>= _) _ _ s
  refine wpAny_bind (wpAny_field b1 b3 (x := .ref t) rfl ?_)
  show wpAny _ _ (if (Value.ref t == Value.none) = true then _ else _) _ _ s
  rw [if_neg (show ¬ (Value.ref t == Value.none) = true from fun z => nomatch z)]
  show wpAny _ _ (field (.ref j) 1 >>= _) _ _ s
  refine wpAny_bind (wpAny_field b1 b3 (x := .int i 0) rfl ?_)
  show wpAny _ _ (seqItems? (.ref t) >>= _) _ _ s
  refine wpAny_bind (wpAny_seqItems c1 c2 ?_)
  simp only [Int.toNat_natCast, a3]
  refine wpAny_bind (wpAny_rule (wpAny_bind (wpAny_setField b1 b3 (by simp) ?_)))
  show wpAny _ _ (newExc (.type "StopIteration") [] >>= _) _ _ _
  refine wpAny_bind ?_
  simp only [newExc, newTuple]
  refine wpAny_bind (wpAny_newObj_type ?_ (by size_fits))
  refine wpAny_bind (m := firstArgMember _ _) (wpAny_of_eq (a := Value.none) (by first | rfl | (simp only [firstArgMember]; rfl)) ?_)
  refine wpAny_newObj_type ?_ (by size_fits)
  simp only [raiseNew]
  refine wpAny_bind (wpAny_handled ?_)
  first | rw [show A.in1.handled = none from hn] | rw [hn]
  refine wpAny_bind (wpAny_pure (wpAny_throw ?_))
  exact k _ _ (((Heap.SameBut.update ..).extBut.push _).push _) ⟨_, Heap.get?_push_size _ rfl, rfl⟩
end
theorem draws {prog : Program} {w : World} {A : Around} (hn : A.handled = none) (j t : Addr) (d : t ≠ j) (its : Array Value) :
    Draws prog w A j [j, t] its.size (fun i v => its[i]? = some v) (fun i h => h.IsTupleIter j t i ∧ h.IsTuple t its) where
  live := fun _ _ st => let ⟨o, ho, _⟩ := st.1; ⟨o, ho⟩
  frame := fun _ _ _ st hk => ⟨let ⟨o, ho, r⟩ := st.1; ⟨o, hk j (by simp) o ho, r⟩, let ⟨o, ho, r⟩ := st.2; ⟨o, hk t (by simp) o ho, r⟩⟩
  item := fun i s Q E hi st hQ => by
    refine next_item st.1 st.2 (v := its[i]) (by simp [hi]) fun h' q1 q2 => ?_
    exact hQ _ h' s.toks (by simp [hi]) ⟨q1, st.2.extBut q2.extBut d⟩ q2
  done := fun s Q E st hE => next_end hn st.1 st.2 (by simp) hE
theorem newT (t : Addr) (its : Array Value) (n : Nat) (dd : Option Addr) (sl : Array (Option Value)) :
    Meets (Builtin.«enumerate.__new__» ⟨[.type "enumerate", .ref t], []⟩) (fun _ R s => s.heap.get? t = some { cls := .type "tuple", dict := dd, data := .seq its n, slots := sl } ∧
      R (.ok (.ret (.ref (s.heap.push { cls := .type "tuple_iterator", data := .fields #[.ref t, .int 0 0] }).objs.size)))
        { s with heap := (s.heap.push { cls := .type "tuple_iterator", data := .fields #[.ref t, .int 0 0] }).push { cls := .type "enumerate", data := .fields #[.none, .bool false, .ref s.heap.objs.size, rawInt 0, .none, .none] } }) :=
  .of_wp fun prog w A R s h => by
    obtain ⟨hp, g, d, tk, os⟩ := s; obtain ⟨hl, h⟩ := h
    have q0 := sub_enumerate
    have hL : Heap.IsTuple (Shared.heap ⟨hp, g, d, tk, os⟩) t its := ⟨_, hl, rfl, n, rfl⟩
    wp_walk using wpAny_loadPart' hl
    refine wpAny_stack_any fun st => wpAny_pure ?_
    split
    · rename_i c _ _ _ _ _
      cases (c == Value.type "enumerate")
      · wp_walk using wpAny_loadPart' hl, wpAny_pyIter_tuple hL
        exact ⟨_, rfl, h⟩
      · wp_walk using wpAny_loadPart' hl, wpAny_pyIter_tuple hL
        exact ⟨_, rfl, h⟩
    · wp_walk using wpAny_loadPart' hl, wpAny_pyIter_tuple hL
      exact ⟨_, rfl, h⟩
section
variable {prog : Program} {w : World} {A : Around} {E : Value → Shared → Prop} {s : Shared}
theorem make {t : Addr} {its : Array Value} {Q : Value → Shared → Prop} (hL : s.heap.IsTuple t its)
    (h : ∀ h', IsEnum h' (s.heap.objs.size + 1) s.heap.objs.size 0 .none → h'.IsTupleIter s.heap.objs.size t 0 → h'.objs.size = s.heap.objs.size + 2 →
      (∀ b o, s.heap.get? b = some o → h'.get? b = some o) → Q (.ref (s.heap.objs.size + 1)) { s with heap := h' }) : wpAny (model prog w) A (call (.type "enumerate") [.ref t]) Q E s := by
  obtain ⟨⟨c, dct, dt, sl⟩, hl, hc, n, hd⟩ := hL
  replace hc : c = .type "tuple" := hc
  replace hd : dt = .seq its n := hd
  subst hc hd
  refine callType_new F.called_enumerate (by decide) (F.typeCall_enumerate_1 _) (F.newCall_enumerate_1 _) (fun obj => F.args_object_init_2 obj _) F.entry_enumerate_new (newT t its n dct sl) ⟨hl, ?_⟩
  have z1 : (s.heap.push { cls := .type "tuple_iterator", data := .fields #[.ref t, .int 0 0] }).objs.size = s.heap.objs.size + 1 := Heap.size_push ..
  show _ ∧ _
  rw [z1]
  have e1 : IsEnum ((s.heap.push { cls := .type "tuple_iterator", data := .fields #[.ref t, .int 0 0] }).push
      { cls := .type "enumerate", data := .fields #[.none, .bool false, .ref s.heap.objs.size, rawInt 0, .none, .none] }) (s.heap.objs.size + 1) s.heap.objs.size 0 .none := by
    have q := Heap.get?_push_size (s.heap.push { cls := .type "tuple_iterator", data := .fields #[.ref t, .int 0 0] })
      (o := { cls := .type "enumerate", data := .fields #[.none, .bool false, .ref s.heap.objs.size, rawInt 0, .none, .none] }) rfl
    rw [z1] at q; exact q
  exact ⟨⟨_, e1, rfl⟩, h _ e1 ⟨_, Heap.get?_push_of_some _ (Heap.get?_push_size _ rfl), rfl, rfl⟩ (by rw [Heap.size_push, z1]) fun b o x => Heap.get?_push_of_some _ (Heap.get?_push_of_some _ x)⟩
end
def Itet (K : PySem.W.Frag) (a : Addr) : It :=
  ⟨fun i H => ∃ (xs : List V) (x : V), SqT K H a xs ∧ xs[i]? = some x, fun i H v H' => ∃ T x, v = .ref T ∧ H T = none ∧ H' = upd H T (.tup [.int (i : Nat), x]) ∧ ∀ xs, SqT K H a xs → xs[i]? = some x,
    fun i H => ∃ xs : List V, SqT K H a xs ∧ xs.length ≤ i⟩
theorem turn {P : Program} {w : World} {K : PySem.W.Frag} {elts : List Expr} {kk : Nat} {tpos : Pos} (a e it : Addr) :
    Turn P w K (.Tuple elts kk tpos) (Itet K a) [e, it] e (fun i h => (∃ old, IsEnum h e it ((i : Nat) : Int) old) ∧ h.IsTupleIter it a i ∧ e ≠ it ∧ e ≠ a ∧ a ≠ it) where
  mem := by simp
  obj := fun i h st b hb => by
    obtain ⟨⟨old, he⟩, ⟨o, ho, hc, hd⟩, _⟩ := st
    rcases (by simpa using hb : b = e ∨ b = it) with z | z
    · rw [z]; exact ⟨_, he, fun v q => nomatch q⟩
    · rw [z]; exact ⟨o, ho, fun v q => by rw [hd] at q; cases q⟩
  keep := fun i h h' st k => by
    obtain ⟨⟨old, he⟩, ⟨o, ho, r⟩, hne⟩ := st
    exact ⟨⟨old, k e (by simp) _ he⟩, ⟨o, k it (by simp) o ho, r⟩, hne⟩
  item := by
    intro X hP hw hK hc i pins s σ H E I hf st hg
    subst hP hw hK
    obtain ⟨⟨old, he⟩, hit, n1, n2, n3⟩ := st
    obtain ⟨xs, x, hq, hx⟩ := hg
    obtain ⟨its, rv, p, hz⟩ := I.tuple hq
    obtain ⟨u, hu, ru⟩ := rv.get hx
    have hu' : its.toArray[i]? = some u := by simpa using hu
    have lt1 : e < s.heap.objs.size := Heap.lt_size he
    have lt2 : it < s.heap.objs.size := by obtain ⟨_, q, _⟩ := hit; exact Heap.lt_size q
    refine wpAny_pyNext_enum_itemD (draws (A := X.A.in1) (I.ok.hd hc) it a n3 its.toArray) he ⟨hit, p⟩ (by have := (Array.getElem?_eq_some_iff.mp hu').1; exact this) n1 (by simp [n1, n2]) fun x' h' tk hP ho hst hT hsz hk => ?_
    have ex : x' = u := by
      have hP' : its.toArray[i]? = some x' := hP
      rw [hu'] at hP'; exact (Option.some.inj hP').symm
    subst ex
    refine ⟨_, rfl, wpAny_letOwnedTupleGo_enum (s := { s with heap := h', toks := tk + 1 }) ho fun h'' he' sb => ?_⟩
    have hT2 : h''.get? s.heap.objs.size = some { cls := .type "tuple", data := .seq #[.int i tk, x'] } := (sb.2 _ (Nat.ne_of_gt lt1)).trans hT
    have new : ObjOk X.prog X.w (upd H s.heap.objs.size (.tup [.int (i : Nat), x])) h'' s.heap.objs.size (.tup [.int (i : Nat), x]) :=
      ⟨by show 2 ≤ sizeLine; decide, [.int i tk, x'], .cons ⟨_, rfl⟩ (.cons ru .nil), ⟨_, hT2, rfl, _, rfl⟩⟩
    have I1 : Inv X pins σ (upd H s.heap.objs.size (.tup [.int (i : Nat), x])) { s with heap := h'', toks := tk + 1 } :=
      I.turnedNew (ch := [e, it]) (fun b ob hb q => (sb.2 b (fun z => hb (by simp [z]))).trans (hk b ob (fun z => hb (by simp [z])) (fun z => hb (by simp [z])) q)) hf (Nat.le_refl _) new
    refine ⟨.ref s.heap.objs.size, _, I1, rfl, ⟨_, x, rfl, I.hok.fresh (Nat.le_refl _), rfl, fun ys hy => by rw [I.tuple_inj hy hq]; exact hx⟩, ⟨⟨x', ?_⟩, ?_, n1, n2, n3⟩, fun b hb => ?_⟩
    · have e1 : ((i + 1 : Nat) : Int) = (i : Int) + 1 := by omega
      rw [e1]; exact he'
    · obtain ⟨o, ho2, r⟩ := hst.1
      exact ⟨o, (sb.2 it (Ne.symm n1)).trans ho2, r⟩
    · have hb' : b < s.heap.objs.size := by
        rcases (by simpa using hb : b = e ∨ b = it) with z | z
        · rw [z]; exact lt1
        · rw [z]; exact lt2
      rw [upd_ne (Nat.ne_of_lt hb')]
      exact (hf b hb).1
  done := by
    intro X hP hw hK hc i pins s σ H E I hf st hg
    subst hP hw hK
    obtain ⟨⟨old, he⟩, hit, n1, n2, n3⟩ := st
    obtain ⟨xs, hq, hx⟩ := hg
    obtain ⟨its, rv, p, hz⟩ := I.tuple hq
    obtain ⟨f0, f1, f2, f3, f4, f5⟩ := hf it (by simp)
    have hl := rv.length
    have hend : its.toArray[i]? = none := by simp; omega
    have hT : s.TypeIs (.ref e) "enumerate" := ⟨_, he, rfl⟩
    unfold pyNext
    refine wpAny_bind (wpAny_attempt (wpAny_callSpecial?_slot (name := Str.ofString "__next__") hT F.slot_enumerate_next
      (wpAny_call_entry F.slot_enumerate_next hT F.entry_enumerate_next ?_ (F.args_enumerate_next_1 _))))
    show wpAny _ _ (field (.ref e) 2 >>= _) _ _ s
    refine wpAny_bind (wpAny_field he rfl (x := .ref it) rfl ?_)
    refine wpAny_bind (next_end (A := X.A.in1) (I.ok.hd hc) hit p hend fun h' x q1 q2 => ?_)
    obtain ⟨o, ho, hcl⟩ := q2
    refine wpAny_bind (wpAny_isInstance (T := "StopIteration") (b := true) ⟨o, ho, hcl⟩ isSubtype_stop ?_)
    exact wpAny_pure ⟨rfl, I.turned (t' := s.toks) (fun b o hb q => q1 b o hb q) f0 f1 f3 f4 f5⟩
  self := fun A i s Q E st h => let ⟨⟨_, he⟩, _⟩ := st; wpAny_pyIter_enum he h
def iEnumT (K : PySem.W.Frag) (ta : TA) : TI := fun σ H R => ta σ H fun vs H1 => ∃ a xs, vs = [.ref a] ∧ SqT K H1 a xs ∧ R (Itet K a) H1
theorem pi_enumT {X : Cx} {e : Expr} {ta : TA} {p pos tpos : Pos} {elts : List Expr} {kk : Nat} (hg : Gl X "enumerate") (hm : X.mg "enumerate" = none) (ha : PA X [e] ta) (hs : starEach [e] X.env = [(false, eval e X.env)] := by rfl) :
    PI X (.Tuple elts kk tpos) (.Call (.Name "enumerate" p) [e] [] pos) (iEnumT X.K ta) := by
  refine ⟨fun pins s σ H R I h => ?_⟩
  refine Call_ (ld_blt I hg hm boot_enumerate (PyProof.Rows.callWith_type1 (thn (ha.run pos pins s σ H _ I h) fun us s1 ⟨vs, H1, I1, r1, q1⟩ => ?_) hs rfl))
  obtain ⟨a, xs, ex, hq, q⟩ := q1
  subst ex
  cases r1 with
  | cons r rr =>
    cases rr
    cases r
    obtain ⟨its, rv, p', hz⟩ := I1.tuple hq
    have lta : a < s1.heap.objs.size := by obtain ⟨_, q, _⟩ := p'; exact Heap.lt_size q
    refine make p' fun h' he hit hsz hk => wpAny_pyIter_enum he ?_
    have I2 : Inv X pins σ H1 { s1 with heap := h' } := I1.kept (t' := s1.toks) hk
    refine ⟨s1.heap.objs.size + 1, [s1.heap.objs.size + 1, s1.heap.objs.size], _, _, H1, rfl, I2, turn a (s1.heap.objs.size + 1) s1.heap.objs.size, ⟨⟨.none, he⟩, hit, Nat.succ_ne_self _, Nat.ne_of_gt (Nat.lt_succ_of_lt lta), Nat.ne_of_lt lta⟩, fun b hb => ?_, q⟩
    have hle : s1.heap.objs.size ≤ b := by
      rcases (by simpa using hb : b = s1.heap.objs.size + 1 ∨ b = s1.heap.objs.size) with z | z
      · rw [z]; exact Nat.le_add_right _ _
      · rw [z]; exact Nat.le_refl _
    exact I1.fpOk hle (I1.hok.fresh hle)
end ET
namespace MI
open PySem PySem.Spec PyProof.Rows L2 JB
def gEnumA (a : ME) : MI1 := fun m h => (a m h).bind fun x h1 => match x with
  | .fls xs => .ok (it1E xs) h1
  | .tup xs => .ok (it1E xs) h1
  | .ktp xs => .ok (it1E xs) h1
  | .ref j => match h1.get j with
    | some (.lst _) => .ok (it1EL j) h1
    | _ => .bad
  | _ => .bad
section
variable {X : Cx} {T : Nat → Addr} {E : XK} {e a : Expr} {ga : ME} {pos p : Pos}
theorem rI_enumT {Z : Zt} {ρ ρ' : List Addr} {h' : MH} {H H' : Hp} {a : Addr} {i : Nat} {xs : List MV} {vs : List V} (R : HR Z ρ' h' H') (sq : SqT Z.K H' a vs) (r : RVs Z ρ' H' xs vs) :
    match some (xs[i]?.map fun x => MV.tup [.int (i : Nat), x]) with
    | none => True
    | some none => (ET.Itet Z.K a).stop i H'
    | some (some x) => (ET.Itet Z.K a).go i H' ∧ ∀ v H'', (ET.Itet Z.K a).yld i H' v H'' → ∃ ρ'', Ext ρ' H' ρ'' H'' ∧ HR Z ρ'' h' H'' ∧ RV Z ρ'' H'' x v := by
  cases g : xs[i]? with
  | none => exact ⟨vs, sq, r.none g⟩
  | some x =>
    obtain ⟨v, h1, h2⟩ := r.get g
    refine ⟨⟨vs, v, sq, h1⟩, fun w H'' y => ?_⟩
    obtain ⟨t, x', rfl, ht, rfl, y⟩ := y
    have z := y vs sq
    rw [h1] at z
    cases z
    exact ⟨ρ', Ext.still1 ht, R.still1 ht, .tup upd_same (.cons (.int _) (.cons (h2.ext (Ext.still1 ht)) .nil))⟩
theorem ji_enumT {elts : List Expr} {kk : Nat} {tpos : Pos} (hg : Gl X "enumerate") (hm : X.mg "enumerate" = none) (ha : JE X T E a ga) (hs : starEach [a] X.env = [(false, eval a X.env)] := by rfl) :
    JI X T E (.Tuple elts kk tpos) (.Call (.Name "enumerate" p) [a] [] pos) (gEnumA ga) := by
  refine PI.le (PI.or (ET.pi_enumT hg hm (pa_cons ha pa_nil hs) hs) (ji_enum hg hm ha hs)) fun σ H R ⟨ρ, m, h, s, q⟩ => ?_
  by_cases c : ∀ x h1, ga m h = .ok x h1 → isL x = false
  · refine .inl (show tE ⟨X.K, T⟩ E ga σ H _ from ⟨ρ, m, h, s, ?_⟩)
    have q' : Post ⟨X.K, T⟩ (rI ⟨X.K, T⟩) ρ H R E ((ga m h).bind fun x h1 => match x with
      | .fls xs => .ok (it1E xs) h1
      | .tup xs => .ok (it1E xs) h1
      | .ktp xs => .ok (it1E xs) h1
      | .ref j => match h1.get j with
        | some (.lst _) => .ok (it1EL j) h1
        | _ => .bad
      | _ => .bad) := q
    generalize ga m h = o at q' c ⊢
    cases o with
    | bad => exact q'
    | er x h1 => exact q'
    | ok x h1 =>
      intro ρ1 H1 v e1 r1 rv
      have c' := c x h1 rfl
      cases rv with
      | @tup ad xs vs h2 r2 =>
        have q2 : Post ⟨X.K, T⟩ (rI ⟨X.K, T⟩) ρ H R E (.ok (it1E xs) h1) := q'
        exact ⟨ad, vs, rfl, .inl (.inl h2), q2 ρ1 H1 _ e1 r1 fun i ρ' h' H' e R' => rI_enumT (ρ := ρ1) (H := H1) R' (.inl (.inl (e.still _ _ h2 trivial))) (r2.ext e)⟩
      | @ktp ad xs vs h2 r2 =>
        have q2 : Post ⟨X.K, T⟩ (rI ⟨X.K, T⟩) ρ H R E (.ok (it1E xs) h1) := q'
        exact ⟨ad, vs, rfl, ktp_sq h2, q2 ρ1 H1 _ e1 r1 fun i ρ' h' H' e R' => rI_enumT (ρ := ρ1) (H := H1) R' (ktp_sq h2) (r2.ext e)⟩
      | _ => cases c'
  · refine .inr ⟨ρ, m, h, s, ?_⟩
    have q' : Post ⟨X.K, T⟩ (rI ⟨X.K, T⟩) ρ H R E (gEnumA ga m h) := q
    unfold gEnumA at q'
    unfold gEnum
    generalize ga m h = o at q' c ⊢
    cases o with
    | bad => exact q'
    | er x h1 => exact q'
    | ok x h1 =>
      cases x with
      | tup xs => exact absurd (fun x h2 z => by cases z; rfl) c
      | ktp xs => exact absurd (fun x h2 z => by cases z; rfl) c
      | _ => exact q'
end
end MI
set_option Elab.async false
set_option linter.all false
set_option maxRecDepth 100000
set_option maxHeartbeats 400000
namespace MX
open PySem PySem.Spec PyProof.Rows L2
section
variable {prog : Program} {w : World} {A : Around} {R : Result → Shared → Prop} {I : Addr} {fp wr : List Addr} {n : Nat} {P : Nat → Value → Prop} {St : Nat → Heap → Prop} {z : Value}
end
section
variable {prog : Program} {w : World} {A : Around} {E : Value → Shared → Prop} {s : Shared} {z : Value}
end
end MX
set_option Elab.async false
set_option linter.all false
set_option maxRecDepth 100000
set_option maxHeartbeats 4000000
namespace MX
open PySem PySem.Spec PyProof.Rows L2
end MX
namespace MI
open PySem PySem.Spec PyProof.Rows L2 JB
section
variable {X : Cx} {T : Nat → Addr} {E : XK} {e z a b : Expr} {ge gz ga gb : ME} {pos p kp : Pos} {k : Str}
end
end MI
set_option Elab.async false
set_option linter.all false
set_option maxRecDepth 100000
set_option maxHeartbeats 4000000
namespace MI
open PySem PySem.Spec PyProof.Rows L2 JB
def gAug (i : Nat) (f : Int → Int → Int) (a : ME) : MS := fun m h => match m[i]? with
  | some (some (.int p)) => (a m h).bindS fun y h1 => match y with
    | .int q => .nx (m.set i (some (.int (f p q)))) h1
    | _ => .bad
  | _ => .bad
section
variable {X : Cx} {T : Nat → Addr} {E : XK} {e o a f : Expr} {ge go ga gf : ME} {pos pos' apos cpos : Pos} {x : Str} {i : Nat}
theorem js_aug {op : Operator} {g : Int → Int → Int} (ho : PIp X op (ipI g)) (hN : X.N.Nodup) (hi : X.N[i]? = some x) (hx : Loc X.env.scope x) (he : JE X T E e ge)
    (hf : X.fn x = true ∨ X.env.scope.names.lookup x = some .local := by first | exact .inl rfl | exact .inr rfl | assumption) : JS X T E (.AugAssign (.Name x pos') op e pos) (gAug i g ge) :=
  PS.le (ps_aug hN hi hx he ho hf) fun D σ H ⟨ρ, m, h, s, q⟩ => by
    unfold gAug at q
    cases k : m[i]? with
    | none => rw [k] at q; exact q.elim
    | some ov =>
      cases ov with
      | none => rw [k] at q; exact q.elim
      | some xv =>
        rw [k] at q
        obtain ⟨v, k1, k2⟩ := s.slot i xv k
        cases k2 with
        | int p =>
          refine ⟨_, k1, sE s q fun ρ1 h1 H1 y w s1 e1 r1 q1 => ?_⟩
          cases r1 with
          | int j => exact ⟨p, j, rfl, rfl, q1 ρ1 H1 _ .refl (s1.set i (.int _))⟩
          | _ => exact q1.elim
        | _ => exact q.elim
def gDget2 (d k x : ME) : ME := fun m h => (d m h).bind fun z h1 => if isD h1 z = true then (k m h1).bind fun y h2 => (x m h2).bind fun u h3 => match dGet h3 z y with
  | some (some v) => .ok v h3
  | some none => .ok u h3
  | none => .bad
  else .bad
theorem je_dget2 (hu : X.A.units + 1 < cLine) (ho : JE X T E o go) (ha : JE X T E a ga) (hf : JE X T E f gf) (m2 : M2 X o "get" apos a f cpos) : JE X T E (.Call (.Attribute o "get" apos) [a, f] [] cpos) (gDget2 go ga gf) :=
  PE.le (pe_dget2 hu ho ha hf m2) fun σ H Q ⟨ρ, m, h, s, q⟩ => stepE s q fun ρ1 h1 H1 x v s1 e1 r1 q1 => by
    by_cases d : isD h1 x = true
    · rw [if_pos d] at q1
      obtain ⟨a, rfl, hd⟩ := isD_ok s1.hr r1 d
      refine ⟨a, rfl, hd, stepE s1 q1 fun ρ2 h2 H2 y w s2 e2 r2 q2 => stepE s2 q2 fun ρ3 h3 H3 u z s3 e3 r3 q3 => ?_⟩
      cases k : dGet h3 x y with
      | none => rw [k] at q3; exact q3.elim
      | some oo =>
        rw [k] at q3
        obtain ⟨aa, o', ea, h4, h5⟩ := dGet_ok s3.hr ((r1.ext e2).ext e3) (r2.ext e3) k
        cases ea
        rcases h5 with ⟨rfl, rfl⟩ | ⟨y', w', rfl, rfl, h6⟩
        · exact ⟨none, h4, Post.ok (R := rV ⟨X.K, T⟩) (a := u) q3 s3.hr r3⟩
        · exact ⟨some w', h4, Post.ok (R := rV ⟨X.K, T⟩) (a := y') q3 s3.hr h6⟩
    · rw [if_neg d] at q1; exact q1.elim
end
theorem pass_E00 {P : Program} {w : World} {X : Cx} : Passes (L2.CX P w) X E00 := fun _ _ _ _ _ _ _ ⟨_, _, _, _, _, _, _, _, _, _, _, _, f⟩ => f.elim
section
variable {X : Cx} {T : Nat → Addr} {E : XK} {c : Expr} {gc : MT}
theorem PTs.le {es : List Expr} {t t' : TT} (p : PTs X es t) (k : ∀ σ H Q, t' σ H Q → t σ H Q) : PTs X es t' := ⟨fun pins s σ H Q I h => p.run pins s σ H Q I (k σ H Q h)⟩
theorem jts_nil : PTs X [] (tT ⟨X.K, T⟩ E gYes) := PTs.le pts_nil fun σ H Q ⟨ρ, m, h, s, q⟩ => Post.ok (R := rB) (a := true) q s.hr rfl
theorem jts_one (h : JT X T E c gc) : PTs X [c] (tT ⟨X.K, T⟩ E gc) := pts_one h
end
section
variable {X : Cx} {T : Nat → Addr} {E : XK} {elt tg iter : Expr} {ifs : List Expr} {scope : Scope} {pos : Pos} {gi : MI1} {c : CT} {gt : MT} {ge : ME} {ow : List Nat}
theorem je_lcA (own : List (Str × Nat)) (how : own.map (·.2) = ow) (hc : X.calm = true) (hN : X.N.Nodup) (hi : JI X T E tg iter gi) (ok : BlkOk X.N X.env.scope scope own)
    (hg : ∀ (s : Shared) (H : Hp) (C : Addr) (cl : List (Str × Addr)) (fp : List Addr), PG (X.blk s H scope (compEnvC scope cl C X.env) fp) tg (tCT X.K c))
    (ht : ∀ (s : Shared) (H : Hp) (C : Addr) (cl : List (Str × Addr)) (fp : List Addr), PTs (X.blk s H scope (compEnvC scope cl C X.env) fp) ifs (tT ⟨X.K, T⟩ E00 gt))
    (he : ∀ (s : Shared) (H : Hp) (C : Addr) (cl : List (Str × Addr)) (fp : List Addr), JE (X.blk s H scope (compEnvC scope cl C X.env) fp) T E00 elt ge)
    (hv : ∀ i ∈ c.slots, i ∈ ow) (hs : ∀ x, foldedSetIterable iter X.env x = pure x := by intro _; rfl) :
    JE X T E (.ListComp elt [⟨tg, iter, ifs, 0⟩] scope pos) (gLc gi c gt ge ow) := by
  subst how
  exact je_lc hc hN hi ok hg ht he hv hs
theorem js_setLcA {i : Nat} {y : Str} {py spos : Pos} (own : List (Str × Nat)) (how : own.map (·.2) = ow) (hy : X.N[i]? = some y) (hyl : X.env.scope.names.lookup y = some .local) (hc : X.calm = true) (hN : X.N.Nodup)
    (hsw : swapsWith (.ListComp elt [⟨tg, iter, ifs, 0⟩] scope pos) (some (.Name y py)) spos.line X.env = pure true) (hi : JI X T E tg iter gi) (ok : BlkOk X.N X.env.scope scope own)
    (hg : ∀ (s : Shared) (H : Hp) (C : Addr) (cl : List (Str × Addr)) (fp : List Addr), PG (X.blk s H scope (compEnvC scope cl C X.env) fp) tg (tCT X.K c))
    (ht : ∀ (s : Shared) (H : Hp) (C : Addr) (cl : List (Str × Addr)) (fp : List Addr), PTs (X.blk s H scope (compEnvC scope cl C X.env) fp) ifs (tT ⟨X.K, T⟩ E00 gt))
    (he : ∀ (s : Shared) (H : Hp) (C : Addr) (cl : List (Str × Addr)) (fp : List Addr), JE (X.blk s H scope (compEnvC scope cl C X.env) fp) T E00 elt ge)
    (hv : ∀ i ∈ c.slots, i ∈ ow) (hs : ∀ x, foldedSetIterable iter X.env x = pure x := by intro _; rfl) :
    JS X T E (.Assign [.Name y py] (.ListComp elt [⟨tg, iter, ifs, 0⟩] scope pos) spos) (gAsg (gLc gi c gt ge ow) (tgName i)) := by
  subst how
  exact js_setLc hy hyl hc hN hsw hi ok hg ht he hv hs
end
section
variable {P : Program} {w : World} {K : PySem.W.Frag} {mg : Str → Option Value} {base : Heap} {T : Nat → Addr} {k : Nat} {f : Addr}
variable {x qual : Str} {params : Arguments} {body : List Stmt} {scope : Scope} {dvs : List V} {kws : List (Str × V)} {fd : FuncData} {N ps : List Str}
theorem def_MD (F : FunD K x qual params body scope dvs kws f fd) (S : FnScope N ps scope) (gs : MS)
    (hb : ∀ (cdv : Value) (A : Around) (outer : List Env) (s : Shared) (H : Hp) (E : XK),
      JB.Still (A.deeper (envOfC qual scope s.heap.objs.size f cdv)) → Room k (A.deeper (envOfC qual scope s.heap.objs.size f cdv)) →
      JSs (cxOf (L2.CX P w) P w K mg base N qual scope f cdv A outer s H E) T E body gs) :
    FnG P w K mg base (L2.CX P w) (k + 1) f fd ps (spM ⟨K, T⟩ ps.length (gBody N.length gs)) := by
  obtain ⟨oc, od, dV, kV, doc, pm, an, cdv, ct, osl, rfl, lk, hcd, _, _⟩ := F.ex
  refine fn_g lk hcd S (fun _ _ _ _ ⟨_, _, _, _, _, h, _⟩ => h) fun A outer s H vs Q E hst hr ⟨ρ, h, as, r, a, hl, p⟩ => ?_
  exact ⟨_, hb cdv A outer s H E hst hr, ρ, _, h, start_M r a, body_M p⟩
theorem FM.of0 {n : Nat} {g : MF} (F : FunD K x qual params body scope [] kws f fd) (G : FnG P w K mg base (L2.CX P w) k f fd ps (spM ⟨K, T⟩ ps.length g)) (hn : ps.length = n)
    (hb : ∀ (kV doc pm : Value) (an : Option Addr) (cdv ct : Value) (us : List Value), us.length = ps.length → bindArgs (PySem.W.fnOf x qual params body scope .none kV doc pm an cdv ct) ⟨us, []⟩ = pure (ps.zip us)) : FM P w K mg base T k f n [] g :=
  ⟨fd, ps, [], [], hn, G, F.kp, F.bindsN hb, .nil, fun _ _ => .nil⟩
theorem FM.ofD {n j m : Nat} {g : MF} {dm : List MV} (F : FunD K x qual params body scope dvs kws f fd) (G : FnG P w K mg base (L2.CX P w) k f fd ps (spM ⟨K, T⟩ ps.length g)) (hn : ps.length = n) (hd : dvs ≠ []) (hm : m + (dvs.length - j) = ps.length)
    (hb : ∀ (T : Addr) (kV doc pm : Value) (an : Option Addr) (cdv ct : Value) (us its : List Value), us.length = m → its.length = dvs.length →
      ∃ k, bindArgs (PySem.W.fnOf x qual params body scope (.ref T) kV doc pm an cdv ct) ⟨us, []⟩ = seqItems? (.ref T) >>= k ∧ k (some its.toArray) = pure (ps.zip (us ++ its.drop j)))
    (hr : ∀ ρ H, RVs ⟨K, T⟩ ρ H dm (dvs.drop j)) : FM P w K mg base T k f n dm g := by
  obtain ⟨ds, h1, h2⟩ := F.binds1 m j hd hm hb
  exact ⟨fd, ps, ds, dvs.drop j, hn, G, F.kp, h2, h1, hr⟩
end
theorem mt_extA {X : Cx} : MtR X "list.extend" (fun x vs H Q => rExtend x vs H Q ∨ rExtT X.K x vs H Q) := by
  intro pins s σ H x xs v us Q I r1 r2 h
  rcases h with h | h
  · exact mt_extend pins s σ H x xs v us Q I r1 r2 h
  · exact mt_extT pins s σ H x xs v us Q I r1 r2 h
inductive Fc where
  | etup (p : Str × Option Str) (i : Nat)
  | raw (f : PySem.W.Frag → Bool)
def etupB (K : PySem.W.Frag) (a : Addr) : Bool := match K.lookup a with
  | some ⟨.type c, _, .seq its _, _⟩ => decide (c = "tuple") && its.isEmpty
  | _ => false
theorem etupB_ok {K : PySem.W.Frag} {a : Addr} (h : etupB K a = true) (H : Hp) : SqT K H a [] := by
  unfold etupB at h
  cases q : K.lookup a with
  | none => rw [q] at h; cases h
  | some o =>
    obtain ⟨oc, od, dt, osl⟩ := o
    rw [q] at h
    cases oc with
    | type c =>
      cases dt with
      | seq its n =>
        obtain ⟨h1, h2⟩ := He.ba (show (decide (c = "tuple") && its.isEmpty) = true from h)
        have e : its = #[] := Array.isEmpty_iff.mp h2
        subst e
        exact .inr ⟨_, _, n, q, congrArg Value.type (of_decide_eq_true h1), rfl, Nat.zero_le _, .nil⟩
      | _ => cases h
    | _ => cases dt <;> cases h
def Fc.ok (K : PySem.W.Frag) : Fc → Bool
  | .etup p i => etupB K (He.dflAt p i K)
  | .raw f => f K
def hookM (n : Nat) (fa : List He.Fa) (fn : List He.DefD) (fc : List Fc) : PySem.W.Hook where
  α := He.AlD × Bool
  obs := fun s => (He.obsD fa fn (He.frG s.heap.get? (He.asD s.heap.get? n)), fc.all fun f => f.ok (He.frG s.heap.get? (He.asD s.heap.get? n)))
  val := fun _ => (He.valD fn, true)
  says := fun _ h => ∃ K : PySem.W.Frag, K.In h ∧ He.SaysD fa fn K ∧ fc.all (fun f => f.ok K) = true
  of := fun _ _ e => ⟨_, He.frG_in, congrArg Prod.fst e, congrArg Prod.snd e⟩
  keeps := fun _ _ _ ⟨K, hK, c⟩ k => ⟨K, PySem.W.Frag.In.keeps hK k, c⟩
def obM (n : Nat) (fa : List He.Fa) (fn : List He.DefD) (fc : List Fc) (g : Addr → Option Obj) : He.AlD × Bool := (He.obsD fa fn (He.frG g (He.asD g n)), fc.all fun f => f.ok (He.frG g (He.asD g n)))
theorem obM_eq {n : Nat} {fa : List He.Fa} {fn : List He.DefD} {fc : List Fc} {g : Addr → Option Obj} {s : Shared} (h : ∀ a, g a = s.heap.get? a) : obM n fa fn fc g = (hookM n fa fn fc).obs s := by
  have e : g = s.heap.get? := funext h
  rw [e] <;> rfl
structure Fx (fa : List He.Fa) (fn : List He.DefD) (fc : List Fc) (K : PySem.W.Frag) (mg : Str → Option Value) : Prop where
  ex : ∃ h : Heap, K.In h ∧ h.Ns mainGlobals mg
  c : He.SaysD fa fn K
  x : fc.all (fun f => f.ok K) = true
section
variable {fa : List He.Fa} {fn : List He.DefD} {fc : List Fc} {K : PySem.W.Frag} {mg : Str → Option Value}
theorem Fx.glo (F : Fx fa fn fc K mg) (i : Nat) {x : Str} (h : fa[i]? = some (.glo x) := by rfl) : mg x = some (.ref (He.ga K x)) := by
  obtain ⟨_, X, G⟩ := F.ex; exact He.glo_ok X G (F.c.fact i h)
theorem Fx.free (F : Fx fa fn fc K mg) (i : Nat) {x : Str} (h : fa[i]? = some (.free x) := by rfl) : mg x = none := by
  obtain ⟨_, X, G⟩ := F.ex; exact He.free_ok X G (F.c.fact i h)
theorem Fx.int (F : Fx fa fn fc K mg) (i : Nat) {x : Str} {n : Int} (h : fa[i]? = some (.int x n) := by rfl) : ∃ t, mg x = some (.int n t) := by
  obtain ⟨_, X, G⟩ := F.ex; exact He.int_ok X G (F.c.fact i h)
theorem Fx.cls (F : Fx fa fn fc K mg) (i : Nat) {x : Str} (h : fa[i]? = some (.cls x) := by rfl) : Cls K (He.ga K x) := He.cls_ok (F.c.fact i h)
theorem Fx.noat (F : Fx fa fn fc K mg) (i : Nat) {x f : Str} (h : fa[i]? = some (.noat x f) := by rfl) : NoAttr K (He.ga K x) f := He.noat_ok (F.c.fact i h)
theorem Fx.meth (F : Fx fa fn fc K mg) (i : Nat) {x m : Str} (h : fa[i]? = some (.meth x m) := by rfl) : Meth K (He.ga K x) m (He.ma K (He.ga K x) m) := He.meth_ok (F.c.fact i h)
theorem Fx.mkr (F : Fx fa fn fc K mg) (i : Nat) {x : Str} (h : fa[i]? = some (.mkr x) := by rfl) : Mk K (He.ga K x) (He.ma K (He.ga K x) "__init__") := He.mkr_ok (F.c.fact i h)
theorem Fx.extra (F : Fx fa fn fc K mg) (i : Nat) {f : Fc} (h : fc[i]? = some f := by rfl) : f.ok K = true := List.all_eq_true.mp F.x f (List.mem_of_getElem? h)
end
theorem walk_GE {l : PySem.W.OpenLaw} {n k : Nat} {q : Program} {loose : List Str} {XP : (Str → Option Value) → Heap → Prop} {YP : World → Heap → Prop} {d : DefRec} {x : Str}
    (hn : l.most = some n) (hn2 : n ≤ sizeLine) (hdf : d.params.defaults = []) (hr : Room k callerA)
    (F : ∀ (w : World) (mg : Str → Option Value) (fa : Addr) (h : Heap), YP w h → h.Ns mainGlobals mg → mg d.name = some (.ref fa) →
      ∃ (K : PySem.W.Frag) (fd : FuncData) (sp : Sp), K.In h ∧ (∀ (s : Shared) (u : Value), BindsTo s fd ⟨[u], []⟩ [(x, u)]) ∧
        (∀ (H : Hp) (a : Addr) (ns : List Int), ns.length ≤ n → Only H → SqL K H a (ns.map V.int) → sp [.ref a] H (fun v _ => v = .bl true) fun _ _ _ => False) ∧
        ∀ base : Heap, K.In base → base.Ns mainGlobals mg → FnG l.prog w K mg base (L2.CX l.prog w) k fa fd [x] sp) :
    PySem.W.WalkO q loose XP YP l.row.toRowW d [] (fun f vs => PySem.call f vs) := by
  refine Att.attach_call hn hdf fun w s₀ s₁ mg mb fa o pm cd doc a vs ns G Y ho hd hcd hmg hobj hints hlen hg => ?_
  obtain ⟨K, fd, sp, KX, hb, hsp, hF⟩ := F w mg fa _ Y G.T.g hmg
  exact law_callG KX G.T.g G.T.b G.T.builtins G.T.nolimit hg hobj hints (Nat.le_trans hlen hn2) hr hF hb (fun H hO hS => hsp H a ns hlen hO hS)
    fun _ _ _ ⟨_, _, _, _, _, _, _, _, _, _, _, _, f⟩ => f
theorem fz_of {K : PySem.W.Frag} {H : Hp} {a : Addr} {vs : List V} (o : Only H) (h : SqL K H a vs) : FzL K H a vs := by
  rcases h with (h | ⟨ob, h⟩) | h
  · rcases o a with z | ⟨ob, xs, z⟩
    · rw [h] at z; cases z
    · rw [h] at z; cases z
  · exact .inl ⟨ob, h⟩
  · exact .inr (.inr h)
theorem law_sp {Z : Zt} {g : MF} {H : Hp} {a : Addr} {ns : List Int} {h' : MH} {E : XK} (o : Only H) (s : SqL Z.K H a (ns.map V.int)) (e : g [.fls (ns.map .int)] .empty = .ok (.bl true) h') : spM Z 1 g [.ref a] H (fun v _ => v = .bl true) E :=
  ⟨[], .empty, [.fls (ns.map .int)], HR.nil, .cons (.fls (fz_of o s) (RVs.ints ns)) .nil, rfl, by
    rw [e]
    intro ρ' H' b e r q
    cases q
    rfl⟩
end MI
set_option Elab.async false
set_option linter.all false
set_option maxRecDepth 100000
set_option maxHeartbeats 4000000
namespace TM
open PySem PySem.Spec PyProof.Rows L2
theorem mul1 (l : Addr) (its : Array Value) (n : Nat) (dd : Option Addr) (sl : Array (Option Value)) (x : Int) (u : Tok) (q0 : (decide (x < -(2 ^ 63)) || decide (x ≥ 2 ^ 63)) = false) (q1 : (its.isEmpty || x == 1) = true) :
    Meets (Builtin.«tuple.__mul__» ⟨[.ref l, .int x u], []⟩) (fun _ R s => s.heap.get? l = some { cls := .type "tuple", dict := dd, data := .seq its n, slots := sl } ∧ R (.ok (.ret (Value.ref l))) s) :=
  .of_wp fun prog w A R s h => by
    obtain ⟨hp, g, d, tk, os⟩ := s
    obtain ⟨hl, h⟩ := h
    have f1 := AutoSeq1.idx_int
    wp_walk using wpAny_loadPart' hl
    repeat (first
      | (refine wpAny_ite_false (decide_eq_false (by rw [q0]; exact Bool.false_ne_true)) ?_; wp_walk using wpAny_loadPart' hl)
      | (refine wpAny_ite_true (decide_eq_true q1) ?_; wp_walk using wpAny_loadPart' hl))
    exact ⟨_, rfl, h⟩
theorem mul0 (l : Addr) (its : Array Value) (n : Nat) (dd : Option Addr) (sl : Array (Option Value)) (x : Int) (u : Tok) (q0 : (decide (x < -(2 ^ 63)) || decide (x ≥ 2 ^ 63)) = false) (q1 : (its.isEmpty || x == 1) = false) (q2 : (decide (x ≤ 0) || its.isEmpty) = true) :
    Meets (Builtin.«tuple.__mul__» ⟨[.ref l, .int x u], []⟩) (fun _ R s => s.heap.get? l = some { cls := .type "tuple", dict := dd, data := .seq its n, slots := sl } ∧
      R (.ok (.ret (Value.ref s.heap.objs.size))) { s with heap := s.heap.push { cls := Value.type "tuple", data := Data.seq #[] }, toks := s.toks }) :=
  .of_wp fun prog w A R s h => by
    obtain ⟨hp, g, d, tk, os⟩ := s
    obtain ⟨hl, h⟩ := h
    have f1 := AutoSeq1.idx_int
    wp_walk using wpAny_loadPart' hl
    repeat (first
      | (refine wpAny_ite_false (decide_eq_false (by rw [q0]; exact Bool.false_ne_true)) ?_; wp_walk using wpAny_loadPart' hl)
      | (refine wpAny_ite_false (decide_eq_false (by rw [q1]; exact Bool.false_ne_true)) ?_; wp_walk using wpAny_loadPart' hl)
      | (refine wpAny_ite_true (decide_eq_true q2) ?_; wp_walk using wpAny_loadPart' hl)
      | (refine wpAny_ite_false (decide_eq_false (by decide)) ?_; wp_walk using wpAny_loadPart' hl))
    exact ⟨_, rfl, h⟩
def rRep01 (K : PySem.W.Frag) : R2 := fun x y H Q => ∃ l k xs, x = .ref l ∧ y = .int k ∧ SqT K H l xs ∧ xs ≠ [] ∧ -1000 ≤ k ∧ k ≤ 1 ∧ (k = 1 → Q (.ref l) H) ∧ (k ≤ 0 → ∀ p, H p = none → Q (.ref p) (upd H p (.tup [])))
section
variable {X : Cx}
theorem op_rep01 : OpR X (binaryOp .Mult) (rRep01 X.K) := by
  intro pins s σ H x y v u Q I rx ry h
  obtain ⟨l, k, xs, rfl, rfl, hT, hne, h1, h2, qa, qb⟩ := h
  cases rx
  obtain ⟨t, rfl⟩ := ry
  obtain ⟨its, r, ⟨⟨cls, dd, data, sl⟩, ho, hc, n, hd⟩, hs⟩ := I.tuple hT
  simp only at hc hd
  subst hc hd
  have hle : its.length = xs.length := r.length.symm
  have hi : its.toArray.isEmpty = false := by
    cases its with
    | nil => exact absurd (List.eq_nil_of_length_eq_zero hle.symm) hne
    | cons a b => rfl
  have q0 : (decide (k < -(2 ^ 63)) || decide (k ≥ 2 ^ 63)) = false := by
    rw [decide_eq_false (by omega), decide_eq_false (by omega)] <;> rfl
  refine wpAny_binaryOp_repeat_ref (T := "tuple") (U := "int") (by decide) ⟨_, ho, rfl⟩ (fun s' => typeIs_int s' k t) noFill_tuple_mul F.fills_int_mul F.slot_int_rmul repeat_tuple F.slot_int_index.lookup
    (call_meets F.slot_int_rmul (typeIs_int s k t) F.entry_int_rmul (F.args_int_rmul_2 _ _) (int_rmul_tuple k t l its.toArray n dd sl) ⟨ho, rfl, ⟨_, ho, rfl⟩, ?_⟩)
  by_cases e : k = 1
  · subst e
    exact call_meets F.slot_tuple_mul ⟨_, ho, rfl⟩ F.entry_tuple_mul (F.args_tuple_mul_2 _ _) (mul1 l its.toArray n dd sl 1 t q0 (by rw [hi]; rfl)) ⟨ho, .ref l, H, I.tok _, rfl, qa rfl⟩
  · have e0 : k ≤ 0 := by omega
    refine call_meets F.slot_tuple_mul ⟨_, ho, rfl⟩ F.entry_tuple_mul (F.args_tuple_mul_2 _ _) (mul0 l its.toArray n dd sl k t q0 (by rw [hi, Bool.false_or]; exact beq_eq_false_iff_ne.mpr e) (by rw [decide_eq_true e0]; rfl)) ⟨ho, ?_⟩
    refine ⟨.ref s.heap.objs.size, _, I.laid (t' := s.toks) (o := .tup []) (fun b ob q => Heap.get?_push_of_some _ q) (Nat.le_refl _) ?_, rfl, qb e0 _ (I.hok.fresh (Nat.le_refl _))⟩
    exact ⟨Nat.zero_le _, [], .nil, IsTup.new _ _⟩
end
end TM
namespace MI
open PySem PySem.Spec PyProof.Rows L2 JB
def mRepT (x y : MV) (h : MH) : Out MV := match x, y with
  | .tup xs, .int k => if xs.isEmpty = false ∧ -1000 ≤ k ∧ k ≤ 1000 ∧ xs.length ≤ 1000 then (if k = 1 then .ok (.tup xs) h else .ok (.tup (reps xs k.toNat)) h) else .bad
  | .ktp xs, .int k => if xs.isEmpty = false ∧ -1000 ≤ k ∧ k ≤ 1000 ∧ xs.length ≤ 1000 then (if k = 1 then .ok (.ktp xs) h else .ok (.tup (reps xs k.toNat)) h) else .bad
  | _, _ => .bad
abbrev rRepTA (K : PySem.W.Frag) : R2 := fun x y H Q => rRepT K x y H Q ∨ TM.rRep01 K x y H Q
theorem repT_ok {Z : Zt} {E : XK} {ρ : List Addr} {h : MH} {H : Hp} {Q : VK} {a : Addr} {xs : List MV} {vs : List V} {k : Int} {t : MV} (R : HR Z ρ h H) (hs : SqT Z.K H a vs) (r : RVs Z ρ H xs vs) (rt : RV Z ρ H t (.ref a))
    (p : Post Z (rV Z) ρ H Q E (if xs.isEmpty = false ∧ -1000 ≤ k ∧ k ≤ 1000 ∧ xs.length ≤ 1000 then (if k = 1 then .ok t h else .ok (.tup (reps xs k.toNat)) h) else .bad)) : rRepTA Z.K (.ref a) (.int k) H Q := by
  by_cases c : xs.isEmpty = false ∧ -1000 ≤ k ∧ k ≤ 1000 ∧ xs.length ≤ 1000
  · rw [if_pos c] at p
    obtain ⟨c1, c2, c3, c4⟩ := c
    have ne : vs ≠ [] := by
      intro z
      have := r.nil_iff.mp z
      rw [this] at c1; cases c1
    by_cases e : k = 1
    · rw [if_pos e] at p
      exact .inr ⟨a, k, vs, rfl, rfl, hs, ne, c2, by omega, fun _ => p.ok R rt, fun z => by omega⟩
    · rw [if_neg e] at p
      by_cases e0 : k ≤ 0
      · refine .inr ⟨a, k, vs, rfl, rfl, hs, ne, c2, by omega, fun z => absurd z e, fun _ pp hp => ?_⟩
        have hz : k.toNat = 0 := by omega
        rw [hz] at p
        exact p ρ _ _ (Ext.still1 hp) (R.still1 hp) (.tup upd_same .nil)
      · refine .inl ⟨a, k, vs, rfl, rfl, hs, ne, by omega, c3, by rw [← r.length]; exact c4, fun pp hp => ?_⟩
        rw [reps_eq]
        exact p ρ _ _ (Ext.still1 hp) (R.still1 hp) (.tup upd_same ((r.ext (Ext.still1 hp)).reps _))
  · rw [if_neg c] at p; exact p.elim
theorem om_repT {Z : Zt} {E : XK} : OpM Z E mRepT (rRepTA Z.K) := fun ρ h H x y v w Q R r q p => by
  cases r with
  | tup h1 r1 =>
    cases q with
    | int k => exact repT_ok R (.inl (.inl h1)) r1 (.tup h1 r1) p
    | _ => exact p.elim
  | ktp h1 r1 =>
    cases q with
    | int k => exact repT_ok R (ktp_sq h1) r1 (.ktp h1 r1) p
    | _ => exact p.elim
  | _ => exact p.elim
theorem fold_reps (s : List Nat) : ∀ (n : Nat) (acc : Array Nat), (List.replicate n s.toArray).foldl (· ++ ·) acc = (acc.toList ++ reps s n).toArray
  | 0, acc => by simp [reps]
  | n + 1, acc => by
    rw [List.replicate_succ, List.foldl_cons, fold_reps s n]
    simp [reps]
def mRepS (x y : MV) (h : MH) : Out MV := match x, y with
  | .str s, .int k => if -1000 ≤ k ∧ k ≤ 1000 ∧ s.length ≤ 1000 then .ok (.str (reps s k.toNat)) h else .bad
  | _, _ => .bad
abbrev rRepS : R2 := fun x y H Q => ∃ (s : List Nat) (k : Int), x = .str (S1 s) ∧ y = .int k ∧ -1000 ≤ k ∧ k ≤ 1000 ∧ s.length ≤ 1000 ∧ Q (.str (S1 (reps s k.toNat))) H
theorem reps_nil {α : Type} : ∀ n, reps ([] : List α) n = []
  | 0 => rfl
  | n + 1 => by show [] ++ reps [] n = []; rw [reps_nil n]; rfl
theorem mul_txt (s : List Nat) (k : Int) : Txt.mul (S1 s) k = S1 (reps s k.toNat) := by
  unfold Txt.mul
  by_cases c : k < 1
  · rw [if_pos c]
    have : k.toNat = 0 := by omega
    rw [this]; rfl
  · rw [if_neg c]
    by_cases d : (k == 1 || (S1 s).length == 0) = true
    · rw [if_pos d]
      rcases Bool.or_eq_true_iff.mp d with e | e
      · have : k = 1 := by simpa using e
        subst this
        show S1 s = S1 (s ++ reps s 0)
        simp [reps]
      · have e' : s.toArray.size = 0 := by simpa [S1, Str.length] using e
        have : s = [] := by simpa using e'
        subst this
        rw [reps_nil]
    · rw [if_neg d]
      show Str.mk (List.foldl _ #[] (List.replicate k.toNat s.toArray)) = _
      rw [fold_reps]
      rfl
theorem op_repS {X : Cx} : OpR X (binaryOp .Mult) rRepS := by
  intro pins st σ H x y v u Q I rx ry h
  obtain ⟨s, k, rfl, rfl, h1, h2, h3, q⟩ := h
  obtain ⟨t, rfl⟩ := rx
  obtain ⟨t', rfl⟩ := ry
  have hl : (S1 s).length ≤ 1000 := by show s.toArray.size ≤ 1000; simpa using h3
  refine SB.mul ⟨by rw [decide_eq_false (by omega), decide_eq_false (by omega)] <;> rfl, fun c1 c2 => ?_, fun c1 c2 => ?_⟩ fun t'' tk => ⟨.str (S1 (reps s k.toNat)), H, I.tok _, ⟨_, by rw [mul_txt]⟩, q⟩
  · have : (2 ^ 63 - 1) / k ≥ (2 ^ 63 - 1) / 1000 := by
      refine Int.le_ediv_of_mul_le (by omega) ?_
      have : (2 ^ 63 - 1) / 1000 * k ≤ (2 ^ 63 - 1) / 1000 * 1000 := Int.mul_le_mul_of_nonneg_left h2 (by decide)
      omega
    omega
  · have : (S1 s).length * k.toNat ≤ 1000 * 1000 := Nat.mul_le_mul hl (by omega)
    show decide ((S1 s).length * k.toNat > sizeLine) = false
    exact decide_eq_false (by rw [sizeLine_eq]; omega)
theorem om_repS {Z : Zt} {E : XK} : OpM Z E mRepS rRepS := fun ρ h H x y v w Q R r q p => by
  cases r with
  | str s =>
    cases q with
    | int k =>
      have p' : Post Z (rV Z) ρ H Q E (if -1000 ≤ k ∧ k ≤ 1000 ∧ s.length ≤ 1000 then .ok (.str (reps s k.toNat)) h else .bad) := p
      by_cases c : -1000 ≤ k ∧ k ≤ 1000 ∧ s.length ≤ 1000
      · rw [if_pos c] at p'
        exact ⟨s, k, rfl, rfl, c.1, c.2.1, c.2.2, p'.ok R (.str _)⟩
      · rw [if_neg c] at p'; exact p'.elim
    | _ => exact p.elim
  | _ => exact p.elim
def isTup : MV → Bool
  | .tup _ => true
  | .ktp _ => true
  | _ => false
def isStr : MV → Bool
  | .str _ => true
  | _ => false
def mMulA (x y : MV) (h : MH) : Out MV := if isTup x = true then mRepT x y h else if isStr x = true then mRepS x y h else mMulV x y h
section
variable {X : Cx} {T : Nat → Addr} {E : XK} {a b : Expr} {ga gb : ME} {pos : Pos}
theorem je_mulA (ha : JE X T E a ga) (hb : JE X T E b gb) : JE X T E (.BinOp a .Mult b pos) (gBin mMulA ga gb) :=
  je_bin_or (f2 := fun x y h => if isStr x = true then mRepS x y h else mMulV x y h) (je_op (OpR.or op_repT TM.op_rep01) om_repT ha hb)
    (je_bin_or (je_op op_repS om_repS ha hb) (je_mulV ha hb) fun x y h => by
      by_cases c : isStr x = true
      · exact .inl (if_pos c)
      · exact .inr (if_neg c)) fun x y h => by
    unfold mMulA
    by_cases c : isTup x = true
    · exact .inl (if_pos c)
    · exact .inr (if_neg c)
end
end MI
set_option Elab.async false
set_option linter.all false
set_option maxRecDepth 100000
set_option maxHeartbeats 4000000
namespace MI
open PySem PySem.Spec PyProof.Rows L2 JB
def pick {α : Type} (idx : List (Nat × Nat)) (us its ws : List α) : List α := idx.filterMap fun q => match q.1 with
  | 0 => us[q.2]?
  | 1 => its[q.2]?
  | _ => ws[q.2]?
theorem vals_at {vs : List V} {us : List Value} (r : Vals vs us) : ∀ i : Nat, (vs[i]? = none ∧ us[i]? = none) ∨ ∃ v u, vs[i]? = some v ∧ us[i]? = some u ∧ RelV v u := by
  induction r with
  | nil => intro i; exact .inl ⟨by simp, by simp⟩
  | cons a r ih =>
    intro i
    cases i with
    | zero => exact .inr ⟨_, _, rfl, rfl, a⟩
    | succ i => simpa using ih i
theorem rvs_at {Z : Zt} {ρ : List Addr} {H : Hp} : ∀ {xs : List MV} {vs : List V}, RVs Z ρ H xs vs → ∀ i : Nat, (xs[i]? = none ∧ vs[i]? = none) ∨ ∃ v u, xs[i]? = some v ∧ vs[i]? = some u ∧ RV Z ρ H v u
  | _, _, .nil, i => .inl ⟨by simp, by simp⟩
  | _, _, .cons a r, 0 => .inr ⟨_, _, rfl, rfl, a⟩
  | _, _, .cons a r, i + 1 => by simpa using rvs_at r i
theorem pick_vals {vs ds zs : List V} {us its ws : List Value} (r : Vals vs us) (d : Vals ds its) (z : Vals zs ws) : ∀ idx, Vals (pick idx vs ds zs) (pick idx us its ws)
  | [] => .nil
  | q :: l => by
    have ih := pick_vals r d z l
    unfold pick at ih ⊢
    obtain ⟨a, i⟩ := q
    rw [List.filterMap_cons, List.filterMap_cons]
    match a with
    | 0 =>
      dsimp only
      rcases vals_at r i with ⟨e1, e2⟩ | ⟨v, u, e1, e2, e3⟩
      · rw [e1, e2]; exact ih
      · rw [e1, e2]; exact .cons e3 ih
    | 1 =>
      dsimp only
      rcases vals_at d i with ⟨e1, e2⟩ | ⟨v, u, e1, e2, e3⟩
      · rw [e1, e2]; exact ih
      · rw [e1, e2]; exact .cons e3 ih
    | n + 2 =>
      dsimp only
      rcases vals_at z i with ⟨e1, e2⟩ | ⟨v, u, e1, e2, e3⟩
      · rw [e1, e2]; exact ih
      · rw [e1, e2]; exact .cons e3 ih
theorem pick_rvs {Z : Zt} {ρ : List Addr} {H : Hp} {vs ds zs : List MV} {us its ws : List V} (r : RVs Z ρ H vs us) (d : RVs Z ρ H ds its) (z : RVs Z ρ H zs ws) : ∀ idx, RVs Z ρ H (pick idx vs ds zs) (pick idx us its ws)
  | [] => .nil
  | q :: l => by
    have ih := pick_rvs r d z l
    unfold pick at ih ⊢
    obtain ⟨a, i⟩ := q
    rw [List.filterMap_cons, List.filterMap_cons]
    match a with
    | 0 =>
      dsimp only
      rcases rvs_at r i with ⟨e1, e2⟩ | ⟨v, u, e1, e2, e3⟩
      · rw [e1, e2]; exact ih
      · rw [e1, e2]; exact .cons e3 ih
    | 1 =>
      dsimp only
      rcases rvs_at d i with ⟨e1, e2⟩ | ⟨v, u, e1, e2, e3⟩
      · rw [e1, e2]; exact ih
      · rw [e1, e2]; exact .cons e3 ih
    | n + 2 =>
      dsimp only
      rcases rvs_at z i with ⟨e1, e2⟩ | ⟨v, u, e1, e2, e3⟩
      · rw [e1, e2]; exact ih
      · rw [e1, e2]; exact .cons e3 ih
structure FK (P : Program) (w : World) (K : PySem.W.Frag) (mg : Str → Option Value) (base : Heap) (T : Nat → Addr) (k : Nat) (f : Addr) (n np : Nat) (ks : List Str) (idx : List (Nat × Nat)) (dm : List MV) (g : MF) : Prop where
  ex : ∃ fd ps its dvs, ps.length = n ∧ FnG P w K mg base (L2.CX P w) k f fd ps (spM ⟨K, T⟩ ps.length g) ∧ PySem.W.keepIn K (.ref f) = true ∧ KBn K fd ps np ks (fun us ws => pick idx us its ws) (fun vs zs => pick idx vs dvs zs) ∧ (∀ ρ H, RVs ⟨K, T⟩ ρ H dm dvs)
section
variable {P : Program} {w : World} {K : PySem.W.Frag} {mg : Str → Option Value} {base : Heap} {T : Nat → Addr} {k : Nat} {f : Addr}
variable {x qual : Str} {params : Arguments} {body : List Stmt} {scope : Scope} {dvs : List V} {kws : List (Str × V)} {fd : FuncData} {ps : List Str}
theorem FK.of0 {n np : Nat} {ks : List Str} {idx : List (Nat × Nat)} {g : MF} (F : FunD K x qual params body scope [] kws f fd) (G : FnG P w K mg base (L2.CX P w) k f fd ps (spM ⟨K, T⟩ ps.length g)) (hn : ps.length = n)
    (hb : ∀ (kV doc pm : Value) (an : Option Addr) (cdv ct : Value) (us ws : List Value), us.length = np → ws.length = ks.length → bindArgs (PySem.W.fnOf x qual params body scope .none kV doc pm an cdv ct) ⟨us, ks.zip ws⟩ = pure (ps.zip (pick idx us [] ws))) :
    FK P w K mg base T k f n np ks idx [] g := by
  obtain ⟨oc, od, dV, kV, doc, pm, an, cdv, ct, osl, rfl, lk, hcd, hD, hK⟩ := F.ex
  rcases hD with ⟨_, rfl⟩ | ⟨e, _⟩
  · exact ⟨_, ps, [], [], hn, G, F.kp, ⟨fun s us ws X l1 l2 => .of_eq (hb kV doc pm an cdv ct us ws l1 l2), fun r1 r2 => pick_vals r1 .nil r2 idx⟩, fun _ _ => .nil⟩
  · exact absurd rfl e
end
abbrev JK (X : Cx) (T : Nat → Addr) (E : XK) (kws : List Keyword) (g : MA) : Prop := PK X kws (tA ⟨X.K, T⟩ E g)
theorem PK.le {X : Cx} {kws : List Keyword} {t t' : TA} (p : PK X kws t) (k : ∀ σ H Q, t' σ H Q → t σ H Q) : PK X kws t' := ⟨fun po pins s σ H Q I h => p.run po pins s σ H Q I (k σ H Q h)⟩
def gCallK (g : MF) (dm : List MV) (n np nk : Nat) (idx : List (Nat × Nat)) (a ak : MA) : ME := fun m h => (a m h).bind fun as h1 => (ak m h1).bind fun zs h2 =>
  if as.length = np ∧ zs.length = nk ∧ (pick idx as dm zs).length = n then g (pick idx as dm zs) h2 else .bad
section
variable {X : Cx} {T : Nat → Addr} {E : XK} {k : Nat} {f C : Addr} {dm : List MV} {g : MF} {n np : Nat} {x me : Str} {mi : Nat} {p pos apos kpos : Pos} {e o : Expr} {es : List Expr} {ga gk : MA} {go ge : ME} {kws : List Keyword} {ks : List Str} {idx : List (Nat × Nat)} {nm' : Option Str}
theorem jk_nil : JK X T E [] gNil := PK.le pk_nil fun σ H Q ⟨ρ, m, h, s, q⟩ => q.ok s.hr .nil
theorem jk_cons (ha : JE X T E e ge) (hr : JK X T E kws gk) : JK X T E (⟨nm', e, kpos⟩ :: kws) (gCons ge gk) :=
  PK.le (pk_cons ha hr) fun σ H Q ⟨ρ, m, h, s, q⟩ => stepE s q fun ρ1 h1 H1 x v s1 e1 r1 q1 => stepA s1 q1 fun ρ2 h2 H2 xs vs s2 e2 r2 q2 => q2.ok s2.hr (.cons (r1.ext e2) r2)
theorem run_gK {CX : CXT} {fd : FuncData} {ps : List Str} {sp : Sp} {G : List Value → List Value → List Value} {gV : List V → List V → List V} {pins : List (Addr × Obj)} {σ : L2.St} {H : Hp} {s : Shared} {Q : VK} {us ws : List Value} {vs zs : List V} (hs : JB.Still X.A)
    (F : FnG X.prog X.w X.K X.mg X.base CX k f fd ps sp) (hr : Room k X.A) (hb : KBn X.K fd ps np ks G gV) (hx : Passes CX X E)
    (I : Inv X pins σ H s) (r : Vals vs us) (rz : Vals zs ws) (l1 : vs.length = np) (l2 : zs.length = ks.length) (h : sp (gV vs zs) H Q E) : wpAny (model X.prog X.w) X.A (call (.ref f) us (ks.zip ws)) (EP X pins σ Q) X.xe s := by
  have r2 := hb.rel r rz
  refine wpAny_call (codeAny_mono (F.goes X.A X.stack s H ⟨us, ks.zip ws⟩ (G us ws) (gV vs zs) Q E hs hr I.env0 (hb.to s us ws I.kIn (r.length.symm.trans l1) (rz.length.symm.trans l2)) r2 h) fun r s' hq => ?_)
  cases r with
  | error e => exact hx pins σ H s e s' I hq
  | ok fl => cases fl <;> first | exact I.after hq | exact False.elim hq
theorem go_spK {ρ : List Addr} {h : MH} {H : Hp} {Q : VK} {as : List MV} {vs : List V} {ps : List Str} (r : HR ⟨X.K, T⟩ ρ h H) (a : RVs ⟨X.K, T⟩ ρ H as vs) (hn : as.length = ps.length)
    (q : Post ⟨X.K, T⟩ (rV ⟨X.K, T⟩) ρ H Q E (g as h)) : spM ⟨X.K, T⟩ ps.length g vs H Q E :=
  ⟨ρ, h, as, r, a, (RVs.length a).symm.trans hn, q⟩
theorem argsK {ρ : List Addr} {m : ML} {h : MH} {H : Hp} {σ : L2.St} {Q : VK} {dvs : List V} {ps : List Str} (hdm : ∀ ρ H, RVs ⟨X.K, T⟩ ρ H dm dvs) (s0 : SR ⟨X.K, T⟩ ρ m h σ H) (q : Post ⟨X.K, T⟩ (rV ⟨X.K, T⟩) ρ H Q E (gCallK g dm ps.length np ks.length idx ga gk m h)) :
    tA ⟨X.K, T⟩ E ga σ H (fun vs H1 => tA ⟨X.K, T⟩ E gk σ H1 fun zs H2 => vs.length = np ∧ zs.length = ks.length ∧ spM ⟨X.K, T⟩ ps.length g (pick idx vs dvs zs) H2 Q E) := by
  refine stepA s0 q fun ρ1 h1 H1 xs vs s1 e1 r1 q1 => stepA s1 q1 fun ρ2 h2 H2 ys zs s2 e2 r2 q2 => ?_
  by_cases hn : xs.length = np ∧ ys.length = ks.length ∧ (pick idx xs dm ys).length = ps.length
  · rw [if_pos hn] at q2
    exact ⟨by rw [← hn.1]; exact (RVs.length r1).symm, by rw [← hn.2.1]; exact (RVs.length r2).symm, go_spK s2.hr (pick_rvs (r1.ext e2) (hdm _ _) r2 idx) hn.2.2 q2⟩
  · rw [if_neg hn] at q2
    exact q2.elim
theorem je_callK0 (F : FK X.prog X.w X.K X.mg X.base T k f n 0 ks idx dm g) (hs : JB.Still X.A) (hr : Room k X.A) (hx : Passes (L2.CX X.prog X.w) X E) (hg : Gl X x) (hm : X.mg x = some (.ref f)) (hkw : JK X T E kws gk)
    (hall : (backToKw pos (keywordEach kws X.env)).all (·.1.isSome) = true := by rfl) (hks : (backToKw pos (keywordEach kws X.env)).filterMap (·.1) = ks := by rfl)
    (hdb : (x == ("__debug__" : Str)) = false := by decide)
    (hpl : ((backTo pos (starEach [] X.env)).any (·.1) || (backToKw pos (keywordEach kws X.env)).any (·.1.isNone)) = false := by rfl) :
    JE X T E (.Call (.Name x p) [] kws pos) (gCallK g dm n 0 ks.length idx gNil gk) := by
  obtain ⟨fd, ps, its, dvs, rfl, F, hk, hb, hdm⟩ := F.ex
  refine ⟨fun pins s σ H Q I ⟨ρ, m, h, s0, q⟩ => ?_⟩
  refine wpAny_Call_Name_kw (ld_glob I hg hm ?_ hdb)
  refine PySem.W.callWith_KW0 (h₀ := X.base) I.ok.mod.kin hk hall ?_ hpl
  obtain ⟨ρ1, m1, h1, s1, q1⟩ := argsK (np := 0) (ga := gNil) (hdm · ·) s0 q
  refine thn (hkw.run pos pins s σ H _ I (q1.ok s1.hr .nil)) fun ws s2 ⟨zs, H2, I2, rz, l1, l2, q2⟩ => ⟨I2.kIn, ?_⟩
  rw [hks]
  exact run_gK (us := []) (vs := []) hs F hr hb hx I2 .nil rz l1 l2 q2
end
end MI
set_option Elab.async false
set_option linter.all false
set_option maxRecDepth 100000
set_option maxHeartbeats 4000000
namespace MI
open PySem PySem.Spec PyProof.Rows L2 JB
section
variable {Z : Zt} {ρ : List Addr} {H : Hp} {a : Addr} {od : Obj} {ws : List (Key × V)}
end
section
variable {X : Cx} {T : Nat → Addr} {E : XK} {e a tg : Expr} {es : List Expr} {ga : ME} {pos p apos cpos : Pos} {st : Stmt} {pk : ML → MH → Option Nat}
end
section
variable {Z : Zt} {ρ : List Addr} {H : Hp} {a : Addr} {od : Obj} {kvs : List (MK × MV)} {vs : List (Key × V)}
end
section
variable {X : Cx} {T : Nat → Addr} {E : XK} {e a tg : Expr} {es : List Expr} {ga : ME} {pos p apos cpos : Pos}
end
end MI
set_option Elab.async false
set_option linter.all false
set_option maxRecDepth 100000
set_option maxHeartbeats 4000000
namespace MI
open PySem PySem.Spec PyProof.Rows L2 JB
def dOkA (d : PyData) : Bool := d.showable && !d.hasDict && decide (d.depth ≤ 60) && d.leavesShort 60 && decide (d.bulk ≤ 262144)
theorem fineA_of {d : PyData} (h : dOkA d = true) : d.showable = true ∧ d.hasDict = false ∧ d.depth ≤ 60 ∧ d.shown.length ≤ sizeLine := by
  simp only [dOkA, Bool.and_eq_true, Bool.not_eq_true', decide_eq_true_eq] at h
  obtain ⟨⟨⟨⟨h1, h2⟩, h3⟩, h4⟩, h5⟩ := h
  refine ⟨h1, h2, h3, ?_⟩
  have a := PyData.shown_le_bulk 60 (by decide) d h4
  have b : (60 + 2) * d.bulk ≤ 62 * 262144 := Nat.mul_le_mul (by omega) h5
  rw [sizeLine_eq]
  omega
def sFine (s : List Nat) : Bool := decide (s.length ≤ 1000000) && s.all fun c => decide (c < 4294967296)
theorem sFine_ok {s : List Nat} (h : sFine s = true) : (reprText ⟨s.toArray⟩).length ≤ sizeLine := by
  simp only [sFine, Bool.and_eq_true, decide_eq_true_eq, List.all_eq_true] at h
  have a := StrLaws.reprText_len ⟨s.toArray⟩ (fun c hc => by
    have := h.2 c (by simpa using hc)
    have e : (16 : Nat) ^ 8 = 4294967296 := by decide
    omega)
  have b : (⟨s.toArray⟩ : Str).length = s.length := by show s.toArray.size = _; simp
  rw [sizeLine_eq]
  omega
def eqS (x y : MV) : Bool := match x, y with
  | .non, .non => true
  | .bl b, .bl c => b == c
  | .int i, .int j => decide (i = j) && iSmall i
  | .str s, .str t => leq s t && sFine s
  | _, _ => false
def gSameA (g1 g2 : ME) : ME := fun m h => (g1 m h).bind fun x h1 => if isRow x = true then match toD h1 61 x with
    | some d => if dOkA d = true then (g2 m h1).bind fun y h2 => if isRow y = true then match toD h2 61 y with
        | some e => if dOkA e = true ∧ dEq 61 d e = true then .ok (.bl true) h2 else .bad
        | none => .bad
      else .bad
      else .bad
    | none => .bad
  else if eqS x x = true then (g2 m h1).bind fun y h2 => if eqS x y = true then .ok (.bl true) h2 else .bad else .bad
section
variable {X : Cx}
abbrev rShowS : List V → Hp → VK → Prop := fun xs H Q => (∃ i, xs = [.int i] ∧ i.natAbs.log2 < 1920 ∧ Q (.str (toString i)) H) ∨ (∃ y : Str, xs = [.str y] ∧ (reprText y).length ≤ sizeLine ∧ Q (.str (reprText y)) H) ∨
  (∃ b : Bool, xs = [.bl b] ∧ Q (.str (if b then "True" else "False")) H) ∨ (xs = [.non] ∧ Q (.str "None") H)
theorem call_showS : CallR X (.builtin "repr") rShowS := by
  intro pins s σ H xs us Q I r h
  rcases h with ⟨i, rfl, hz, q⟩ | ⟨y, rfl, hz, q⟩ | ⟨b, rfl, q⟩ | ⟨rfl, q⟩
  · obtain ⟨u, rfl, t, rfl⟩ := vals1 r
    exact PySem.P.repr_of_int hz ⟨.str _, H, I.tok _, ⟨_, rfl⟩, q⟩
  · obtain ⟨u, rfl, t, rfl⟩ := vals1 r
    exact PySem.P.repr_of_str ⟨.str _, H, I.tok _, ⟨_, rfl⟩, q⟩ hz
  · obtain ⟨u, rfl, rx⟩ := vals1 r
    cases (show u = Value.bool b from rx)
    exact PySem.P.repr_of_bool ⟨.str _, H, I.tok _, ⟨_, rfl⟩, q⟩
  · obtain ⟨u, rfl, rx⟩ := vals1 r
    cases (show u = Value.none from rx)
    exact PySem.P.repr_of_none ⟨.str _, H, I.tok _, ⟨_, rfl⟩, q⟩
end
section
variable {P : Program} {w : World} {K : PySem.W.Frag} {mg : Str → Option Value} {base : Heap} {T : Nat → Addr}
theorem showS_ok {Z : Zt} {ρ : List Addr} {H : Hp} {x : MV} {v : V} (r : RV Z ρ H x v) (e : eqS x x = true) : ∃ t : Str, ∀ (H1 : Hp) (Q : VK), Q (.str t) H1 → rShowS [v] H1 Q := by
  cases r with
  | non => exact ⟨_, fun H1 Q q => .inr (.inr (.inr ⟨rfl, q⟩))⟩
  | bl b => exact ⟨_, fun H1 Q q => .inr (.inr (.inl ⟨b, rfl, q⟩))⟩
  | int i =>
    have e' : (decide (i = i) && iSmall i) = true := e
    simp only [Bool.and_eq_true] at e'
    exact ⟨_, fun H1 Q q => .inl ⟨i, rfl, iSmall_ok e'.2, q⟩⟩
  | str s =>
    have e' : (leq s s && sFine s) = true := e
    simp only [Bool.and_eq_true] at e'
    exact ⟨_, fun H1 Q q => .inr (.inl ⟨_, rfl, sFine_ok e'.2, q⟩)⟩
  | _ => cases e
theorem eqS_eq {x y : MV} (h : eqS x y = true) : x = y := by
  cases x <;> cases y <;> first
    | rfl
    | (cases h; done)
    | (rename_i a b
       simp only [eqS, Bool.and_eq_true, decide_eq_true_eq, beq_iff_eq] at h
       first
         | rw [h.1]
         | rw [h]
         | rw [leq_iff.mp h.1])
theorem scal_rv {Z : Zt} {ρ ρ' : List Addr} {H H' : Hp} {x : MV} {v w : V} (r : RV Z ρ H x v) (q : RV Z ρ' H' x w) (e : eqS x x = true) : v = w := by
  cases r <;> cases q <;> first | rfl | (cases e; done)
theorem je_sameA {X : Cx} {E : XK} {e1 e2 : Expr} {p1 p2 q1 q2 c1 : Pos} {g1 g2 : ME} (hs : JB.Still X.A) (hu : X.A.units + 64 < cLine) (hg : Gl X "repr") (hm : X.mg "repr" = none)
    (ha : JE X T E e1 g1) (hb : JE X T E e2 g2) (h1 : starEach [e1] X.env = (false, eval e1 X.env) :: starEach [] X.env := by rfl) (h2 : starEach [e2] X.env = (false, eval e2 X.env) :: starEach [] X.env := by rfl)
    (k1 : (backTo p2 (starEach ([] : List Expr) X.env)).any (·.1) = false := by rfl) (k2 : (backTo q2 (starEach ([] : List Expr) X.env)).any (·.1) = false := by rfl)
    (hbm : behindInMarks .Eq (.Call (.Name "repr" q1) [e2] [] q2) = false := by rfl) :
    JE X T E (.Compare (.Call (.Name "repr" p1) [e1] [] p2) [.Eq] [.Call (.Name "repr" q1) [e2] [] q2] c1) (gSameA g1 g2) :=
  PE.le (pe_cmpR op_eq (pe_callB (CallR.or (call_show hs hu) call_showS) hg hm (by decide +kernel) (pa_cons ha pa_nil h1) (by decide) (by decide) h1 k1) (pe_callB (CallR.or (call_show hs hu) call_showS) hg hm (by decide +kernel) (pa_cons hb pa_nil h2) (by decide) (by decide) h2 k2) hbm)
    fun σ H Q ⟨ρ, m, h, s, q⟩ => stepE s q fun ρ1 h1 H1 x v s1 e1 r1 q1 => by
      by_cases c : isRow x = true
      · rw [if_pos c] at q1
        cases t : toD h1 61 x with
        | none => rw [t] at q1; exact q1.elim
        | some d =>
          rw [t] at q1
          dsimp only at q1
          by_cases o : dOkA d = true
          · rw [if_pos o] at q1
            obtain ⟨a, rfl⟩ := row_ref r1 c
            obtain ⟨f1, f2, f3, f4⟩ := fineA_of o
            refine .inl ⟨a, d, rfl, toD_ok s1.hr 61 r1 t, f1, f2, f3, f4, stepE s1 q1 fun ρ2 h2 H2 y w s2 e2 r2 q2 => ?_⟩
            by_cases c2 : isRow y = true
            · rw [if_pos c2] at q2
              cases t2 : toD h2 61 y with
              | none => rw [t2] at q2; exact q2.elim
              | some e =>
                rw [t2] at q2
                dsimp only at q2
                by_cases o2 : dOkA e = true ∧ dEq 61 d e = true
                · rw [if_pos o2] at q2
                  obtain ⟨b, rfl⟩ := row_ref r2 c2
                  obtain ⟨i1, i2, i3, i4⟩ := fineA_of o2.1
                  have de := dEq_eq 61 o2.2
                  refine .inl ⟨b, e, rfl, toD_ok s2.hr 61 r2 t2, i1, i2, i3, i4, rfl, ?_⟩
                  rw [decide_eq_true (by rw [de])]
                  exact q2.ok s2.hr (.bl true)
                · rw [if_neg o2] at q2; exact q2.elim
            · rw [if_neg c2] at q2; exact q2.elim
          · rw [if_neg o] at q1; exact q1.elim
      · rw [if_neg c] at q1
        by_cases c1 : eqS x x = true
        · rw [if_pos c1] at q1
          obtain ⟨t, ht⟩ := showS_ok r1 c1
          refine .inr (ht _ _ (stepE s1 q1 fun ρ2 h2 H2 y w s2 e2 r2 q2 => ?_))
          by_cases c2 : eqS x y = true
          · rw [if_pos c2] at q2
            have exy := eqS_eq c2
            subst exy
            have evw := scal_rv r1 r2 c1
            subst evw
            refine .inr (ht _ _ ⟨rfl, ?_⟩)
            rw [decide_eq_true rfl]
            exact q2.ok s2.hr (.bl true)
          · rw [if_neg c2] at q2; exact q2.elim
        · rw [if_neg c1] at q1; exact q1.elim
end
end MI
set_option Elab.async false
set_option linter.all false
set_option maxRecDepth 100000
set_option maxHeartbeats 4000000
namespace MI
open PySem PySem.Spec PyProof.Rows L2 JB
def mEqB (k : Bool → Bool) (x y : MV) (h : MH) : Out MV := match toD h 61 x, toD h 61 y with
  | some d, some e => if okD d = true ∧ okD e = true then .ok (.bl (k (PyData.eqv d e))) h else .bad
  | _, _ => .bad
theorem eqB_ok {Z : Zt} {E : XK} {k : Bool → Bool} {ρ : List Addr} {h : MH} {H : Hp} {x y : MV} {v w : V} {Q : VK} (R : HR Z ρ h H) (r : RV Z ρ H x v) (q : RV Z ρ H y w) (p : Post Z (rV Z) ρ H Q E (mEqB k x y h)) :
    ∃ d e, Dp Z.K H v d ∧ Dp Z.K H w e ∧ SeqAt.shaped d = true ∧ SeqAt.shaped e = true ∧ Q (.bl (k (PyData.eqv d e))) H := by
  unfold mEqB at p
  cases t1 : toD h 61 x with
  | none => rw [t1] at p; exact p.elim
  | some d =>
    cases t2 : toD h 61 y with
    | none => rw [t1, t2] at p; exact p.elim
    | some e =>
      rw [t1, t2] at p
      dsimp only at p
      by_cases c : okD d = true ∧ okD e = true
      · rw [if_pos c] at p
        exact ⟨d, e, toD_ok R 61 r t1, toD_ok R 61 q t2, c.1, c.2, p.ok R (.bl _)⟩
      · rw [if_neg c] at p; exact p.elim
theorem om_eqB {Z : Zt} {E : XK} : OpM Z E (mEqB fun b => b) (rEqD Z.K) := fun ρ h H x y v w Q R r q p => eqB_ok R r q p
theorem om_neB {Z : Zt} {E : XK} : OpM Z E (mEqB fun b => !b) (rNeD Z.K) := fun ρ h H x y v w Q R r q p => eqB_ok R r q p
def mEqX (x y : MV) (h : MH) : Out MV := if isRow x = true then mEqB (fun b => b) x y h else mEqV x y h
def mNeX (x y : MV) (h : MH) : Out MV := if isRow x = true then mEqB (fun b => !b) x y h else mNeV x y h
theorem mEqX_or (x y : MV) (h : MH) : mEqX x y h = mEqB (fun b => b) x y h ∨ mEqX x y h = mEqV x y h := by unfold mEqX; split; exact .inl rfl; exact .inr rfl
theorem mNeX_or (x y : MV) (h : MH) : mNeX x y h = mEqB (fun b => !b) x y h ∨ mNeX x y h = mNeV x y h := by unfold mNeX; split; exact .inl rfl; exact .inr rfl
section
variable {X : Cx} {T : Nat → Addr} {E : XK} {a b e : Expr} {ga gb : ME} {pos : Pos}
theorem je_eqF (hu : X.A.units + 64 < cLine) (ha : JE X T E a ga) (hb : JE X T E b gb) : JE X T E (.Compare a [.Eq] [b] pos) (gBin mEqX ga gb) :=
  je_bin_or (je_cmp (op_eqD hu) om_eqB ha hb (nobehind _ (by decide) (by decide))) (je_eq ha hb) mEqX_or
theorem je_neF (hu : X.A.units + 64 < cLine) (ha : JE X T E a ga) (hb : JE X T E b gb) : JE X T E (.Compare a [.NotEq] [b] pos) (gBin mNeX ga gb) :=
  je_bin_or (je_cmp (op_neD hu) om_neB ha hb (nobehind _ (by decide) (by decide))) (je_ne ha hb) mNeX_or
theorem jt_eqF (hu : X.A.units + 64 < cLine) (ha : JE X T E a ga) (hb : JE X T E b gb) : JT X T E (.Compare a [.Eq] [b] pos) (gB (gBin mEqX ga gb)) :=
  jt_bin_or (jt_cmp (op_eqD hu) om_eqB ha hb (nobehind _ (by decide) (by decide))) (jt_eq ha hb) mEqX_or
theorem jt_neF (hu : X.A.units + 64 < cLine) (ha : JE X T E a ga) (hb : JE X T E b gb) : JT X T E (.Compare a [.NotEq] [b] pos) (gB (gBin mNeX ga gb)) :=
  jt_bin_or (jt_cmp (op_neD hu) om_neB ha hb (nobehind _ (by decide) (by decide))) (jt_ne ha hb) mNeX_or
end
end MI
set_option Elab.async false
set_option linter.all false
set_option maxRecDepth 100000
set_option maxHeartbeats 4000000
namespace JB
open PySem PySem.Spec PyProof.Rows L2
structure Base (B newId initId : String) (bm : List Value) : Prop where
  facts : ExcBaseFacts B newId initId bm
  pass : ∀ self : Value, refuseLoop self "__setattr__" bm = pure ()
  obj : bm.contains (.type "object") = true
  exc : bm.contains (.type "BaseException") = true
theorem base_V : Base "ValueError" "ValueError.__new__" "ValueError.__init__"
    [.type "ValueError", .type "Exception", .type "BaseException", .type "object"] :=
  ⟨F.excBase_ValueError, fun _ => by kernel_rfl, by decide +kernel, by decide +kernel⟩
theorem base_L : Base "LookupError" "LookupError.__new__" "LookupError.__init__"
    [.type "LookupError", .type "Exception", .type "BaseException", .type "object"] :=
  ⟨F.excBase_LookupError, fun _ => by kernel_rfl, by decide +kernel, by decide +kernel⟩
theorem base_R : Base "RuntimeError" "RuntimeError.__new__" "RuntimeError.__init__"
    [.type "RuntimeError", .type "Exception", .type "BaseException", .type "object"] :=
  ⟨F.excBase_RuntimeError, fun _ => by kernel_rfl, by decide +kernel, by decide +kernel⟩
theorem base_O : Base "OverflowError" "OverflowError.__new__" "OverflowError.__init__"
    [.type "OverflowError", .type "ArithmeticError", .type "Exception", .type "BaseException", .type "object"] :=
  ⟨F.excBase_OverflowError, fun _ => by kernel_rfl, by decide +kernel, by decide +kernel⟩
structure ExK (K : PySem.W.Frag) (C : Addr) (newId : String) (bm : List Value) : Prop where
  cls : ∃ nm q N bs sn sub ab col dd k0 k1 k2 k3 k5,
    K.lookup C = some (excClassObj nm q C N bs bm true sn sub ab col dd k0 k1 k2 k3 k5 newId)
  sa : PySem.W.findIn K (.ref C) "__setattr__" = some (some (.builtin "object.__setattr__"))
  ga : PySem.W.findIn K (.ref C) "__getattribute__" = some (some (.builtin "BaseException.__getattribute__"))
  gg : PySem.W.findIn K (.ref C) "__getattr__" = some none
  ca : PySem.W.findIn K (.ref C) "__class__" = some (some (.builtin "object.__class__"))
  ty : PySem.W.typeIn K (.ref C) = some (.type "type")
  kp : PySem.W.keepIn K (.ref C) = true
section
variable {K : PySem.W.Frag} {C D : Addr} {newId B initId : String} {bm : List Value}
theorem ExK.cd (T : ExK K C newId bm) : ∃ cd, PySem.W.clsIn K C = some cd ∧ cd.mro = .ref C :: bm ∧ cd.hasDict = true := by
  obtain ⟨nm, q, N, bs, sn, sub, ab, col, dd, k0, k1, k2, k3, k5, hC⟩ := T.cls
  have h : PySem.W.clsIn K C = Option.some (ClassData.mk nm bs (.ref C :: bm) N q true sn sub ab col false) := by
    unfold PySem.W.clsIn
    rw [hC] <;> rfl
  exact ⟨_, h, rfl, rfl⟩
theorem ExK.mro (T : ExK K C newId bm) (b : Value) : PySem.W.mroIn K C b = Option.some ((Value.ref C :: bm).contains b) := by
  obtain ⟨cd, h, e, _⟩ := T.cd
  unfold PySem.W.mroIn
  rw [h, Option.bind_some, e]
  rfl
theorem ExK.sub (T : ExK K C newId bm) (b : Value) : PySem.W.subIn K (.ref C) b = Option.some ((Value.ref C :: bm).contains b) := T.mro b
theorem has_ty {b : String} : (Value.ref C :: bm).contains (.type b) = bm.contains (.type b) := by
  rw [List.contains_cons]
  have : (Value.type b == Value.ref C) = false := by simp
  rw [this, Bool.false_or]
theorem ExK.bas (T : ExK K C newId bm) (F : Base B newId initId bm) : PySem.W.subIn K (.ref C) (.type "BaseException") = Option.some true := by
  rw [T.sub, has_ty, F.exc]
end
section
open Builtin Builtin.ObjectAttr
variable {prog : Program} {w : World} {A : Around} {R : Result → Shared → Prop} {hp : Heap} {g : Array GenState}
variable {d : Drawn} {t : Nat} {os : OsState} {K : PySem.W.Frag} {name : Str} {tk : Tok} {v : Value} {x C dx : Addr}
variable {fv : Array Value} {cd : ClassData} {m0 : Str → Option Value} {nl : List Str}
theorem osa_first (X : K.In hp) (hx : hp.get? x = some { cls := .ref C, data := .fields fv })
    (hcd : PySem.W.clsIn K C = some cd) (hm : cd.mro.contains (.type "object") = true) (hne : cd.mro.isEmpty = false)
    (hps : refuseLoop (.ref x) "__setattr__" cd.mro = pure ()) (hh : cd.hasDict = true)
    (ha : PySem.W.findIn K (.ref C) name = some none)
    (hq : ∀ h' tk' dx, (∀ b o, b ≠ x → hp.get? b = some o → h'.get? b = some o) → hp.objs.size ≤ dx → dx ≠ x →
      h'.get? x = some { cls := .ref C, dict := some dx, data := .fields fv } →
      h'.Ns1 dx (fun y => if y = name then some v else none) → R (.ok (.ret .none)) ⟨h', g, d, tk', os⟩) :
    codeAny (model prog w) A (.call (.builtin "object.__setattr__") ⟨[.ref x, .str name tk, v], []⟩) R ⟨hp, g, d, t, os⟩ := by
  have I : PySem.W.InstAt hp x { cls := .ref C, data := .fields fv } C none := ⟨hx, rfl, rfl, trivial⟩
  have SF := F.store_object
  have hxs : x ≠ hp.objs.size := Nat.ne_of_lt (Heap.lt_size hx)
  have sub : PySem.W.Looks (model prog w) hp (isInstance (.ref x) (.type "object")) true :=
    I.type.andThen (PySem.W.looks_mroIn X (by
      unfold PySem.W.mroIn
      rw [hcd, Option.bind_some, if_neg (by rw [hne]; decide), hm]))
  refine codeAny_call_builtin SF.slot.plain SF.entry (@PySem.W.check_slot (model prog w) _ _ ⟨hp, g, d, t, os⟩
    "object.__setattr__" "object" "__setattr__" (.ref x) [.str name tk, v] [] _ SF.kind SF.split sub
    (SF.args (.ref x) (.str name tk) v) ?_)
  have hmr : PySem.W.Looks (model prog w) hp (mroOf (.ref C)) cd.mro := (PySem.W.looks_clsIn X hcd).andThen .now
  have L3 : PySem.W.Looks (model prog w) hp (storeTaker? none) none := .now
  have hcls : PySem.W.Looks (model prog w) hp (classData C) cd := PySem.W.looks_clsIn X hcd
  rw [PySem.W.osa_eq, refuse_eq]
  refine wpAny_bind (wpAny_bind (I.type.at (wpAny_bind (hmr.at ?_))))
  rw [hps]
  refine wpAny_pure (wpAny_bind (I.type.at (wpAny_bind ((PySem.W.looks_findIn X ha).at (wpAny_bind (L3.at ?_))))))
  show wpAny _ _ (storeInOwnDict (.ref x) (.ref C) (.str name tk) name v false) _ _ _
  obtain ⟨nm, bs, mro, ns, qn, hd, sn, sb, ab, col, del⟩ := cd
  obtain rfl : hd = true := hh
  unfold storeInOwnDict ownDictForStores
  repeat (first
    | with_reducible refine PySem.HandSPX.store_in_new ?_ ?_
    | with_reducible refine wpAny_loadPart_at hx ?_
    | with_reducible refine hcls.at ?_
    | wp_step)
  · exact ⟨_, #[], _, (Heap.get?_update_ne _ _ _ _ hxs.symm).trans (Heap.get?_push_at rfl rfl), rfl,
      fun e he => absurd he (by simp), fun _ => rfl⟩
  · intro h' tk' hn' hs
    have hx₁ : (hp.push { cls := .type "dict", data := .dict #[] }).get? x = some { cls := .ref C, data := .fields fv } :=
      Heap.get?_push_of_some _ hx
    refine hq h' tk' hp.objs.size (fun b o hb ho => ?_) (Nat.le_refl _) hxs.symm ?_ hn'
    · exact (hs.2 b (Nat.ne_of_lt (Heap.lt_size ho))).trans
        ((Heap.get?_update_ne _ _ _ _ hb).trans (Heap.get?_push_of_some _ ho))
    · exact (hs.2 x hxs).trans (Heap.get?_update_self _ hx₁ rfl)
theorem osa_more (X : K.In hp) (hx : hp.get? x = some { cls := .ref C, dict := some dx, data := .fields fv })
    (hns : hp.Ns1 dx m0) (hw : Within m0 nl) (hz : nl.length ≤ 1000)
    (hcd : PySem.W.clsIn K C = some cd) (hm : cd.mro.contains (.type "object") = true) (hne : cd.mro.isEmpty = false)
    (hps : refuseLoop (.ref x) "__setattr__" cd.mro = pure ()) (hh : cd.hasDict = true)
    (ha : PySem.W.findIn K (.ref C) name = some none)
    (hq : ∀ h' tk', (∀ b o, b ≠ dx → hp.get? b = some o → h'.get? b = some o) →
      h'.Ns1 dx (fun y => if y = name then some v else m0 y) → R (.ok (.ret .none)) ⟨h', g, d, tk', os⟩) :
    codeAny (model prog w) A (.call (.builtin "object.__setattr__") ⟨[.ref x, .str name tk, v], []⟩) R ⟨hp, g, d, t, os⟩ := by
  obtain ⟨oD, esD, epD, hoD, hdD, _⟩ := hns.count hw
  have I : PySem.W.InstAt hp x { cls := .ref C, dict := some dx, data := .fields fv } C (some oD) := ⟨hx, rfl, rfl, hoD⟩
  have SF := F.store_object
  have sub : PySem.W.Looks (model prog w) hp (isInstance (.ref x) (.type "object")) true :=
    I.type.andThen (PySem.W.looks_mroIn X (by
      unfold PySem.W.mroIn
      rw [hcd, Option.bind_some, if_neg (by rw [hne]; decide), hm]))
  refine codeAny_call_builtin SF.slot.plain SF.entry (@PySem.W.check_slot (model prog w) _ _ ⟨hp, g, d, t, os⟩
    "object.__setattr__" "object" "__setattr__" (.ref x) [.str name tk, v] [] _ SF.kind SF.split sub
    (SF.args (.ref x) (.str name tk) v) ?_)
  have hmr : PySem.W.Looks (model prog w) hp (mroOf (.ref C)) cd.mro := (PySem.W.looks_clsIn X hcd).andThen .now
  have L3 : PySem.W.Looks (model prog w) hp (storeTaker? none) none := .now
  have hcls : PySem.W.Looks (model prog w) hp (classData C) cd := PySem.W.looks_clsIn X hcd
  rw [PySem.W.osa_eq, refuse_eq]
  refine wpAny_bind (wpAny_bind (I.type.at (wpAny_bind (hmr.at ?_))))
  rw [hps]
  refine wpAny_pure (wpAny_bind (I.type.at (wpAny_bind ((PySem.W.looks_findIn X ha).at (wpAny_bind (L3.at ?_))))))
  show wpAny _ _ (storeInOwnDict (.ref x) (.ref C) (.str name tk) name v false) _ _ _
  obtain ⟨nm, bs, mro, ns, qn, hd, sn, sb, ab, col, del⟩ := cd
  obtain rfl : hd = true := hh
  unfold storeInOwnDict ownDictForStores
  repeat (first
    | with_reducible refine PySem.OEX.store_in_old hns hw hz ?_
    | with_reducible refine wpAny_loadPart_at hx ?_
    | with_reducible refine hcls.at ?_
    | wp_step)
  intro h' tk' hn' hs
  exact hq h' tk' (fun b o hb ho => (hs.2 b hb).trans ho) hn'
end
end JB
set_option Elab.async false
set_option linter.all false
set_option maxRecDepth 100000
set_option maxHeartbeats 4000000
namespace PySem
namespace JX
open Builtin Builtin.ObjectAttr PySem.HandSPX
section
variable {M : Model} {A : Around} {E : Value → Shared → Prop} {h : Heap} {g : Array GenState} {d : Drawn} {t : Nat}
variable {os : OsState} {nm q : Str} {C N : Addr} {bs bmB : List Value} {hdct : Bool} {sn : List Str}
variable {sub : List Value} {ab : Bool} {col : Option Bool} {dd : Option Addr} {k0 k1 k2 k3 k5 : Option Value}
variable {B newId initId : String} {kw : List (Str × Value)}
theorem check_newK (F : ExcBaseFacts B newId initId bmB) {rest : List Value} {Q : Unit → Shared → Prop}
    (hC : h.get? C = some (excClassObj nm q C N bs bmB hdct sn sub ab col dd k0 k1 k2 k3 k5 newId))
    (hq : Q () ⟨h, g, d, t, os⟩) : wpAny M A (checkBuiltinCall newId ⟨.ref C :: rest, kw⟩) Q E ⟨h, g, d, t, os⟩ := by
  have hcont : (Value.ref C :: bmB).contains (.type B) = true := by rw [List.contains_cons, F.hasB, Bool.or_true]
  have hstar := F.noStar
  simp only [checkBuiltinCall, F.newKind, F.newSplit, F.newRow]
  repeat (first
    | refine wpAny_loadPart_at hC ?_
    | (refine wpAny_isSubtype_exc hC ?_; rw [hcont])
    | refine wpAny_staticBase_exc hC ?_
    | refine wpAny_madeBy_exc hC ?_
    | simp only [bne_self_eq_false, Bool.false_eq_true, if_false]
    | wp_step)
  exact hq
end
section
variable {prog : Program} {w : World} {A : Around} {E : Value → Shared → Prop} {R : Result → Shared → Prop}
variable {h : Heap} {g : Array GenState} {d : Drawn} {t : Nat} {os : OsState} {nm q : Str} {C N : Addr}
variable {bs bmB : List Value} {hdct : Bool} {sn : List Str} {sub : List Value} {ab : Bool} {col : Option Bool}
variable {dd : Option Addr} {k0 k1 k2 k3 k5 : Option Value} {B newId initId : String} {kw : List (Str × Value)}
theorem newK (F : ExcBaseFacts B newId initId bmB) {rest : List Value}
    (hC : h.get? C = some (excClassObj nm q C N bs bmB hdct sn sub ab col dd k0 k1 k2 k3 k5 newId))
    (hq : R (.ok (.ret (.ref (h.objs.size + 1)))) ⟨(h.push { cls := .type "tuple", data := .seq rest.toArray }).push
      { cls := .ref C, data := .fields #[.ref h.objs.size, .none, .none, .none, .bool false, .none] }, g, d, t, os⟩)
    (hrest : rest.length ≤ sizeLine) :
    codeAny (model prog w) A (.builtin newId ⟨.ref C :: rest, kw⟩) R ⟨h, g, d, t, os⟩ := by
  have hends := F.ends
  have hcB : (Value.ref C :: bmB).contains (.type B) = true := by rw [List.contains_cons, F.hasB, Bool.or_true]
  have hcA : (Value.ref C :: bmB).contains (.type "AttributeError") = false := by rw [List.contains_cons, F.noAttr]; rfl
  have hcN : (Value.ref C :: bmB).contains (.type "NameError") = false := by rw [List.contains_cons, F.noName]; rfl
  refine codeAny_builtinAt F.entry ?_
  unfold Builtin.«BaseException.__new__»
  refine wpAt_bind ?_
  show wpAt _ _ _ (stack >>= _) _ _ _
  refine wpAt_bind (wpAt_stack fun p below => wpAt_of_wpAny ?_)
  wp_walk
  refine wpAt_of_wpAny ?_
  rw [F.owner]
  repeat (first
    | with_reducible refine wpAny_madeHere_exc F.canon hC ?_
    | with_reducible refine wpAny_loadPart_at hC ?_
    | (with_reducible refine wpAny_isSubtype_exc hC ?_; first | rw [hcB] | rw [hcA] | rw [hcN])
    | wp_step)
  show R _ _
  rw [Heap.size_push]
  exact hq
theorem type_callK (F : ExcBaseFacts B newId initId bmB) {rest : List Value} {fI : Addr} {Q : Fin → Shared → Prop}
    (hC : h.get? C = some (excClassObj nm q C N bs bmB hdct sn sub ab col dd k0 k1 k2 k3 k5 newId))
    (hi : W.Looks (model prog w) h (typeLookup (.ref C) "__init__") (some (.ref fI)))
    (hb : ∀ self, W.Looks (model prog w) h (bindSpecial (.ref fI) self) (.ref fI, [self])) (hrest : rest.length ≤ sizeLine)
    (hq : codeAny (model prog w) A (.call (.ref fI) ⟨.ref (h.objs.size + 1) :: rest, kw⟩)
      (fun r s' => match r with
        | .ok (.ret v) => v = .none ∧ Q (.done (.ret (.ref (h.objs.size + 1)))) s'
        | .ok _ => False
        | .error e => E e s')
      ⟨(h.push (W.kdv_tup rest)).push (excO C h.objs.size), g, d, t, os⟩) :
    wpAny (model prog w) A (Builtin.«type.__call__» ⟨.ref C :: rest, kw⟩) Q E ⟨h, g, d, t, os⟩ := by
  repeat (first
    | with_reducible refine wpAny_loadPart_at hC ?_
    | with_reducible refine wpAny_madeBy_exc hC ?_
    | wp_step)
  refine codeAny_call_builtin_code (Code.quiet_builtin _ F.quiet) (check_newK F hC ?_)
  refine newK F hC ?_ hrest
  show wpAny _ _ _ _ _ _
  have k : ∀ b o, h.get? b = some o → ((h.push (W.kdv_tup rest)).push (excO C h.objs.size)).get? b = some o :=
    fun b o e => Heap.get?_push_of_some _ (Heap.get?_push_of_some _ e)
  have hC₁ := k _ _ hC
  have hget : ((h.push (W.kdv_tup rest)).push (excO C h.objs.size)).get? (h.objs.size + 1) = some (excO C h.objs.size) := by
    heap_get
  have hcC : (Value.ref C :: bmB).contains (.ref C) = true := by simp
  have i1 := hi.keeps k
  have b1 := (hb (.ref (h.objs.size + 1))).keeps k
  unfold isInstance
  repeat (first
    | with_reducible refine wpAny_loadPart_at hget ?_
    | (with_reducible refine wpAny_isSubtype_exc hC₁ ?_; rw [hcC])
    | wp_step)
  show wpAny _ _ (typeLookup (.ref C) _) _ _ _
  refine i1.at ?_
  refine wpAny_holding (wpAny_bind (b1.at ?_))
  refine wpAny_bind (wpAny_call (codeAny_mono hq fun r s' z => ?_))
  rcases r with e | (v | _ | _ | _) <;> first | exact z | exact z.elim | skip
  obtain ⟨rfl, z⟩ := z
  first
    | exact wpAny_pure (wpAny_pure z)
    | (wp_walk; exact z)
theorem callK (F : ExcBaseFacts B newId initId bmB) {rest : List Value} {fI : Addr}
    (hC : h.get? C = some (excClassObj nm q C N bs bmB hdct sn sub ab col dd k0 k1 k2 k3 k5 newId))
    (hi : W.Looks (model prog w) h (typeLookup (.ref C) "__init__") (some (.ref fI)))
    (hb : ∀ self, W.Looks (model prog w) h (bindSpecial (.ref fI) self) (.ref fI, [self])) (hrest : rest.length ≤ sizeLine)
    (hq : codeAny (model prog w) (A.under (.builtin "type.__call__" ⟨.ref C :: rest, kw⟩))
      (.call (.ref fI) ⟨.ref (h.objs.size + 1) :: rest, kw⟩) (W.InitBack (h.objs.size + 1) R)
      ⟨(h.push (W.kdv_tup rest)).push (excO C h.objs.size), g, d, t, os⟩) :
    codeAny (model prog w) A (.call (.ref C) ⟨rest, kw⟩) R ⟨h, g, d, t, os⟩ := by
  have f1 := tc_lookup
  have f2 := tc_bind (.ref C)
  have hTy : (⟨h, g, d, t, os⟩ : Shared).TypeIs (.ref C) "type" := ⟨_, hC, rfl⟩
  refine codeAny_of_tree ?_
  show wpAny _ _ (callAny (.ref C) _) _ _ _
  repeat (any_goals (first | assumption | with_reducible refine wpAny_loadPart_at hC ?_ | wp_step))
  refine ⟨rfl, ?_⟩
  refine codeAny_call_builtin_at (Code.quiet_builtin _ (by decide +kernel)) entry_typeCall
    (wpAny_check_type_call_sub hC (type_callK F hC hi hb hrest ?_))
  refine codeAny_mono hq fun r s' z => ?_
  rcases r with e | (v | _ | _ | _) <;> exact z
end
end JX
end PySem
set_option Elab.async false
set_option linter.all false
set_option maxRecDepth 100000
set_option maxHeartbeats 4000000
namespace JB
open PySem PySem.Spec PyProof.Rows L2
section
variable {X : Cx} {pins : List (Addr × Obj)} {σ : L2.St} {H : Hp} {s : Shared} {a C dx : Addr} {f : Str} {y : V} {u : Value}
variable {fs : List (Str × V)} {E : Value → Shared → Prop} {A : Around} {B newId initId : String} {bm : List Value}
theorem ExK.pass (T : ExK X.K C newId bm) (F : Base B newId initId bm) {cd : ClassData} (e : cd.mro = .ref C :: bm) (x : Value) :
    refuseLoop x "__setattr__" cd.mro = pure () := by
  rw [e, refuseLoop_ref]; exact F.pass x
theorem set_first {Q : Unit → Shared → Prop} (F : Base B newId initId bm) (T : ExK X.K C newId bm) (I : Inv X pins σ H s)
    (e : H a = some (exo a C none)) (hno : PySem.W.findIn X.K (.ref C) f = some none) (ry : RelV y u)
    (h : ∀ dx s', H dx = none → dx ≠ a →
      Inv X pins σ (upd (upd H dx (exd dx [(f, y)])) a (exo a C (some dx))) s' → Q () s') :
    wpAny (model X.prog X.w) A (setAttr (.ref a) f u) Q E s := by
  obtain ⟨cd, hcl, hm, hh⟩ := T.cd
  obtain ⟨t1, ho⟩ := exo_at I.hok e
  obtain ⟨hp, g, d, t, os⟩ := s
  refine PySem.W.set_plain I.kIn (od := none) (C := C)
    (ox := { cls := .ref C, dict := none, data := .fields #[.ref t1, .none, .none, .none, .bool false, .none] })
    ⟨ho, rfl, rfl, trivial⟩ T.sa ?_
  refine osa_first I.kIn ho hcl (by rw [hm, has_ty]; exact F.obj) (by rw [hm]; rfl) (T.pass F hm _) hh hno
    (fun h' tk' dx k dn dne hx hn => ?_)
  have hnd : H dx = none := I.hok.fresh dn
  have nd : ∀ {b : Addr} {o : Obj}, hp.get? b = some o → b ≠ dx :=
    fun {b o} q => Nat.ne_of_lt (Nat.lt_of_lt_of_le (Heap.lt_size q) dn)
  have na : ∀ {b : Addr}, H b = none → b ≠ a := by
    rintro b n rfl
    rw [e] at n
    cases n
  have U : Un X.fs [] H (upd (upd H dx (exd dx [(f, y)])) a (exo a C (some dx))) hp h' := by
    constructor
    · exact fun b o q n _ _ => k b o (na n) q
    · exact fun b o q n _ _ => ⟨o.slots, k b o (na n) q⟩
    · intro b o q n _
      rw [upd_ne (na n), upd_ne (nd q)]; exact n
    · intro b o q _
      by_cases hb : b = a
      · subst hb; exact ⟨_, hx⟩
      · exact ⟨o, k b o hb q⟩
    · intro b xs q
      rw [upd_ne (at_ne e q exo_tup), upd_ne (ne_of_none q hnd)]; exact q
    · intro b o v q
      rw [upd_ne (at_ne e q exo_frz), upd_ne (ne_of_none q hnd)]; exact q
    · intro b ps q
      exact ⟨#[], by rw [upd_ne (at_ne e q exo_tbl), upd_ne (ne_of_none q hnd), q]; simp⟩
  refine h dx _ hnd dne (I.un (t' := tk') U fun b o q => ?_)
  by_cases hb : b = a
  · subst hb
    rw [upd_same] at q
    cases q
    exact exo_ok hx
  rw [upd_ne hb] at q
  by_cases hd : b = dx
  · subst hd
    rw [upd_same] at q
    cases q
    exact exd_ok hn (relO_put (fs := []) ry fun g => True.intro)
  rw [upd_ne hd] at q
  refine (I.hok b o q).stay (fun c v hc z => k c v ?_ z) (fun c hc => ?_) fun c xs hc => ?_
  · rcases hc with rfl | hc
    · exact hb
    · exact at_ne e hc exo_own
  · rw [upd_ne (at_ne e hc exo_own), upd_ne (ne_of_none hc hnd)]; exact hc
  · rw [upd_ne (at_ne e hc exo_tup), upd_ne (ne_of_none hc hnd)]; exact hc
theorem set_more {Q : Unit → Shared → Prop} (F : Base B newId initId bm) (T : ExK X.K C newId bm) (I : Inv X pins σ H s)
    (e : H a = some (exo a C (some dx))) (ed : H dx = some (exd dx fs)) (hl : fs.length ≤ 900)
    (hno : PySem.W.findIn X.K (.ref C) f = some none) (ry : RelV y u)
    (h : ∀ s', Inv X pins σ (upd H dx (exd dx ((f, y) :: fs))) s' → Q () s') :
    wpAny (model X.prog X.w) A (setAttr (.ref a) f u) Q E s := by
  obtain ⟨cd, hcl, hm, hh⟩ := T.cd
  obtain ⟨t1, ho⟩ := exo_at I.hok e
  obtain ⟨mA, hns, rel⟩ := exd_at I.hok ed
  have hw := within_of rel
  obtain ⟨hp, g, d, t, os⟩ := s
  obtain ⟨oD, _, _, hoD, _, _⟩ := hns.count hw
  refine PySem.W.set_plain I.kIn (od := some oD) (C := C)
    (ox := { cls := .ref C, dict := some dx, data := .fields #[.ref t1, .none, .none, .none, .bool false, .none] })
    ⟨ho, rfl, rfl, hoD⟩ T.sa ?_
  refine osa_more I.kIn ho hns hw (by rw [List.length_map]; omega) hcl (by rw [hm, has_ty]; exact F.obj) (by rw [hm]; rfl)
    (T.pass F hm _) hh hno (fun h' tk' k hn => ?_)
  have hd : ∃ o, h'.get? dx = some o := by
    obtain ⟨o, _, _, e', _⟩ := hn
    exact ⟨o, e'⟩
  exact h _ (I.write (t' := tk') (x := dx) (e := dx) (o := exd dx ((f, y) :: fs)) (by rw [ed]; exact True.intro)
    (.inl rfl) k hd (exd_ok hn (relO_put ry rel)))
theorem binit_ok {us : List Value} {Q : Value → Shared → Prop} (F : Base B newId initId bm) (T : ExK X.K C newId bm)
    (I : Inv X pins σ H s) (e : H a = some (exo a C none)) (hl : us.length ≤ sizeLine)
    (h : ∀ s', Inv X pins σ H s' → Q .none s') :
    wpAny (model X.prog X.w) A (call (.builtin initId) (.ref a :: us)) Q E s := by
  obtain ⟨nm, q, N, bs, sn, sub, ab, col, dd, k0, k1, k2, k3, k5, hC⟩ := T.cls
  obtain ⟨t1, ho⟩ := exo_at I.hok e
  obtain ⟨hp, g, d, t, os⟩ := s
  refine wpAny_call (PySem.HandSPX.init_base F.facts (fun _ => rfl) (I.kIn _ _ hC) ho hl fun h' t2 k hx => ?_)
  have J := I.write (t' := t) (x := a) (e := a) (o := exo a C none) (by rw [e]; exact True.intro) (.inl rfl) k ⟨_, hx⟩ (exo_ok hx)
  have eu : upd H a (exo a C none) = H := by
    funext b
    by_cases hb : b = a
    · rw [hb, upd_same, e]
    · rw [upd_ne hb]
  rw [eu] at J
  exact h _ J
end
def IsEx (K : PySem.W.Frag) (C : Addr) : Prop := ∃ B newId initId bm, Base B newId initId bm ∧ ExK K C newId bm
def tBin (K : PySem.W.Frag) (newId : String) (bm : List Value) (ta : TA) : TE := fun σ H Q => ta σ H fun vs H1 =>
  ∃ (a C : Addr) (ws : List V), vs = .ref a :: ws ∧ ws.length ≤ 1000 ∧ ExK K C newId bm ∧ H1 a = some (exo a C none) ∧ Q .non H1
def tSetE (K : PySem.W.Frag) (f : Str) (to te : TE) : TS := fun D σ H => te σ H fun y H1 => to σ H1 fun x H2 =>
  ∃ a C : Addr, x = .ref a ∧ IsEx K C ∧ PySem.W.findIn K (.ref C) f = some none ∧
    ((H2 a = some (exo a C none) ∧ ∀ dx, H2 dx = none → dx ≠ a →
        D.nx σ (upd (upd H2 dx (exd dx [(f, y)])) a (exo a C (some dx)))) ∨
      ∃ (dx : Addr) (fs : List (Str × V)), H2 a = some (exo a C (some dx)) ∧ H2 dx = some (exd dx fs) ∧ fs.length ≤ 900 ∧
        D.nx σ (upd H2 dx (exd dx ((f, y) :: fs))))
section
variable {X : Cx} {o e : Expr} {es : List Expr} {to te : TE} {ta : TA} {f : Str} {p p' p1 p2 pos : Pos}
variable {B newId initId : String} {bm : List Value}
theorem pe_bin {b : Str} {pl : Sem Bool} (F : Base B newId initId bm) (hg : Gl X b) (hm : X.mg b = none)
    (hv : bootBuiltins b = some (.type B)) (hty : typeOf (.type B) = pure (.type "type")) (hst : Manifest.isStub B = false)
    (vV : PySem.W.findCls X.K (.type B) (.type "type") "__init__" = some (.val (.builtin initId)))
    (hh : PySem.W.handedIn (.builtin initId) = true)
    (ha : PA X (e :: es) ta) (hn : b ≠ "__name__" := by decide) (hdb : (b == ("__debug__" : Str)) = false := by decide)
    (hc : eval (.Call (.Attribute (.Name b p1) "__init__" p2) (e :: es) [] pos) X.env = (do
      let ov ← eval (.Name b p1) X.env
      standAt p2.atName
      let (f, first) ← holding [ov] (getMethod ov "__init__" pl)
      callWith pos f first (backTo pos (starEach (e :: es) X.env)) (backToKw pos (keywordEach [] X.env))) := by rfl)
    (he : starEach (e :: es) X.env = (false, eval e X.env) :: starEach es X.env := by rfl)
    (hpl : (backTo pos (starEach es X.env)).any (·.1) = false := by rfl) :
    PE X (.Call (.Attribute (.Name b p1) "__init__" p2) (e :: es) [] pos) (tBin X.K newId bm ta) := by
  refine ⟨fun pins s σ H Q I h => ?_⟩
  refine PySem.W.methodCall_KW (ld_blt I hg hm hv ?_ hn hdb) hc
  obtain ⟨m, fr⟩ := I.fr
  refine PySem.W.method_type fr I.ok.mod.kin hty hst vV hh ?_
  show wpAny _ _ (callWith pos (Value.builtin initId) [] (backTo pos (starEach (e :: es) X.env)) []) _ _ _
  refine PyProof.Rows.callWith_method1 (thn (ha.run pos pins _ σ H _ (I.tok _) h)
    fun us s1 ⟨vs, H1, I1, r1, a, C, ws, ev, hl, T, ea, q⟩ => ?_) he hpl
  subst ev
  cases r1 with
  | @cons _ u0 _ ur ra rw' =>
    obtain rfl : u0 = Value.ref a := ra
    have hlen : ur.length ≤ sizeLine := by
      rw [← Paired.length rw', sizeLine_eq]
      omega
    exact binit_ok F T I1 ea hlen fun s' J => ⟨.non, H1, J, rfl, q⟩
theorem ps_setE (ho : PE X o to) (he : PE X e te)
    (hs : swapsWith e (some (.Attribute o f p')) pos.line X.env = pure false := by rfl) :
    PS X (.Assign [.Attribute o f p'] e pos) (tSetE X.K f to te) := by
  refine ⟨fun pins s σ H D I h => ?_⟩
  refine plainObj_wpAny_Assign_Attribute (thn (he.run pins s σ H _ I h) fun v s1 ⟨y, H1, I1, r1, q1⟩ =>
    thn (ho.run pins s1 σ H1 _ I1 q1) fun u s2 ⟨x, H2, I2, r2, a, C, ex, ⟨B, newId, initId, bm, F, T⟩, hno, q⟩ => ?_) hs
  subst ex
  obtain rfl : u = Value.ref a := r2
  rcases q with ⟨ea, q⟩ | ⟨dx, fs, ea, ed, hl, q⟩
  · exact set_first F T I2 ea hno r1 fun dx s' n ne J => ⟨σ, _, J, q dx n ne⟩
  · exact set_more F T I2 ea ed hl hno r1 fun s' J => ⟨σ, _, J, q⟩
end
end JB
set_option Elab.async false
set_option linter.all false
set_option maxRecDepth 100000
set_option maxHeartbeats 4000000
namespace JB
open PySem PySem.Spec PyProof.Rows L2
section
variable {X : Cx} {pins : List (Addr × Obj)} {σ : L2.St} {H : Hp} {s : Shared} {C fI : Addr} {fd : FuncData} {ps ks : List Str}
variable {sp : Sp} {k : Nat} {B newId initId : String} {bm : List Value} {x : Str} {p pos : Pos} {e : Expr} {es : List Expr}
variable {ta : TA} {Q : VK}
end
end JB
set_option Elab.async false
set_option linter.all false
set_option maxRecDepth 100000
set_option maxHeartbeats 4000000
namespace MI
open PySem PySem.Spec PyProof.Rows L2 JB
section
variable {X : Cx} {pins : List (Addr × Obj)} {σ : L2.St} {H : Hp} {s : Shared}
def ownH (X : Cx) : Hp := fun b => match X.s_0.heap.get? b with
  | none => none
  | some _ => X.H_0 b
theorem ownH_at {b : Addr} {o : Obj} (h : X.s_0.heap.get? b = some o) : ownH X b = X.H_0 b := by
  unfold ownH
  rw [h]
theorem ownH_sub {b : Addr} {u : HO} (h : ownH X b = some u) : X.H_0 b = some u ∧ ∃ o, X.s_0.heap.get? b = some o := by
  unfold ownH at h
  cases e : X.s_0.heap.get? b with
  | none => rw [e] at h; cases h
  | some o => rw [e] at h; exact ⟨h, o, rfl⟩
theorem ownH_none {b : Addr} (h : X.H_0 b = none) : ownH X b = none := by
  unfold ownH
  split
  · rfl
  · exact h
abbrev ownX (X : Cx) : Cx := { X with H_0 := ownH X }
theorem own_ok (ok : X.Ok) : (ownX X).Ok :=
  ⟨ok.mod, ok.kind, ok.glob, ok.blt, ok.above, ok.inj, ok.has, ok.cab, ok.hd, ok.frames, ok.stk, ok.exf, fun b o e => ⟨(ok.bs b o e).1, ownH_none (ok.bs b o e).2⟩, ok.bsz, ok.noex, ok.exfs, ok.funs, fun b h => ownH_none (ok.frf b h)⟩
theorem own_inv (I : Inv X pins σ H s) : Inv (ownX X) pins σ H s :=
  ⟨own_ok I.ok, I.os, I.bare, ⟨fun b o e n hf hx => I.base.keep b o e ((ownH_at (X := X) e).symm.trans n) hf hx, fun b o e n hf hx => I.base.slot b o e ((ownH_at (X := X) e).symm.trans n) hf hx,
    fun b o e n hx => I.base.free b o e ((ownH_at (X := X) e).symm.trans n) hx, I.base.there, fun b xs e => I.base.tups b xs (ownH_sub e).1, fun b o u e => I.base.frzs b o u (ownH_sub e).1, fun b ps e => I.base.tbls b ps (ownH_sub e).1⟩,
    I.loc, I.cell, I.free, I.freeC, I.pin, I.hok, I.len⟩
theorem untrackN {a : Addr} {φ : Heap → Prop} (I : Inv X pins σ H s) (ha : H a = some (.ext φ)) (n0 : X.s_0.heap.get? a = none) (hx : X.ex = []) :
    ∃ G : Heap, (∀ b o, G.get? b = some o → s.heap.get? b = some o) ∧ G.get? a = none ∧ Inv X pins σ (delH H a) { s with heap := G } := by
  have f0 : Fr0 (ownX X).H_0 a := fun o e => by
    obtain ⟨_, o', e'⟩ := ownH_sub (show ownH X a = some o from e)
    rw [n0] at e'; cases e'
  obtain ⟨G, g1, g2, J⟩ := (own_inv I).untrack ha f0 hx
  have nt : ∀ {b u}, H b = some u → (∀ φ, u ≠ .ext φ) → delH H a b = some u := fun {b u} e d => by
    rw [delH_ne (fun z => by rw [z, ha] at e; cases e; exact d _ rfl)]; exact e
  refine ⟨G, g1, g2, ⟨I.ok, J.os, J.bare, ⟨fun b o e n hf hx => J.base.keep b o e (ownH_none n) hf hx, fun b o e n hf hx => J.base.slot b o e (ownH_none n) hf hx,
    fun b o e n hx => J.base.free b o e (ownH_none n) hx, J.base.there, fun b xs e => nt (I.base.tups b xs e) (fun _ z => by cases z), fun b o u e => nt (I.base.frzs b o u e) (fun _ z => by cases z), fun b ps e => ?_⟩,
    J.loc, J.cell, J.free, J.freeC, J.pin, J.hok, J.len⟩⟩
  obtain ⟨m, z⟩ := I.base.tbls b ps e
  exact ⟨m, nt z (fun _ z => by cases z)⟩
theorem not_there (I : Inv X pins σ H s) {a : Addr} (hx : X.ex = []) (h : s.heap.get? a = none) : X.s_0.heap.get? a = none := by
  cases e : X.s_0.heap.get? a with
  | none => rfl
  | some o =>
    obtain ⟨o', e'⟩ := I.base.there a o e (by rw [hx]; simp)
    rw [h] at e'; cases e'
end
def FinE (C a : Addr) (H : Hp) (Q : XK) : Prop := (H a = some (exo a C none) ∧ Q (.ref C) none (delH H a)) ∨
  ∃ d fs, H a = some (exo a C (some d)) ∧ H d = some (exd d fs) ∧ Q (.ref C) (some d) (delH (upd H d (.xd fs)) a)
def tMkX (C : Addr) (sp : Sp) (ta : TA) : L2.St → Hp → XK → Prop := fun σ H Q => ta σ H fun vs H1 => vs.length ≤ 1000 ∧ ∀ a, H1 a = none →
  sp (.ref a :: vs) (upd H1 a (exo a C none)) (fun v H2 => v = .non ∧ FinE C a H2 Q) (fun _ _ _ => False)
section
variable {X : Cx} {pins : List (Addr × Obj)} {σ : L2.St} {H : Hp} {s : Shared} {C fI : Addr} {fd : FuncData} {ps : List Str}
variable {sp : Sp} {k : Nat} {B newId initId : String} {bm : List Value} {x : Str} {p pos : Pos} {e : Expr} {es : List Expr}
variable {ta : TA} {Q : XK}
theorem exd_ne_exo {d a C : Addr} {o : Option Addr} {fs : List (Str × V)} {h : Heap} {P : Program} {w : World} {H : Hp} (hok : HOk P w H h) (ha : H a = some (exo a C o)) (hd : H d = some (exd d fs)) : d ≠ a := fun z => by
  obtain ⟨t0, hoe⟩ := exo_at hok ha
  obtain ⟨mA, hns, _⟩ := exd_at hok hd
  obtain ⟨o, es, ep, e1, e2, _⟩ := hns
  rw [z, hoe] at e1
  have z2 := Option.some.inj e1
  subst z2
  cases e2
theorem fin_E (F : Base B newId initId bm) (T : ExK X.K C newId bm) (hx : X.ex = []) {a : Addr} (I : Inv X pins σ H s) (n0 : X.s_0.heap.get? a = none) (h : FinE C a H Q) : MkP X pins σ Q (.ref a) s := by
  have R : Raises X (.ref C) := raises_own (T.bas F) T.ty
  rcases h with ⟨ha, q⟩ | ⟨d, fs, ha, hd, q⟩
  · obtain ⟨t0, ho⟩ := exo_at I.hok ha
    obtain ⟨G, g1, g2, J⟩ := untrackN I ha n0 hx
    exact ⟨a, _, _, _, _, .ref C, none, rfl, J, g1, g2, ho, ⟨rfl, rfl⟩, rfl, rfl, delH_same, rfl, I.bare, R, q⟩
  · have hne := exd_ne_exo I.hok ha hd
    obtain ⟨t0, ho⟩ := exo_at I.hok ha
    obtain ⟨mA, hns, rel⟩ := exd_at I.hok hd
    have hdo : ∃ o, s.heap.get? d = some o := by
      obtain ⟨o, _, _, e', _⟩ := hns
      exact ⟨o, e'⟩
    have J1 : Inv X pins σ (upd H d (.xd fs)) s := I.write (t' := s.toks) (h' := s.heap) (x := d) (e := d) (o := .xd fs) (by rw [hd]; exact True.intro) (.inl rfl) (fun b u _ e => e) hdo ⟨mA, hns, rel⟩
    obtain ⟨G, g1, g2, J⟩ := untrackN J1 (by rw [upd_ne (Ne.symm hne)]; exact ha) n0 hx
    exact ⟨a, _, _, _, _, .ref C, some d, rfl, J, g1, g2, ho, ⟨rfl, rfl⟩, rfl, rfl, delH_same, rfl, I.bare, R, q⟩
theorem run_mkX (F : Base B newId initId bm) (T : ExK X.K C newId bm) (hx : X.ex = [])
    (iC : PySem.W.findIn X.K (.ref C) "__init__" = some (some (.ref fI))) (tI : PySem.W.typeIn X.K (.ref fI) = some (.type "function"))
    (hs : JB.Still X.A) (F1 : FnG X.prog X.w X.K X.mg X.base CX0 k fI fd ps sp) (hr : Room (k + 1) X.A) {us ws : List Value}
    {vs : List V} (I : Inv X pins σ H s)
    (hb : ∀ (s' : Shared) (self : Value), X.K.In s'.heap → BindsTo s' fd ⟨self :: us, []⟩ (ps.zip (self :: ws)))
    (rv : Vals vs ws) (hus : us.length ≤ sizeLine)
    (h : ∀ a, H a = none → sp (.ref a :: vs) (upd H a (exo a C none)) (fun v H2 => v = .non ∧ FinE C a H2 Q) (fun _ _ _ => False)) :
    wpAny (model X.prog X.w) X.A (call (.ref C) us []) (MkP X pins σ Q) X.xe s := by
  obtain ⟨nm, q, N, bs, sn, sub, ab, col, dd, k0, k1, k2, k3, k5, hC⟩ := T.cls
  obtain ⟨hp, g, dr, tk, os⟩ := s
  have hsz : hp.objs.size ≤ hp.objs.size + 1 := Nat.le_succ _
  have hn : H (hp.objs.size + 1) = none := I.hok.fresh hsz
  have hq := h (hp.objs.size + 1) hn
  have n0 : X.s_0.heap.get? (hp.objs.size + 1) = none := not_there I hx (Heap.get?_none_of_le hsz)
  have kk : ∀ b o, hp.get? b = some o →
      ((hp.push (PySem.W.kdv_tup us)).push (PySem.HandSPX.excO C hp.objs.size)).get? b = some o :=
    fun b o e => Heap.get?_push_of_some _ (Heap.get?_push_of_some _ e)
  have hget : ((hp.push (PySem.W.kdv_tup us)).push (PySem.HandSPX.excO C hp.objs.size)).get? (hp.objs.size + 1)
      = some (PySem.HandSPX.excO C hp.objs.size) := by heap_get
  have I2 : Inv X pins σ (upd H (hp.objs.size + 1) (exo (hp.objs.size + 1) C none))
      ⟨(hp.push (PySem.W.kdv_tup us)).push (PySem.HandSPX.excO C hp.objs.size), g, dr, tk, os⟩ :=
    I.laid (t' := tk) (a := hp.objs.size + 1) (o := exo (hp.objs.size + 1) C none)
      (h' := (hp.push (PySem.W.kdv_tup us)).push (PySem.HandSPX.excO C hp.objs.size)) kk hsz (exo_ok hget)
  have r2 : Vals (V.ref (hp.objs.size + 1) :: vs) (Value.ref (hp.objs.size + 1) :: ws) := .cons rfl rv
  refine wpAny_call (PySem.JX.callK F.facts (I.kIn _ _ hC) (PySem.W.looks_findIn I.kIn iC)
    (fun self => PySem.W.bind_fn I.kIn self tI) hus
    (codeAny_mono (F1.goes _ X.stack _ _ ⟨Value.ref (hp.objs.size + 1) :: us, []⟩ (Value.ref (hp.objs.size + 1) :: ws) _ _
      (fun _ _ _ => False) (still_make hs) (hr.make C us []) (I2.env0.make C us []) (hb _ _ I2.kIn) r2 hq) fun r s' hq' => ?_))
  cases r with
  | error er => exact False.elim hq'
  | ok fl =>
    cases fl with
    | ret u =>
      obtain ⟨v, H', I3, rv', ev, q3⟩ := I2.after hq'
      subst ev
      exact ⟨rv', fin_E F T hx I3 n0 q3⟩
    | next => exact False.elim hq'
    | brk => exact False.elim hq'
    | cont => exact False.elim hq'
theorem pmk_mk (F : Base B newId initId bm) (T : ExK X.K C newId bm) (hx : X.ex = [])
    (iC : PySem.W.findIn X.K (.ref C) "__init__" = some (some (.ref fI))) (tI : PySem.W.typeIn X.K (.ref fI) = some (.type "function"))
    (hs : JB.Still X.A) (F1 : FnG X.prog X.w X.K X.mg X.base CX0 k fI fd ps sp) (hr : Room (k + 1) X.A)
    (hb : Binds X.K fd ps []) (hg : Gl X x) (hm : X.mg x = some (.ref C)) (ha : PA X (e :: es) ta)
    (hdb : (x == ("__debug__" : Str)) = false := by decide)
    (he : starEach (e :: es) X.env = (false, eval e X.env) :: starEach es X.env := by rfl)
    (hpl : (backTo pos (starEach es X.env)).any (·.1) = false := by rfl) :
    PMk X (.Call (.Name x p) (e :: es) [] pos) (tMkX C sp ta) := by
  intro pins s σ H Q I h
  refine wpAny_Call_Name_kw (ld_glob I hg hm ?_ hdb)
  refine PySem.W.callWith_K (h₀ := X.base) I.ok.mod.kin T.kp (thn (ha.run pos pins s σ H _ I h)
    fun us s1 ⟨vs, H1, I1, r, q⟩ => ⟨I1.kIn, ?_⟩) he hpl
  have hus : us.length ≤ sizeLine := by
    rw [← r.length, sizeLine_eq]
    have := q.1
    omega
  have hl : us.length + 1 = ps.length := by
    have z := F1.many _ _ _ _ (q.2 s1.heap.objs.size (I1.hok.fresh (Nat.le_refl _)))
    rw [List.length_cons, r.length] at z
    exact z
  refine run_mkX F T hx iC tI hs F1 hr (us := us) (ws := us) I1 (fun s' self X' => ?_) r hus q.2
  have z := hb s' (self :: us) X' (by rw [List.append_nil, List.length_cons]; exact hl)
  rw [List.append_nil] at z
  exact z
end
end MI
set_option Elab.async false
set_option linter.all false
set_option maxRecDepth 100000
set_option maxHeartbeats 4000000
namespace MI
open PySem PySem.Spec PyProof.Rows L2 JB
section
variable {X : Cx} {pins : List (Addr × Obj)} {σ : L2.St} {H : Hp} {s : Shared}
end
section
variable {X : Cx} {x x1 x2 x3 x4 : Str} {c c1 c2 c3 c4 : Value} {np p1 p2 p3 p4 tpos : Pos} {kk : Nat}
end
section
variable {X : Cx} {n : Str} {t : Expr} {i : Nat} {body suite : List Stmt} {b₀ : Stmt} {pos pos' : Pos} {tb : WX → TS} {ts : TS} {Wout : WX} {tt : Value → Option Bool}
end
end MI
set_option Elab.async false
set_option linter.all false
set_option maxRecDepth 100000
set_option maxHeartbeats 4000000
namespace MI
open PySem PySem.Spec PyProof.Rows L2 JB
abbrev TakesE (X : Cx) (E : XK) : Prop := Takes X fun c d _ H => E c d H
def spE1 (C : Addr) (f : Str) : Sp := fun vs H Q _ => ∃ (a : Addr) (v : V), vs = [.ref a, v] ∧ H a = some (exo a C none) ∧
  ((∃ y : Str, v = .str y ∧ y.length ≤ 400) ∨ ∃ i : Int, v = .int i ∧ i.natAbs.log2 < 1920 ∧ (Str.ofString (toString i)).length ≤ 400) ∧
  ∀ dx, H dx = none → dx ≠ a → Q .non (upd (upd H dx (exd dx [(f, v)])) a (exo a C (some dx)))
structure ErK (P : Program) (w : World) (K : PySem.W.Frag) (mg : Str → Option Value) (base : Heap) (x : Str) (C : Addr) (n : Nat) (sp : Sp) : Prop where
  ex : ∃ (B newId initId : String) (bm : List Value) (fI : Addr) (fd : FuncData) (ps : List Str), Base B newId initId bm ∧ ExK K C newId bm ∧ PySem.W.findIn K (.ref C) "__init__" = some (some (.ref fI)) ∧ PySem.W.typeIn K (.ref fI) = some (.type "function") ∧
    FnG P w K mg base CX0 1 fI fd ps sp ∧ Binds K fd ps [] ∧ ps.length = n + 1
  gl : mg x = some (.ref C)
def shortB : MV → Bool
  | .str s => decide (s.length ≤ 400)
  | .int i => decide (i.natAbs.log2 < 1920) && decide ((Str.ofString (toString i)).length ≤ 400)
  | _ => false
def gRaise1 (c f : Nat) (e : ME) : MS := fun m h => (e m h).bindS fun v h1 => if shortB v = true then .er (.own c [f] [v]) h1 else .bad
section
variable {X : Cx} {T : Nat → Addr} {E : XK} {x : Str} {p pos pos2 : Pos} {c : Nat} {e : Expr} {ge : ME}
theorem short_V {ρ : List Addr} {H : Hp} {Z : Zt} {v : MV} {u : V} (r : RV Z ρ H v u) (h : shortB v = true) :
    (∃ y : Str, u = .str y ∧ y.length ≤ 400) ∨ ∃ i : Int, u = .int i ∧ i.natAbs.log2 < 1920 ∧ (Str.ofString (toString i)).length ≤ 400 := by
  cases r with
  | str s => exact .inl ⟨_, rfl, by show s.toArray.size ≤ 400; rw [List.size_toArray]; exact of_decide_eq_true h⟩
  | int i =>
    have h' := Bool.and_eq_true_iff.mp h
    exact .inr ⟨i, rfl, of_decide_eq_true h'.1, of_decide_eq_true h'.2⟩
  | _ => cases h
theorem del_two {H : Hp} {a d : Addr} {o1 o2 o3 : HO} (ha : H a = none) (hd : d ≠ a) : delH (upd (upd (upd H d o1) a o2) d o3) a = upd H d o3 := by
  funext b
  by_cases e : b = a
  · subst e; rw [delH_same, upd_ne (Ne.symm hd), ha]
  · rw [delH_ne e]
    by_cases e2 : b = d
    · subst e2; rw [upd_same, upd_same]
    · rw [upd_ne e2, upd_ne e, upd_ne e2, upd_ne e2]
theorem js_raise1 {f : Nat} {fs : Str} (hf : fs = nm f) (tk : TakesE X E) (hc : X.calm = true) (hx : X.ex = []) (hs : JB.Still X.A) (hr : Room 2 X.A) (K : ErK X.prog X.w X.K X.mg X.base x (T c) 1 (spE1 (T c) fs)) (hg : Gl X x) (he : JE X T E e ge)
    (hdb : (x == ("__debug__" : Str)) = false := by decide) (hst : starEach [e] X.env = (false, eval e X.env) :: starEach [] X.env := by rfl) :
    JS X T E (.Raise (some (.Call (.Name x p) [e] [] pos2)) none pos) (gRaise1 c f ge) := by
  obtain ⟨⟨B, newId, initId, bm, fI, fd, ps, F, Tk, iC, tI, F1, hb, hn⟩, gl⟩ := K
  refine PS.le (ps_raise hc tk (pmk_mk F Tk hx iC tI hs F1 hr hb hg gl (pa_cons he pa_nil hst) hdb hst)) fun D σ H ⟨ρ, m, h, s, q⟩ => ?_
  refine sE s q fun ρ1 h1 H1 v u s1 e1 r1 q1 => ?_
  by_cases z : shortB v = true
  · rw [if_pos z] at q1
    refine ⟨by simp, fun a ha => ⟨a, u, rfl, upd_same, short_V r1 z, fun dx n1 n2 => ⟨rfl, .inr ⟨dx, _, upd_same, by rw [upd_ne n2, upd_same], ?_⟩⟩⟩⟩
    have hdx : H1 dx = none := upd_none n1
    have e3 : (upd (upd (upd (upd H1 a (exo a (T c) none)) dx (exd dx [(fs, u)])) a (exo a (T c) (some dx))) dx (.xd [(fs, u)])) = upd (upd (upd H1 dx (exd dx [(fs, u)])) a (exo a (T c) (some dx))) dx (.xd [(fs, u)]) := by
      funext b
      by_cases e : b = dx
      · subst e; rw [upd_same, upd_same]
      · rw [upd_ne e, upd_ne e]
        by_cases e2 : b = a
        · subst e2; rw [upd_same, upd_same]
        · rw [upd_ne e2, upd_ne e2, upd_ne e, upd_ne e2, upd_ne e]
    rw [e3, del_two ha n2]
    exact q1 ρ1 _ (Ext.still1 hdx) (s1.hr.still1 hdx) (some dx) [u] (.inr ⟨dx, rfl, by rw [upd_same, hf]; rfl, rfl⟩) (.cons (r1.ext (Ext.still1 hdx)) .nil)
  · rw [if_neg z] at q1
    exact q1.elim
end
section
variable {X : Cx} {T : Nat → Addr} {E : XK} {n : Str} {t : Expr} {i : Nat} {body suite : List Stmt} {b₀ : Stmt} {pos pos' : Pos} {tt : Value → Option Bool} {tb : Nat → Option Bool} {gb gs : MS}
end
end MI
set_option Elab.async false
set_option linter.all false
set_option maxRecDepth 100000
set_option maxHeartbeats 4000000
namespace MI
open PySem PySem.Spec PyProof.Rows L2 JB
section
variable {X : Cx} {pins : List (Addr × Obj)} {σ : L2.St} {H : Hp} {s : Shared} {a C : Addr}
end
section
variable {X : Cx} {T : Nat → Addr} {E : XK} {a ec : Expr} {es : List Expr} {p1 p2 pos : Pos} {ga : ME} {tb : Nat → Option Bool} {cv : V} {u : Value} {cs : List V} {us : List Value} {kk : Nat}
end
def bB : Nat → String × String × String × List Value
  | 0 => ("ValueError", "ValueError.__new__", "ValueError.__init__", [.type "ValueError", .type "Exception", .type "BaseException", .type "object"])
  | 1 => ("LookupError", "LookupError.__new__", "LookupError.__init__", [.type "LookupError", .type "Exception", .type "BaseException", .type "object"])
  | 2 => ("RuntimeError", "RuntimeError.__new__", "RuntimeError.__init__", [.type "RuntimeError", .type "Exception", .type "BaseException", .type "object"])
  | _ => ("OverflowError", "OverflowError.__new__", "OverflowError.__init__", [.type "OverflowError", .type "ArithmeticError", .type "Exception", .type "BaseException", .type "object"])
theorem bB_ok : ∀ k : Nat, Base (bB k).1 (bB k).2.1 (bB k).2.2.1 (bB k).2.2.2
  | 0 => base_V
  | 1 => base_L
  | 2 => base_R
  | _ + 3 => base_O
def exShape (K : PySem.W.Frag) (C : Addr) (newId : String) (bm : List Value) : Bool := match K.lookup C with
  | some ⟨.type t, _, .cls cd, sl⟩ => (match cd.mro, sl.toList with
    | .ref C' :: bm', [_, _, _, _, some (.builtin n), _] => decide (t = "type") && (decide (C' = C) && (decide (bm' = bm) && (decide (n = newId) && (cd.hasDict && !cd.hasDel))))
    | _, _ => false)
  | _ => false
def exkB (x : Str) (k : Nat) (K : PySem.W.Frag) : Bool :=
  exShape K (He.ga K x) (bB k).2.1 (bB k).2.2.2 && (decide (PySem.W.findIn K (.ref (He.ga K x)) "__setattr__" = some (some (.builtin "object.__setattr__"))) &&
  (decide (PySem.W.findIn K (.ref (He.ga K x)) "__getattribute__" = some (some (.builtin "BaseException.__getattribute__"))) && (decide (PySem.W.findIn K (.ref (He.ga K x)) "__getattr__" = some none) &&
  (decide (PySem.W.findIn K (.ref (He.ga K x)) "__class__" = some (some (.builtin "object.__class__"))) && (decide (PySem.W.typeIn K (.ref (He.ga K x)) = some (.type "type")) && PySem.W.keepIn K (.ref (He.ga K x)))))))
def cfIs (r : Option PySem.W.CFound) (n : String) : Bool := match r with
  | some (.val (.builtin m)) => decide (m = n)
  | _ => false
theorem cfIs_ok {r : Option PySem.W.CFound} {n : String} (h : cfIs r n = true) : r = some (.val (.builtin n)) := by
  unfold cfIs at h
  split at h
  · rw [of_decide_eq_true h]
  · cases h
def exiB (x : Str) (k : Nat) (K : PySem.W.Frag) : Bool :=
  decide (PySem.W.findIn K (.ref (He.ga K x)) "__init__" = some (some (.ref (He.ma K (He.ga K x) "__init__")))) && (decide (PySem.W.typeIn K (.ref (He.ma K (He.ga K x) "__init__")) = some (.type "function")) &&
  cfIs (PySem.W.findCls K (.type (bB k).1) (.type "type") "__init__") (bB k).2.2.1)
def nofB (x f : Str) (K : PySem.W.Frag) : Bool := decide (PySem.W.findIn K (.ref (He.ga K x)) f = some none)
theorem exShape_ok {K : PySem.W.Frag} {C : Addr} {newId : String} {bm : List Value} (h : exShape K C newId bm = true) : ∃ nm q N bs sn sub ab col dd k0 k1 k2 k3 k5,
    K.lookup C = some (excClassObj nm q C N bs bm true sn sub ab col dd k0 k1 k2 k3 k5 newId) := by
  unfold exShape at h
  split at h
  · rename_i t dd cd sl ho
    split at h
    · rename_i C' bm' k0 k1 k2 k3 n k5 hm hs
      have h1 := Bool.and_eq_true_iff.mp h
      have h2 := Bool.and_eq_true_iff.mp h1.2
      have h3 := Bool.and_eq_true_iff.mp h2.2
      have h4 := Bool.and_eq_true_iff.mp h3.2
      have h5 := Bool.and_eq_true_iff.mp h4.2
      obtain rfl := of_decide_eq_true h1.1
      obtain rfl := of_decide_eq_true h2.1
      obtain rfl := of_decide_eq_true h3.1
      obtain rfl := of_decide_eq_true h4.1
      obtain ⟨nm, bs, mro, ns, qn, hd, sn, sub, ab, col, del⟩ := cd
      have h5a := h5.1
      have h5b := h5.2
      dsimp only at hm h5a h5b
      subst hm
      have hdel : del = false := by simpa using h5b
      subst h5a hdel
      obtain ⟨l⟩ := sl
      have hs' : l = [k0, k1, k2, k3, some (.builtin n), k5] := hs
      subst hs'
      exact ⟨nm, qn, ns, bs, sn, sub, ab, col, dd, k0, k1, k2, k3, k5, ho⟩
    · cases h
  · cases h
theorem exk_of {K : PySem.W.Frag} {x : Str} {k : Nat} (h : exkB x k K = true) : ExK K (He.ga K x) (bB k).2.1 (bB k).2.2.2 := by
  have h1 := Bool.and_eq_true_iff.mp h
  have h2 := Bool.and_eq_true_iff.mp h1.2
  have h3 := Bool.and_eq_true_iff.mp h2.2
  have h4 := Bool.and_eq_true_iff.mp h3.2
  have h5 := Bool.and_eq_true_iff.mp h4.2
  have h6 := Bool.and_eq_true_iff.mp h5.2
  exact ⟨exShape_ok h1.1, of_decide_eq_true h2.1, of_decide_eq_true h3.1, of_decide_eq_true h4.1, of_decide_eq_true h5.1, of_decide_eq_true h6.1, h6.2⟩
theorem isEx_of {K : PySem.W.Frag} {x : Str} {k : Nat} (h : exkB x k K = true) : IsEx K (He.ga K x) := ⟨_, _, _, _, bB_ok k, exk_of h⟩
theorem exi_of {K : PySem.W.Frag} {x : Str} {k : Nat} (h : exiB x k K = true) : PySem.W.findIn K (.ref (He.ga K x)) "__init__" = some (some (.ref (He.fAd K (x, some "__init__")))) ∧ PySem.W.typeIn K (.ref (He.fAd K (x, some "__init__"))) = some (.type "function") ∧
    PySem.W.findCls K (.type (bB k).1) (.type "type") "__init__" = some (.val (.builtin (bB k).2.2.1)) := by
  have h1 := Bool.and_eq_true_iff.mp h
  have h2 := Bool.and_eq_true_iff.mp h1.2
  exact ⟨of_decide_eq_true h1.1, of_decide_eq_true h2.1, cfIs_ok h2.2⟩
end MI
set_option Elab.async false
set_option linter.all false
set_option maxRecDepth 100000
set_option maxHeartbeats 4000000
namespace MI
open PySem PySem.Spec PyProof.Rows L2 JB
theorem nof_of {K : PySem.W.Frag} {x f : Str} (h : nofB x f K = true) : PySem.W.findIn K (.ref (He.ga K x)) f = some none := of_decide_eq_true h
theorem tyErr (k : Nat) : typeOf (.type (bB k).1) = pure (.type "type") := by
  match k with
  | 0 => kernel_rfl
  | 1 => kernel_rfl
  | 2 => kernel_rfl
  | _ + 3 => kernel_rfl
theorem stErr (k : Nat) : Manifest.isStub (bB k).1 = false := by
  match k with
  | 0 => decide +kernel
  | 1 => decide +kernel
  | 2 => decide +kernel
  | _ + 3 => exact (show Manifest.isStub "OverflowError" = false by decide +kernel)
theorem hdErr (k : Nat) : PySem.W.handedIn (.builtin (bB k).2.2.1) = true := by
  match k with
  | 0 => decide +kernel
  | 1 => decide +kernel
  | 2 => decide +kernel
  | _ + 3 => exact (show PySem.W.handedIn (.builtin "OverflowError.__init__") = true by decide +kernel)
theorem lenPlus {a b : Str} {n m : Nat} (ha : a.length ≤ n) (hb : b.length ≤ m) : (a ++ b).length ≤ n + m := by
  rw [Str.length_append]; omega
theorem lenLine {a : Str} {n : Nat} (ha : a.length ≤ n) (hn : n ≤ 9000 := by decide) : a.length ≤ sizeLine := by
  rw [sizeLine_eq]; omega
theorem lenNone : Str.empty.length ≤ 0 := by decide +kernel
end MI
set_option Elab.async false
set_option linter.all false
set_option maxRecDepth 100000
set_option maxHeartbeats 4000000
namespace MI
open PySem PySem.Spec PyProof.Rows L2 JB
abbrev ShortV (v : V) : Prop := (∃ y : Str, v = .str y ∧ y.length ≤ 400) ∨ ∃ i : Int, v = .int i ∧ i.natAbs.log2 < 1920 ∧ (Str.ofString (toString i)).length ≤ 400
theorem show_shortV {v : V} {R : Str → Prop} (h : ShortV v) (k : ∀ y : Str, y.length ≤ 400 → R y) :
    (∃ y : Str, v = .str y ∧ y.length ≤ sizeLine ∧ R y) ∨ ∃ i : Int, v = .int i ∧ i.natAbs.log2 < 1920 ∧ R (toString i) := by
  rcases h with ⟨y, e, l⟩ | ⟨i, e, l, z⟩
  · exact .inl ⟨y, e, lenLine l, k y l⟩
  · exact .inr ⟨i, e, l, k _ z⟩
end MI
set_option Elab.async false
set_option linter.all false
set_option maxRecDepth 100000
set_option maxHeartbeats 4000000
namespace MI
open PySem PySem.Spec PyProof.Rows L2 JB
def lDPop (x : MV) (xs : List MV) (h : MH) : Out MV := match x, xs with
  | .ref i, [y] => match h.get i, mkey y with
    | some (.dic kvs), some k => (match dval keq kvs k with
      | some v => .ok v (h.set i (.dic (ddrop keq k kvs)))
      | none => .bad)
    | _, _ => .bad
  | _, _ => .bad
section
variable {X : Cx}
end
def tins (x : List Nat) : List (List Nat) → List (List Nat)
  | [] => [x]
  | y :: l => if ltCps y x = true then y :: tins x l else x :: y :: l
def tsort : List (List Nat) → List (List Nat)
  | [] => []
  | x :: l => tins x (tsort l)
abbrev tle (a b : List Nat) : Prop := ltCps b a = false
theorem tle_iff {a b : List Nat} : tle a b ↔ a ≤ b := by
  unfold tle
  rw [ltCps_eq, decide_eq_false_iff_not]
  exact List.not_lt
theorem tle_trans {a b c : List Nat} (h1 : tle a b) (h2 : tle b c) : tle a c := tle_iff.mpr (List.le_trans (tle_iff.mp h1) (tle_iff.mp h2))
theorem tle_of_lt {a b : List Nat} (h : ltCps a b = true) : tle a b := by
  rw [ltCps_eq] at h
  exact tle_iff.mpr (List.le_of_lt (of_decide_eq_true h))
theorem tle_anti {a b : List Nat} (h1 : tle a b) (h2 : tle b a) : a = b := List.le_antisymm (tle_iff.mp h1) (tle_iff.mp h2)
theorem tins_perm (x : List Nat) : ∀ l, (tins x l).Perm (x :: l)
  | [] => .refl _
  | y :: l => by
    unfold tins
    split
    · exact ((tins_perm x l).cons y).trans (.swap x y l)
    · exact .refl _
theorem tsort_perm : ∀ l, (tsort l).Perm l
  | [] => .refl _
  | x :: l => (tins_perm x _).trans ((tsort_perm l).cons x)
theorem tins_pw (x : List Nat) : ∀ l : List (List Nat), l.Pairwise tle → (tins x l).Pairwise tle
  | [], _ => by simp [tins]
  | y :: l, h => by
    obtain ⟨h1, h2⟩ := List.pairwise_cons.mp h
    unfold tins
    split
    · rename_i c
      refine List.pairwise_cons.mpr ⟨fun z hz => ?_, tins_pw x l h2⟩
      rcases List.mem_cons.mp ((tins_perm x l).mem_iff.mp hz) with rfl | hz
      · exact tle_of_lt c
      · exact h1 z hz
    · rename_i c
      have c' : tle x y := by simpa using c
      refine List.pairwise_cons.mpr ⟨fun z hz => ?_, h⟩
      rcases List.mem_cons.mp hz with rfl | hz
      · exact c'
      · exact tle_trans c' (h1 z hz)
theorem tsort_pw : ∀ l, (tsort l).Pairwise tle
  | [] => .nil
  | x :: l => tins_pw x _ (tsort_pw l)
theorem rising_pw : ∀ (l : List Str) (p : Str), risingS p l = true → (∀ y ∈ l, tle p.cps.toList y.cps.toList) ∧ (l.map fun y => y.cps.toList).Pairwise tle
  | [], _, _ => ⟨fun _ h => (by cases h), .nil⟩
  | x :: l, p, h => by
    have h' := Bool.and_eq_true_iff.mp (show (!ltCps x.cps.toList p.cps.toList && risingS x l) = true from h)
    have hx : tle p.cps.toList x.cps.toList := by simpa using h'.1
    obtain ⟨i1, i2⟩ := rising_pw l x h'.2
    refine ⟨fun y hy => ?_, List.pairwise_cons.mpr ⟨fun z hz => ?_, i2⟩⟩
    · rcases List.mem_cons.mp hy with rfl | hy
      · exact hx
      · exact tle_trans hx (i1 y hy)
    · obtain ⟨y, hy, rfl⟩ := List.mem_map.mp hz
      exact i1 y hy
theorem sortedS_pw {l : List Str} (h : sortedS l = true) : (l.map fun y => y.cps.toList).Pairwise tle := by
  cases l with
  | nil => exact .nil
  | cons x l =>
    obtain ⟨i1, i2⟩ := rising_pw l x h
    refine List.pairwise_cons.mpr ⟨fun z hz => ?_, i2⟩
    obtain ⟨y, hy, rfl⟩ := List.mem_map.mp hz
    exact i1 y hy
def toS (s : List Nat) : Str := ⟨s.toArray⟩
theorem tsort_uniq {ys : List Str} {ks : List (List Nat)} (p : ys.Perm (ks.map toS)) (s : sortedS ys = true) : ys = (tsort ks).map toS := by
  have e : (ys.map fun y => y.cps.toList) = tsort ks := by
    refine List.Perm.eq_of_pairwise (le := tle) (fun a b _ _ => tle_anti) (sortedS_pw s) (tsort_pw ks) (((p.map fun y => y.cps.toList).trans ?_).trans (tsort_perm ks).symm)
    rw [List.map_map]
    have : (ks.map ((fun y : Str => y.cps.toList) ∘ toS)) = ks := by
      conv => rhs; rw [← List.map_id ks]
      exact List.map_congr_left fun a _ => rfl
    rw [this]
  rw [← e, List.map_map]
  conv => lhs; rw [← List.map_id ys]
  exact List.map_congr_left fun a _ => rfl
def textsOf : List MV → Option (List (List Nat))
  | [] => some []
  | .str s :: r => (textsOf r).map fun l => s :: l
  | _ => none
theorem textsOf_ok {Z : Zt} {ρ : List Addr} {H : Hp} : ∀ {xs : List MV} {vs : List V} {l : List (List Nat)}, RVs Z ρ H xs vs → textsOf xs = some l → vs = (l.map toS).map V.str
  | _, _, l, .nil, e => by cases e; rfl
  | _, _, l, .cons (x := x) (xs := xs) a r, e => by
    cases a with
    | str s =>
      obtain ⟨l', e1, rfl⟩ := Option.map_eq_some_iff.mp (show (textsOf xs).map (fun l => s :: l) = some l from e)
      rw [textsOf_ok r e1]; rfl
    | _ => cases e
theorem RVs.texts {Z : Zt} {ρ : List Addr} {H : Hp} : ∀ l : List (List Nat), RVs Z ρ H (l.map MV.str) ((l.map toS).map V.str)
  | [] => .nil
  | x :: l => .cons (.str x) (RVs.texts l)
def mSortedT (x : MV) (h : MH) : Out MV := match x with
  | .ref i => match h.get i with
    | some (.lst xs) => match textsOf xs with
      | some l => if l.length < 64 then .ok (.ref h.n) (h.push (.lst ((tsort l).map MV.str))) else .bad
      | none => .bad
    | _ => .bad
  | _ => .bad
theorem mc_sortedT {Z : Zt} {E : XK} : CallM Z E (f1 mSortedT) (rSortedS Z.K) := .one fun ρ h H x v Q R r q => by
  cases r with
  | @ref i a hi =>
    have q' : Post Z (rV Z) ρ H Q E (match h.get i with
      | some (.lst xs) => match textsOf xs with
        | some l => if l.length < 64 then .ok (.ref h.n) (h.push (.lst ((tsort l).map MV.str))) else .bad
        | none => .bad
      | _ => .bad) := q
    cases g : h.get i with
    | none => rw [g] at q'; exact q'.elim
    | some ob =>
      rw [g] at q'
      cases ob with
      | lst xs =>
        dsimp only at q'
        obtain ⟨ws, h3, h4⟩ := R.obj g hi
        cases k : textsOf xs with
        | none => rw [k] at q'; exact q'.elim
        | some l =>
          rw [k] at q'
          dsimp only at q'
          by_cases z : l.length < 64
          · rw [if_pos z] at q'
            have e := textsOf_ok h4 k
            subst e
            refine ⟨a, l.map toS, rfl, .inl (.inl h3), by simpa using z, fun ys p p1 p2 hp => ?_⟩
            rw [tsort_uniq p1 p2]
            exact q' (ρ ++ [p]) _ _ (Ext.push hp) (R.push hp ⟨_, upd_same, RVs.texts _⟩) (.ref (by rw [← R.len]; simp))
          · rw [if_neg z] at q'; exact q'.elim
      | _ => exact q'.elim
  | _ => exact q.elim
end MI
set_option Elab.async false
set_option linter.all false
set_option maxRecDepth 100000
set_option maxHeartbeats 4000000
namespace MI
open PySem PySem.Spec PyProof.Rows L2 JB
theorem strs_each : ∀ {us : List Value} {ks : List Str}, us.length = ks.length → (∀ (j : Nat) (v : Value), us[j]? = some v → ∃ (x : Str) (t : Tok), ks[j]? = some x ∧ v = Value.str x t) → StrsAre us ks
  | [], [], _, _ => .nil
  | u :: us, k :: ks, hl, h => by
    obtain ⟨x, t, e1, e2⟩ := h 0 u rfl
    have e3 : k = x := Option.some.inj e1
    subst e3
    subst e2
    refine .cons _ _ (strs_each (by simpa using hl) fun j v e => ?_)
    obtain ⟨x, t, a, b⟩ := h (j + 1) v (by simpa using e)
    exact ⟨x, t, by simpa using a, b⟩
  | [], _ :: _, hl, _ => by simp at hl
  | _ :: _, [], hl, _ => by simp at hl
def rSortedDS : List V → Hp → VK → Prop := fun xs H Q => ∃ (a : Addr) (kvs : List (Key × V)) (ks : List Str), xs = [.ref a] ∧ Rd H a (.dK kvs) ∧ kvs.map (·.1) = ks.map Sum.inr ∧ ks.length < 64 ∧
    ∀ (ys : List Str) (p : Addr), ys.Perm ks → sortedS ys = true → H p = none → Q (.ref p) (upd H p (.lst (ys.map V.str)))
theorem call_sortedDS {X : Cx} (hcalm : X.calm = true) : CallR X (.builtin "sorted") rSortedDS := by
  intro pins s σ H xs us Q I r q
  obtain ⟨a, kvs, ks, rfl, hd, hks, h64, q⟩ := q
  obtain ⟨u, rfl, rx⟩ := vals1 r
  cases rx
  obtain ⟨z, lo, vs, rel, dd⟩ := dk_rd I.hok hd
  obtain ⟨ep, hat⟩ := dd.dictAt
  have hkeys : vs.map (·.1) = ks.map Sum.inr := rel.keys.symm.trans hks
  have hl : vs.length = ks.length := by
    have e := congrArg List.length hkeys
    rw [List.length_map, List.length_map] at e
    exact e
  have h16 : vs.length ≤ sizeLine := by rw [hl, sizeLine_eq]; omega
  refine Calls.call_function_entry PyProof.Rows.kind_sorted PyProof.Rows.plain_sorted PyProof.Rows.entry_sorted (PyProof.Rows.args_sorted1 _) ?_
  unfold Builtin.«sorted»
  refine wpAny_bind (m := checkCount "sorted" 1 1 _) (wpAny_pure ?_)
  refine wpAny_bind (PySem.W.kdu_collect (A := X.A.in1) (PySem.W.kdl_dict (knd := mixKind X.prog X.w) (kvs := vs) (ep := ep) lo) (I.ok.hd hcalm) hat h16 fun h' tk acc hk hacc => ?_)
  have hal : acc.toList.length = ks.length := by rw [Array.length_toList, hacc.1, hl]
  have hS : StrsAre acc.toList ks := strs_each hal fun j v e => by
    obtain ⟨k, x, e1, e2⟩ := hacc.2 j v (by rw [← Array.getElem?_toList]; exact e)
    have e3 : (vs.map (·.1))[j]? = some k := by rw [List.getElem?_map, e1]; rfl
    rw [hkeys, List.getElem?_map] at e3
    cases e4 : ks[j]? with
    | none => rw [e4] at e3; cases e3
    | some y =>
      rw [e4] at e3
      have e5 : Sum.inr y = k := Option.some.inj e3
      subst e5
      rcases keyIs_shape (show keyIs (Sum.inr y) v = true from e2) with ⟨i, t, ek, ev⟩ | ⟨z, t, ek, ev⟩
      · cases ek
      · cases ek
        exact ⟨y, t, rfl, ev⟩
  have I1 : Inv X pins σ H { s with heap := h', toks := tk } := I.kept hk
  refine wpAny_bind (wpAny_newList ?_ (by rw [hal, sizeLine_eq]; omega))
  have hoL : (h'.push (seqObj "list" acc.toList.toArray 0)).get? h'.objs.size = some (seqObj "list" acc.toList.toArray 0) := Heap.get?_push_size _ rfl
  show wpAny _ _ _ _ _ { s with heap := h'.push (seqObj "list" acc.toList.toArray 0), toks := tk }
  refine wpAny_bind (wpAny_holding (wpAny_call_entry PyProof.Rows.slot_list_sort ⟨_, hoL, rfl⟩ PyProof.Rows.entry_list_sort
    (PyProof.Rows.list_sort_treeK (s := { s with heap := h'.push (seqObj "list" acc.toList.toArray 0), toks := tk }) PyProof.Rows.strKind_oneLt hoL hS.keysOf (fun v₁ v₂ rest e => PyProof.Rows.keyKind_strs (by rw [← e]; exact hS)) (by rw [hal]; exact h64) fun st' hp hs => ⟨_, rfl, ?_⟩) (PyProof.Rows.args_list_sort _)))
  obtain ⟨ys, g1, g2, g3⟩ := PyProof.Rows.sorted_out_str hS hp hs
  obtain ⟨e', he'⟩ := PyProof.Rows.sortedHeap_at (vs := acc.toList) (out := (PyProof.Rows.arrOf st').map (·.2)) hoL
  have hlen : (ys.map V.str).length ≤ sizeLine := by
    rw [List.length_map, g2.length_eq]
    exact Nat.le_trans (Nat.le_of_lt h64) (by decide)
  refine wpAny_pure ⟨_, rfl, .ref h'.objs.size, upd H h'.objs.size (.lst (ys.map V.str)), I1.laid (t' := tk) (fun b u e => ?_) (Nat.le_refl _)
    (show ObjOk X.prog X.w _ _ _ (.lst (ys.map V.str)) from ⟨hlen, ((PyProof.Rows.arrOf st').map (·.2)).toList, e', vals_of_strs g1, by rw [Array.toArray_toList]; exact he'⟩), rfl, q ys _ g2 g3 (I1.hok.fresh (Nat.le_refl _))⟩
  have hb : b < h'.objs.size := Heap.lt_size e
  rw [PyProof.Rows.sortedHeap_old (Nat.ne_of_lt hb) (by rw [size_push']; exact Nat.lt_succ_of_lt hb)]
  exact Heap.get?_push_of_some _ e
end MI
set_option Elab.async false
set_option linter.all false
set_option maxRecDepth 100000
set_option maxHeartbeats 4000000
namespace MI
open PySem PySem.Spec PyProof.Rows L2 JB
def tkeysOf : List (MK × MV) → Option (List (List Nat))
  | [] => some []
  | (.inr s, _) :: r => (tkeysOf r).map fun l => s :: l
  | _ => none
theorem tkeysOf_ok {Z : Zt} {ρ : List Addr} {H : Hp} {xs : List (MK × MV)} {vs : List (Key × V)} (r : RKs kOf Z ρ H xs vs) : ∀ {l : List (List Nat)}, tkeysOf xs = some l → vs.map (·.1) = (l.map toS).map Sum.inr := by
  induction r with
  | nil => intro l e; cases e; rfl
  | @cons k x v xs vs a r ih =>
    intro l e
    cases k with
    | inl i => cases e
    | inr s =>
      obtain ⟨l', e1, rfl⟩ := Option.map_eq_some_iff.mp (show (tkeysOf xs).map (fun l => s :: l) = some l from e)
      rw [List.map_cons, ih e1]; rfl
def mSortedD (x : MV) (h : MH) : Out MV := match x with
  | .ref i => match h.get i with
    | some (.dic kvs) => match tkeysOf kvs with
      | some l => if l.length < 64 then .ok (.ref h.n) (h.push (.lst ((tsort l).map MV.str))) else .bad
      | none => .bad
    | _ => .bad
  | _ => .bad
theorem mc_sortedD {Z : Zt} {E : XK} : CallM Z E (f1 mSortedD) rSortedDS := .one fun ρ h H x v Q R r q => by
  cases r with
  | @ref i a hi =>
    have q' : Post Z (rV Z) ρ H Q E (match h.get i with
      | some (.dic kvs) => match tkeysOf kvs with
        | some l => if l.length < 64 then .ok (.ref h.n) (h.push (.lst ((tsort l).map MV.str))) else .bad
        | none => .bad
      | _ => .bad) := q
    cases g : h.get i with
    | none => rw [g] at q'; exact q'.elim
    | some ob =>
      rw [g] at q'
      cases ob with
      | dic kvs =>
        dsimp only at q'
        obtain ⟨ws, h3, h4⟩ := R.obj g hi
        cases k : tkeysOf kvs with
        | none => rw [k] at q'; exact q'.elim
        | some l =>
          rw [k] at q'
          dsimp only at q'
          by_cases z : l.length < 64
          · rw [if_pos z] at q'
            refine ⟨a, ws, l.map toS, rfl, .inl h3, tkeysOf_ok h4 k, by simpa using z, fun ys p p1 p2 hp => ?_⟩
            rw [tsort_uniq p1 p2]
            exact q' (ρ ++ [p]) _ _ (Ext.push hp) (R.push hp ⟨_, upd_same, RVs.texts _⟩) (.ref (by rw [← R.len]; simp))
          · rw [if_neg z] at q'; exact q'.elim
      | _ => exact q'.elim
  | _ => exact q.elim
def mSortedA (x : MV) (h : MH) : Out MV := match x with
  | .ref i => match h.get i with
    | some (.lst xs) => if (intsOf xs).isSome = true then mSorted x h else mSortedT x h
    | some (.dic kvs) => if (keysOf kvs).isSome = true then mSorted x h else mSortedD x h
    | _ => .bad
  | _ => .bad
theorem sortedA_or (x : MV) (h : MH) : mSortedA x h = mSorted x h ∨ mSortedA x h = mSortedT x h ∨ mSortedA x h = mSortedD x h ∨ mSortedA x h = .bad := by
  unfold mSortedA
  split
  · split
    · split
      · exact .inl rfl
      · exact .inr (.inl rfl)
    · split
      · exact .inl rfl
      · exact .inr (.inr (.inl rfl))
    · exact .inr (.inr (.inr rfl))
  · exact .inr (.inr (.inr rfl))
abbrev rSortA (K : PySem.W.Frag) : List V → Hp → VK → Prop := fun xs H Q => rSortM K xs H Q ∨ rSortedS K xs H Q ∨ rSortedDS xs H Q
theorem call_sortA {X : Cx} (hc : X.calm = true) : CallR X (.builtin "sorted") (rSortA X.K) := CallR.or (call_sortM hc) (CallR.or cr_sortedS (call_sortedDS hc))
theorem mc_sortedA {Z : Zt} {E : XK} : CallM Z E (f1 mSortedA) (rSortA Z.K) := .one fun ρ h H x v Q R r q => by
  have q1 : Post Z (rV Z) ρ H Q E (mSortedA x h) := q
  rcases sortedA_or x h with e | e | e | e
  · rw [e] at q1; exact .inl (mc_sorted ρ h H [x] [v] Q R (.cons r .nil) q1)
  · rw [e] at q1; exact .inr (.inl (mc_sortedT ρ h H [x] [v] Q R (.cons r .nil) q1))
  · rw [e] at q1; exact .inr (.inr (mc_sortedD ρ h H [x] [v] Q R (.cons r .nil) q1))
  · rw [e] at q1; exact q1.elim
end MI
set_option Elab.async false
set_option linter.all false
set_option maxRecDepth 100000
set_option maxHeartbeats 4000000
namespace MI
open PySem PySem.Spec PyProof.Rows L2 JB
section
variable {M : Model} {K : PySem.W.Frag}
end
section
variable {X : Cx} {T : Nat → Addr} {E : XK} {a b c : Expr} {ga gb gc : ME} {pos : Pos}
end
section
variable {Z : Zt} {ρ : List Addr} {h : MH} {H : Hp}
end
section
variable {X : Cx} {T : Nat → Addr} {E : XK} {e a tg : Expr} {ga : ME} {pos p : Pos}
end
section
variable {X : Cx} {T : Nat → Addr} {E : XK} {a ec : Expr} {es : List Expr} {p1 p2 pos : Pos} {ga : ME} {kk : Nat}
end
end MI
set_option Elab.async false
set_option linter.all false
set_option maxRecDepth 100000
set_option maxHeartbeats 4000000
namespace MI
open PySem PySem.Spec PyProof.Rows L2 JB
section
variable {prog : Program} {w : World} {A : Around} {E : Value → Shared → Prop} {s : Shared}
end
section
variable {X : Cx} {T : Nat → Addr} {E : XK} {o lo : Expr} {to tl : TE} {go gl : ME} {pos p2 : Pos}
end
end MI
set_option Elab.async false
set_option linter.all false
set_option maxRecDepth 100000
set_option maxHeartbeats 4000000
namespace MI
open PySem PySem.Spec PyProof.Rows L2 JB
section
variable {X : Cx} {T : Nat → Addr} {E : XK} {a b c : Expr} {ga : MA} {pos : Pos}
end
end MI
set_option Elab.async false
set_option linter.all false
set_option maxRecDepth 100000
set_option maxHeartbeats 4000000
namespace MI
open PySem PySem.Spec PyProof.Rows L2 JB
end MI
set_option Elab.async false
set_option linter.all false
set_option maxRecDepth 100000
set_option maxHeartbeats 4000000
namespace MI
open PySem PySem.Spec PyProof.Rows L2 JB
end MI
set_option Elab.async false
set_option linter.all false
set_option maxRecDepth 100000
set_option maxHeartbeats 4000000
namespace MI
open PySem PySem.Spec PyProof.Rows L2 JB
end MI
set_option Elab.async false
set_option linter.all false
set_option maxRecDepth 100000
set_option maxHeartbeats 4000000
namespace MI
open PySem PySem.Spec PyProof.Rows L2 JB
section
variable {X : Cx} {a b c d : Expr} {ta tb tc td : TE} {pos : Pos}
end
section
variable {X : Cx} {T : Nat → Addr} {E : XK} {a b c d : Expr} {ga gb gc gd : ME} {pos : Pos}
end
end MI
set_option Elab.async false
set_option linter.all false
set_option maxRecDepth 100000
set_option maxHeartbeats 4000000
namespace MI
open PySem PySem.Spec PyProof.Rows L2
section
variable {X : Cx} {T : Nat → Addr} {E : XK} {pos : Pos} {k v : Expr} {ks : List (Option Expr)} {vs : List Expr} {ps : List (ME × ME)} {ga gb : ME}
end
end MI
set_option Elab.async false
set_option linter.all false
set_option maxRecDepth 100000
set_option maxHeartbeats 4000000
namespace MI
open PySem PySem.Spec PyProof.Rows L2 JB
section
variable {X : Cx} {T : Nat → Addr} {k : Nat} {f : Addr} {dm : List MV} {g : MF} {n : Nat} {me : Str} {mi : Nat} {pos apos : Pos} {o : Expr} {go : ME} {W : WX}
end
section
variable {X : Cx} {T : Nat → Addr} {E : XK} {n : Str} {t e : Expr} {i : Nat} {suite : List Stmt} {b₀ : Stmt} {pos pos' pos2 : Pos} {tt : Value → Option Bool} {tb : Nat → Option Bool} {ge : ME} {gs : MS}
end
end MI
set_option Elab.async false
set_option linter.all false
set_option maxRecDepth 100000
set_option maxHeartbeats 4000000
namespace MI
open PySem PySem.Spec PyProof.Rows L2 JB
def gDcN (it : It1) (c : CT) (t : MT) (ek ev : ME) (D : Nat) (mw : ML) : Nat → Nat → MH → Out MV
  | 0, _, _ => .bad
  | n + 1, i, h => match it.at_ i h with
    | none => .bad
    | some none => .ok (.ref D) h
    | some (some x) => match c.set x mw h with
      | .nx m1 h1 => match t m1 h1 with
        | .ok true h2 => match ek m1 h2 with
          | .ok y h3 => match ev m1 h3 with
            | .ok z h4 => match h4.get D with
              | some (.dic kvs) => match mkey y with
                | some k => if kvs.length < 1000000 then gDcN it c t ek ev D mw n (i + 1) (h4.set D (.dic (dput keq kvs k z))) else .bad
                | none => .bad
              | _ => .bad
            | _ => .bad
          | _ => .bad
        | .ok false h2 => gDcN it c t ek ev D mw n (i + 1) h2
        | _ => .bad
      | _ => .bad
def gDc (i : MI1) (c : CT) (t : MT) (ek ev : ME) (own : List Nat) : ME := fun m h => (i m h).bind fun it h1 => gDcN it c t ek ev h1.n (mwipe m own) (it.size h1 + 1) 0 (h1.push (.dic []))
section
variable {X : Cx} {T : Nat → Addr} {E : XK} {kx vx tg iter : Expr} {ifs : List Expr} {scope : Scope} {own : List (Str × Nat)} {pos : Pos} {gi : MI1} {c : CT} {gt : MT} {gk gv : ME}
theorem dc_le {ow : List Nat} (hv : ∀ i ∈ c.slots, i ∈ ow) : ∀ σ H Q, tE ⟨X.K, T⟩ E (gDc gi c gt gk gv ow) σ H Q → tDc (tI ⟨X.K, T⟩ E gi) (tCT X.K c) (tT ⟨X.K, T⟩ E00 gt) (tE ⟨X.K, T⟩ E00 gk) (tE ⟨X.K, T⟩ E00 gv) ow σ H Q := by
  intro σ H Q ⟨ρ, m, h, s, q⟩
  refine ⟨ρ, m, h, s, ?_⟩
  refine (Post.bind (R := rI ⟨X.K, T⟩) q).mono fun J H1 ⟨ρ1, h1, it, e1, r1, w1, q1⟩ D hD => ?_
  have s1 := s.to e1 r1
  have x0 : Ext ρ1 H1 (ρ1 ++ [D]) (upd H1 D (.dK [])) := Ext.push hD
  have s0 : SR ⟨X.K, T⟩ (ρ1 ++ [D]) m (h1.push (.dic [])) σ (upd H1 D (.dK [])) := s1.to x0 (r1.push hD ⟨[], upd_same, .nil⟩)
  have a0 : (ρ1 ++ [D])[h1.n]? = some D := by rw [← r1.len]; simp
  generalize hD' : h1.n = d at q1 a0
  refine ⟨fun i n H2 => ∃ ρ2 h2, Ext (ρ1 ++ [D]) (upd H1 D (.dK [])) ρ2 H2 ∧ SR ⟨X.K, T⟩ ρ2 m h2 σ H2 ∧ Post ⟨X.K, T⟩ (rV ⟨X.K, T⟩) ρ2 H2 Q E (gDcN it c gt gk gv d (mwipe m ow) n i h2),
    ⟨_, ρ1 ++ [D], _, .refl, s0, q1.ext x0⟩, fun i n H2 ⟨ρ2, h2, e2, s2, q2⟩ => ?_⟩
  cases n with
  | zero => exact q2.elim
  | succ n =>
    have w2 := w1 i ρ2 h2 H2 (x0.trans e2) s2.hr
    unfold gDcN at q2
    cases k : it.at_ i h2 with
    | none => rw [k] at q2; exact q2.elim
    | some o =>
      rw [k] at q2 w2
      cases o with
      | none => exact .inl ⟨w2, q2.ok s2.hr (.ref (e2.at a0))⟩
      | some x =>
        refine .inr ⟨w2.1, fun H3 => ∃ ρ3 h3, Ext (ρ1 ++ [D]) (upd H1 D (.dK [])) ρ3 H3 ∧ SR ⟨X.K, T⟩ ρ3 m h3 σ H3 ∧ Post ⟨X.K, T⟩ (rV ⟨X.K, T⟩) ρ3 H3 Q E (gDcN it c gt gk gv d (mwipe m ow) n (i + 1) h3),
          fun H3 z => ⟨n, Nat.lt_succ_self _, z⟩, fun v H3 y => ?_⟩
        obtain ⟨ρ3, e3, r3, rv3⟩ := w2.2 v H3 y
        dsimp only at q2
        have s3 := s2.to e3 r3
        have sw := s3.wipe ow
        cases g : c.set x (mwipe m ow) h2 with
        | nx m4 h4 =>
          rw [g] at q2
          dsimp only at q2
          refine ct_ok sw rv3 g hv fun σ4 s4 hw => ⟨by rw [hw, wipe_wipe], ?_⟩
          refine ⟨ρ3, m4, h4, s4, ?_⟩
          have q3 := q2.ext e3
          generalize gt m4 h4 = ot at q3 ⊢
          cases ot with
          | bad => exact q3.elim
          | er _ _ => exact q3.elim
          | ok b h5 =>
            intro ρ5 H5 b' e5 r5 hb
            have hb' : b = b' := hb
            subst hb'
            have s5 := s4.to e5 r5
            cases b with
            | false =>
              rw [if_neg Bool.false_ne_true]
              exact ⟨ρ5, h5, (e2.trans e3).trans e5, (s3.to e5 r5), q3.ext e5⟩
            | true =>
              rw [if_pos rfl]
              dsimp only at q3
              refine ⟨ρ5, m4, h5, s5, ?_⟩
              have q4 := q3.ext e5
              generalize gk m4 h5 = oe at q4 ⊢
              cases oe with
              | bad => exact q4.elim
              | er _ _ => exact q4.elim
              | ok y6 h6 =>
                intro ρ6 H6 v6 e6 r6 rv6
                dsimp only at q4
                have s6 := s5.to e6 r6
                refine ⟨ρ6, m4, h6, s6, ?_⟩
                have q5 := q4.ext e6
                generalize gv m4 h6 = oz at q5 ⊢
                cases oz with
                | bad => exact q5.elim
                | er _ _ => exact q5.elim
                | ok z7 h7 =>
                  intro ρ7 H7 v7 e7 r7 rv7
                  dsimp only at q5
                  have q6 := q5.ext e7
                  have a7 := e7.at (e6.at (e5.at (e3.at (e2.at a0))))
                  cases gd : h7.get d with
                  | none => rw [gd] at q6; exact q6.elim
                  | some od =>
                    rw [gd] at q6
                    cases od with
                    | dic kvs =>
                      dsimp only at q6
                      obtain ⟨ws, h8, h9⟩ := r7.obj gd a7
                      cases kk : mkey y6 with
                      | none => rw [kk] at q6; exact q6.elim
                      | some k' =>
                        rw [kk] at q6
                        dsimp only at q6
                        by_cases z : kvs.length < 1000000
                        · rw [if_pos z] at q6
                          have x8 : Ext ρ7 H7 ρ7 (upd H7 D (.dK (putK ws (kOf k') v7))) := r7.grow gd a7 _
                          have r9 : RKs kOf ⟨X.K, T⟩ ρ7 (upd H7 D (.dK (putK ws (kOf k') v7))) (dput keq kvs k' z7) (putK ws (kOf k') v7) := dput_ok (e := keq) (f := kOf) (fun a b => keq_iff) (h9.ext x8) (rv7.ext x8)
                          have r8 : HR ⟨X.K, T⟩ ρ7 (h7.set d (.dic (dput keq kvs k' z7))) (upd H7 D (.dK (putK ws (kOf k') v7))) := r7.set gd a7 ⟨_, upd_same, r9⟩
                          have s8 := (((s3.to e5 r5).to e6 r6).to e7 r7).to x8 r8
                          have e8 := ((((e2.trans e3).trans e5).trans e6).trans e7).trans x8
                          exact ⟨ws, kOf k', mkey_ok rv6 kk, h8, by rw [← h9.length, sizeLine_eq]; omega, ρ7, _, e8, s8, q6.ext x8⟩
                        · rw [if_neg z] at q6; exact q6.elim
                    | _ => exact q6.elim
        | _ => rw [g] at q2; exact q2.elim
theorem je_dc (hc : X.calm = true) (hN : X.N.Nodup) (hi : JI X T E tg iter gi) (ok : BlkOk X.N X.env.scope scope own)
    (hg : ∀ (s : Shared) (H : Hp) (C : Addr) (cl : List (Str × Addr)) (fp : List Addr), PG (X.blk s H scope (compEnvC scope cl C X.env) fp) tg (tCT X.K c))
    (ht : ∀ (s : Shared) (H : Hp) (C : Addr) (cl : List (Str × Addr)) (fp : List Addr), PTs (X.blk s H scope (compEnvC scope cl C X.env) fp) ifs (tT ⟨X.K, T⟩ E00 gt))
    (hk : ∀ (s : Shared) (H : Hp) (C : Addr) (cl : List (Str × Addr)) (fp : List Addr), JE (X.blk s H scope (compEnvC scope cl C X.env) fp) T E00 kx gk)
    (he : ∀ (s : Shared) (H : Hp) (C : Addr) (cl : List (Str × Addr)) (fp : List Addr), JE (X.blk s H scope (compEnvC scope cl C X.env) fp) T E00 vx gv)
    (hv : ∀ i ∈ c.slots, i ∈ own.map (·.2)) (hs : ∀ x, foldedSetIterable iter X.env x = pure x := by intro _; rfl) :
    JE X T E (.DictComp kx vx [⟨tg, iter, ifs, 0⟩] scope pos) (gDc gi c gt gk gv (own.map (·.2))) := by
  exact PE.le (pe_dc (tk := tE ⟨X.K, T⟩ E00 gk) (tv := tE ⟨X.K, T⟩ E00 gv) hc hN hi ok hg ht hk he hs) (dc_le hv)
end
section
variable {X : Cx} {T : Nat → Addr} {E : XK} {kx vx tg iter : Expr} {ifs : List Expr} {scope : Scope} {pos : Pos} {gi : MI1} {c : CT} {gt : MT} {gk gv : ME} {ow : List Nat}
theorem je_dcA (own : List (Str × Nat)) (how : own.map (·.2) = ow) (hc : X.calm = true) (hN : X.N.Nodup) (hi : JI X T E tg iter gi) (ok : BlkOk X.N X.env.scope scope own)
    (hg : ∀ (s : Shared) (H : Hp) (C : Addr) (cl : List (Str × Addr)) (fp : List Addr), PG (X.blk s H scope (compEnvC scope cl C X.env) fp) tg (tCT X.K c))
    (ht : ∀ (s : Shared) (H : Hp) (C : Addr) (cl : List (Str × Addr)) (fp : List Addr), PTs (X.blk s H scope (compEnvC scope cl C X.env) fp) ifs (tT ⟨X.K, T⟩ E00 gt))
    (hk : ∀ (s : Shared) (H : Hp) (C : Addr) (cl : List (Str × Addr)) (fp : List Addr), JE (X.blk s H scope (compEnvC scope cl C X.env) fp) T E00 kx gk)
    (he : ∀ (s : Shared) (H : Hp) (C : Addr) (cl : List (Str × Addr)) (fp : List Addr), JE (X.blk s H scope (compEnvC scope cl C X.env) fp) T E00 vx gv)
    (hv : ∀ i ∈ c.slots, i ∈ ow) (hs : ∀ x, foldedSetIterable iter X.env x = pure x := by intro _; rfl) :
    JE X T E (.DictComp kx vx [⟨tg, iter, ifs, 0⟩] scope pos) (gDc gi c gt gk gv ow) := by
  subst how
  exact je_dc hc hN hi ok hg ht hk he hv hs
end
def isDic (h : MH) : MV → Bool
  | .ref i => match h.get i with
    | some (.dic _) => true
    | _ => false
  | _ => false
def mInN (k : Bool → Bool) (x y : MV) (h : MH) : Out MV := if (mIsN x && isDic h y) = true then .ok (.bl (k false)) h else mIn k x y h
section
variable {X : Cx} {T : Nat → Addr} {E : XK} {a b : Expr} {ga gb : ME} {pos : Pos}
def mInN0 (k : Bool → Bool) (x y : MV) (h : MH) : Out MV := if (mIsN x && isDic h y) = true then .ok (.bl (k false)) h else .bad
theorem mInN_or (k : Bool → Bool) (x y : MV) (h : MH) : mInN k x y h = mInN0 k x y h ∨ mInN k x y h = mIn k x y h := by
  unfold mInN mInN0
  split
  · exact .inl rfl
  · exact .inr rfl
theorem isDic_rd {Z : Zt} {ρ : List Addr} {h : MH} {H : Hp} {y : MV} {w : V} (R : HR Z ρ h H) (r : RV Z ρ H y w) (d : isDic h y = true) : ∃ a kvs, w = .ref a ∧ Rd H a (.dK kvs) := by
  cases r with
  | @ref i a hi =>
    unfold isDic at d
    dsimp only at d
    cases g : h.get i with
    | none => rw [g] at d; cases d
    | some o =>
      rw [g] at d
      cases o with
      | dic kvs =>
        obtain ⟨vs, h1, h2⟩ := R.obj g hi
        exact ⟨a, vs, rfl, .inl h1⟩
      | _ => cases d
  | _ => cases d
theorem isN_non {Z : Zt} {ρ : List Addr} {H : Hp} {x : MV} {v : V} (r : RV Z ρ H x v) (n : mIsN x = true) : v = .non := by
  cases r <;> first | rfl | cases n
theorem le_inN : ∀ σ H Q, tE ⟨X.K, T⟩ E (gBin (mInN0 fun b => b) ga gb) σ H Q → tDInN (tE ⟨X.K, T⟩ E ga) (tE ⟨X.K, T⟩ E gb) σ H Q := fun σ H Q ⟨ρ, m, h, s, q⟩ =>
  stepE s q fun ρ1 h1 H1 x v s1 e1 r1 q1 => stepE s1 q1 fun ρ2 h2 H2 y w s2 e2 r2 q2 => by
    unfold mInN0 at q2
    by_cases c : (mIsN x && isDic h2 y) = true
    · rw [if_pos c] at q2
      obtain ⟨c1, c2⟩ := Bool.and_eq_true_iff.mp c
      obtain ⟨aa, kvs, rfl, rd⟩ := isDic_rd s2.hr r2 c2
      exact .inr ⟨aa, kvs, rfl, isN_non r1 c1, rd, Post.ok (R := rV ⟨X.K, T⟩) (a := .bl false) q2 s2.hr (.bl _)⟩
    · rw [if_neg c] at q2; exact q2.elim
theorem le_ninN : ∀ σ H Q, tE ⟨X.K, T⟩ E (gBin (mInN0 fun b => !b) ga gb) σ H Q → tDNotInN (tE ⟨X.K, T⟩ E ga) (tE ⟨X.K, T⟩ E gb) σ H Q := fun σ H Q ⟨ρ, m, h, s, q⟩ =>
  stepE s q fun ρ1 h1 H1 x v s1 e1 r1 q1 => stepE s1 q1 fun ρ2 h2 H2 y w s2 e2 r2 q2 => by
    unfold mInN0 at q2
    by_cases c : (mIsN x && isDic h2 y) = true
    · rw [if_pos c] at q2
      obtain ⟨c1, c2⟩ := Bool.and_eq_true_iff.mp c
      obtain ⟨aa, kvs, rfl, rd⟩ := isDic_rd s2.hr r2 c2
      exact .inr ⟨aa, kvs, rfl, isN_non r1 c1, rd, Post.ok (R := rV ⟨X.K, T⟩) (a := .bl true) q2 s2.hr (.bl _)⟩
    · rw [if_neg c] at q2; exact q2.elim
theorem jt_inN (hu : X.A.units + 1 < cLine) (ha : JE X T E a ga) (hb : JE X T E b gb) (hm : behindInMarks .In b = false := by rfl) : JT X T E (.Compare a [.In] [b] pos) (gB (gBin (mInN fun b => b) ga gb)) :=
  jt_bin_or (PT.le (pt_cmp (pc_dinN hu ha hb) hm) (le_B le_inN)) (jt_in hu ha hb hm) (mInN_or _)
theorem jt_notInN (hu : X.A.units + 1 < cLine) (ha : JE X T E a ga) (hb : JE X T E b gb) (hm : behindInMarks .NotIn b = false := by rfl) : JT X T E (.Compare a [.NotIn] [b] pos) (gB (gBin (mInN fun b => !b) ga gb)) :=
  jt_bin_or (PT.le (pt_cmp (pc_dnotinN hu ha hb) hm) (le_B le_ninN)) (jt_notIn hu ha hb hm) (mInN_or _)
end
end MI
set_option Elab.async false
set_option linter.all false
set_option maxRecDepth 100000
set_option maxHeartbeats 4000000
namespace MI
open PySem PySem.Spec PyProof.Rows L2 JB
def rRepR : R2 := fun x y H Q => ∃ l k xs, x = .int k ∧ y = .ref l ∧ H l = some (.lst xs) ∧ -(2 ^ 63) ≤ k ∧ k < 2 ^ 63 ∧ xs.length * k.toNat ≤ sizeLine ∧ ∀ p, H p = none → Q (.ref p) (upd H p (.lst (List.replicate k.toNat xs).flatten))
section
variable {X : Cx}
theorem op_repR : OpR X (binaryOp .Mult) rRepR := by
  intro pins s σ H x y v u Q I rx ry h
  obtain ⟨l, k, xs, rfl, rfl, hH, h1, h2, hz, q⟩ := h
  cases ry
  obtain ⟨t, rfl⟩ := rx
  obtain ⟨z, its, n, r, hl, e⟩ := I.lstM hH
  have hlen : its.toArray.size * k.toNat ≤ sizeLine := by rw [List.size_toArray, ← hl]; exact hz
  have hcap : ¬ its.toArray.size * k.toNat > (2 ^ 63 - 1) / 8 := by
    have : (sizeLine : Nat) ≤ (2 ^ 63 - 1) / 8 := by decide
    omega
  have hfit : ¬ (!Builtin.List.listFitsIndex k) = true := by
    rw [fitsIndex_both h1 h2]
    exact Bool.false_ne_true
  have hlong : ¬ Builtin.List.listTooLong (its.toArray.size * k.toNat) = true := by
    rw [notLongL hlen]
    exact Bool.false_ne_true
  have hnew : List.foldl (fun x1 x2 => x1 ++ x2) #[] (List.replicate (if its.toArray.isEmpty = true then 0 else k.toNat) its.toArray) = (List.replicate k.toNat its).flatten.toArray := by
    have f0 : ∀ m : Nat, List.foldl (fun x1 x2 => x1 ++ x2) #[] (List.replicate m its.toArray) = (List.replicate m its).flatten.toArray := fun m => by
      have := foldl_rep its m []
      rw [List.nil_append] at this
      exact this
    rw [f0]
    cases its with
    | nil => simp
    | cons a r' => rw [if_neg (by simp)]
  refine lm_binaryOp_repeat_right (T := "list") (U := "int") (by decide) (fun s' => typeIs_int s' k t) ⟨_, e, rfl⟩ F.fills_int_mul noFill_list_mul F.slot_int_mul lm_noRepeat_int repeat_list F.slot_int_index.lookup
    (call_meets F.slot_int_mul (typeIs_int s k t) F.entry_int_mul (F.args_int_mul_2 _ _) (lm_int_mul_list_any k t l its.toArray n none #[])
      ⟨e, rfl, ⟨_, e, rfl⟩, call_meets F.slot_list_mul ⟨_, e, rfl⟩ F.entry_list_mul (F.args_list_mul_2 _ _) (AutoListH.list___mul___list_int_3 l its.toArray n k t hfit hcap hlong) ⟨e, ?_⟩⟩)
  rw [hnew]
  exact ⟨.ref _, _, I.lnew (t' := s.toks) (r.rep k.toNat) (by rw [PyProof.Rows.lm_len_rep_flat, Nat.mul_comm]; exact hz), rfl, q _ I.fresh⟩
end
def mRepR (x y : MV) (h : MH) : Out MV := match x, y with
  | .int k, .ref i => match h.get i with
    | some (.lst xs) => if k ≤ 10000 ∧ -10000 ≤ k ∧ xs.length ≤ 100 then .ok (.ref h.n) (h.push (.lst (reps xs k.toNat))) else .bad
    | _ => .bad
  | _, _ => .bad
theorem om_repR {Z : Zt} {E : XK} : OpM Z E mRepR rRepR := fun ρ h H x y v w Q R r q p => by
  cases q with
  | @ref i a hi =>
    cases r with
    | int k =>
      have p' : Post Z (rV Z) ρ H Q E (match h.get i with
        | some (.lst xs) => if k ≤ 10000 ∧ -10000 ≤ k ∧ xs.length ≤ 100 then .ok (.ref h.n) (h.push (.lst (reps xs k.toNat))) else .bad
        | _ => .bad) := p
      cases g : h.get i with
      | none => rw [g] at p'; exact p'.elim
      | some ob =>
        rw [g] at p'
        cases ob with
        | lst xs =>
          dsimp only at p'
          obtain ⟨vs, h1, h2⟩ := R.obj g hi
          by_cases c : k ≤ 10000 ∧ -10000 ≤ k ∧ xs.length ≤ 100
          · rw [if_pos c] at p'
            refine ⟨a, k, vs, rfl, rfl, h1, by omega, by omega, ?_, fun pp hp => ?_⟩
            · rw [← h2.length, sizeLine_eq]
              have : xs.length * k.toNat ≤ 100 * 10000 := Nat.mul_le_mul c.2.2 (by omega)
              omega
            · rw [reps_eq]
              exact p' (ρ ++ [pp]) _ _ (Ext.push hp) (R.push hp ⟨_, upd_same, (h2.ext (Ext.push hp)).reps _⟩) (.ref (by rw [← R.len]; simp))
          · rw [if_neg c] at p'; exact p'.elim
        | _ => exact p'.elim
    | _ => exact p.elim
  | _ => cases r <;> exact p.elim
def mMulB (x y : MV) (h : MH) : Out MV := if isRep y = true then mRepR x y h else mMulA x y h
section
variable {X : Cx} {T : Nat → Addr} {E : XK} {a b : Expr} {ga gb : ME} {pos : Pos}
theorem je_mulB (ha : JE X T E a ga) (hb : JE X T E b gb) : JE X T E (.BinOp a .Mult b pos) (gBin mMulB ga gb) :=
  je_bin_or (je_op op_repR om_repR ha hb) (je_mulA ha hb) fun x y h => by
    unfold mMulB
    split
    · exact .inl rfl
    · exact .inr rfl
end
end MI
namespace MI
open PySem PySem.Spec PyProof.Rows L2 JB
def mIntS (x : MV) (h : MH) : Out MV := match x with
  | .str s => if s.length ≤ 640 then (match PySem.intText? ⟨s.toArray⟩ with
    | some n => .ok (.int n) h
    | none => .bad) else .bad
  | x => mInt x h
section
variable {X : Cx}
abbrev rIntS : List V → Hp → VK → Prop := fun xs H Q => ((∃ i, xs = [.int i] ∧ Q (.int i) H) ∨ ∃ k, xs = [.bl k] ∧ Q (.int (if k then 1 else 0)) H) ∨ (∃ a n, xs = [.str a] ∧ PySem.intText? a = some n ∧ a.length ≤ 640 ∧ Q (.int n) H)
theorem call_intS : CallR X (.type "int") rIntS := CallR.or call_int1 call_int_str
end
theorem mc_intS {Z : Zt} {E : XK} : CallM Z E (f1 mIntS) rIntS := .one fun ρ h H x v Q R r q => by
  cases r with
  | int i => exact .inl (.inl ⟨i, rfl, q.ok R (.int _)⟩)
  | bl b => exact .inl (.inr ⟨b, rfl, Post.ok (R := rV Z) (a := .int (if b = true then 1 else 0)) q R (.int _)⟩)
  | str s =>
    unfold mIntS at q
    dsimp only at q
    by_cases z : s.length ≤ 640
    · rw [if_pos z] at q
      cases k : PySem.intText? ⟨s.toArray⟩ with
      | none => rw [k] at q; exact q.elim
      | some n =>
        rw [k] at q
        exact .inr ⟨_, n, rfl, k, by show s.toArray.size ≤ 640; simpa using z, q.ok R (.int _)⟩
    · rw [if_neg z] at q; exact q.elim
  | _ => exact q.elim
end MI
set_option Elab.async false
set_option linter.all false
set_option maxRecDepth 100000
set_option maxHeartbeats 4000000
namespace MI
open PySem PySem.Spec PyProof.Rows L2 JB
def rD0 (k : Bool → Bool) : R2 := fun x y H Q => ∃ a b ks, x = .ref a ∧ y = .ref b ∧ H a = some (.dK ks) ∧ H b = some (.dK []) ∧ Q (.bl (k ks.isEmpty)) H
section
variable {X : Cx}
theorem op_eq_d0 (hu : X.A.units < cLine) : OpR X (compareOp .Eq) (rD0 fun b => b) := by
  intro pins s σ H x y v u Q I rx ry h
  obtain ⟨a, b, ks, rfl, rfl, ea, eb, q⟩ := h
  obtain rfl : v = Value.ref a := rx
  obtain rfl : u = Value.ref b := ry
  obtain ⟨_, ya, va, ra, da⟩ := (show ObjOk X.prog X.w H s.heap a (.dK ks) from I.hok a _ ea)
  obtain ⟨_, yb, vb, rb, db⟩ := (show ObjOk X.prog X.w H s.heap b (.dK []) from I.hok b _ eb)
  have hb : vb = [] := List.length_eq_zero_iff.mp (by rw [← rb.length]; rfl)
  subst hb
  refine PySem.W.keq_eq (knd := mixKind X.prog X.w) (r := true) ya yb da db hu (fun hl => ?_) (fin_bl I q ?_)
  · have : va = [] := List.length_eq_zero_iff.mp hl
    subst this
    exact .nil
  · have := ra.length
    cases ks with
    | nil => have : va = [] := List.length_eq_zero_iff.mp this.symm; subst this; rfl
    | cons p ks => cases va with
      | nil => simp at this
      | cons _ _ => rfl
theorem op_ne_d0 (hu : X.A.units < cLine) : OpR X (compareOp .NotEq) (rD0 fun b => !b) := by
  intro pins s σ H x y v u Q I rx ry h
  obtain ⟨a, b, ks, rfl, rfl, ea, eb, q⟩ := h
  obtain rfl : v = Value.ref a := rx
  obtain rfl : u = Value.ref b := ry
  obtain ⟨_, ya, va, ra, da⟩ := (show ObjOk X.prog X.w H s.heap a (.dK ks) from I.hok a _ ea)
  obtain ⟨_, yb, vb, rb, db⟩ := (show ObjOk X.prog X.w H s.heap b (.dK []) from I.hok b _ eb)
  have hb : vb = [] := List.length_eq_zero_iff.mp (by rw [← rb.length]; rfl)
  subst hb
  refine PySem.W.keq_ne (knd := mixKind X.prog X.w) (r := true) ya yb da db hu (fun hl => ?_) (fin_bl I q ?_)
  · have : va = [] := List.length_eq_zero_iff.mp hl
    subst this
    exact .nil
  · have := ra.length
    cases ks with
    | nil => have : va = [] := List.length_eq_zero_iff.mp this.symm; subst this; rfl
    | cons p ks => cases va with
      | nil => simp at this
      | cons _ _ => rfl
end
def mD0 (k : Bool → Bool) (x y : MV) (h : MH) : Out MV := match x, y with
  | .ref i, .ref j => match h.get i, h.get j with
    | some (.dic kvs), some (.dic []) => .ok (.bl (k kvs.isEmpty)) h
    | _, _ => .bad
  | _, _ => .bad
theorem om_d0 {Z : Zt} {E : XK} {k : Bool → Bool} : OpM Z E (mD0 k) (rD0 k) := fun ρ h H x y v w Q R r q p => by
  cases r with
  | @ref i a hi =>
    cases q with
    | @ref j b hj =>
      have p' : Post Z (rV Z) ρ H Q E (match h.get i, h.get j with
        | some (.dic kvs), some (.dic []) => .ok (.bl (k kvs.isEmpty)) h
        | _, _ => .bad) := p
      split at p'
      · rename_i kvs g1 g2
        obtain ⟨vs, h1, h2⟩ := R.obj g1 hi
        obtain ⟨ws, h3, h4⟩ := R.obj g2 hj
        have hw : ws = [] := by cases h4; rfl
        subst hw
        have e : vs.isEmpty = kvs.isEmpty := by cases h2 <;> rfl
        exact ⟨a, b, vs, rfl, rfl, h1, h3, by rw [e]; exact Post.ok (R := rV Z) (a := .bl (k kvs.isEmpty)) p' R (.bl _)⟩
      · exact p'.elim
    | _ => exact p.elim
  | _ => cases q <;> exact p.elim
def isD0 (h : MH) : MV → Bool
  | .ref j => match h.get j with
    | some (.dic []) => true
    | _ => false
  | _ => false
def mEqY (x y : MV) (h : MH) : Out MV := if isD0 h y = true then mD0 (fun b => b) x y h else mEqX x y h
def mNeY (x y : MV) (h : MH) : Out MV := if isD0 h y = true then mD0 (fun b => !b) x y h else mNeX x y h
theorem mEqY_or (x y : MV) (h : MH) : mEqY x y h = mD0 (fun b => b) x y h ∨ mEqY x y h = mEqX x y h := by unfold mEqY; split; exact .inl rfl; exact .inr rfl
theorem mNeY_or (x y : MV) (h : MH) : mNeY x y h = mD0 (fun b => !b) x y h ∨ mNeY x y h = mNeX x y h := by unfold mNeY; split; exact .inl rfl; exact .inr rfl
section
variable {X : Cx} {T : Nat → Addr} {E : XK} {a b : Expr} {ga gb : ME} {pos : Pos}
theorem je_eqY (hu : X.A.units + 64 < cLine) (ha : JE X T E a ga) (hb : JE X T E b gb) : JE X T E (.Compare a [.Eq] [b] pos) (gBin mEqY ga gb) :=
  je_bin_or (je_cmp (op_eq_d0 (by omega)) om_d0 ha hb (nobehind _ (by decide) (by decide))) (je_eqF hu ha hb) mEqY_or
theorem je_neY (hu : X.A.units + 64 < cLine) (ha : JE X T E a ga) (hb : JE X T E b gb) : JE X T E (.Compare a [.NotEq] [b] pos) (gBin mNeY ga gb) :=
  je_bin_or (je_cmp (op_ne_d0 (by omega)) om_d0 ha hb (nobehind _ (by decide) (by decide))) (je_neF hu ha hb) mNeY_or
theorem jt_neY (hu : X.A.units + 64 < cLine) (ha : JE X T E a ga) (hb : JE X T E b gb) : JT X T E (.Compare a [.NotEq] [b] pos) (gB (gBin mNeY ga gb)) :=
  jt_bin_or (jt_cmp (op_ne_d0 (by omega)) om_d0 ha hb (nobehind _ (by decide) (by decide))) (jt_neF hu ha hb) mNeY_or
end
end MI
set_option Elab.async false
set_option linter.all false
set_option maxRecDepth 100000
set_option maxHeartbeats 8000000
namespace K36
open PySem PySem.Spec PyProof.Rows L2 JB MI
def top (i : Nat) : Stmt := PySem.Challenge.pw_lastingrun_k36_reachable_objects.main.body.getD i (.Pass ⟨0, 0, 0, 0⟩)
abbrev s_law_cells : Stmt := top 15
abbrev d_law_cells : He.DefD := ⟨("_law_cells", none), "_law_cells", "_law_cells", defArgs s_law_cells, defBody s_law_cells, defScope s_law_cells, [], []⟩
abbrev s_law_box : Stmt := top 16
abbrev d_law_box : He.DefD := ⟨("_law_box", none), "_law_box", "_law_box", defArgs s_law_box, defBody s_law_box, defScope s_law_box, [], []⟩
abbrev s_Heap___init : Stmt := inClass (top 9) 0
abbrev d_Heap___init : He.DefD := ⟨("Heap", some "__init__"), "__init__", "Heap.__init__", defArgs s_Heap___init, defBody s_Heap___init, defScope s_Heap___init, [], []⟩
abbrev s_law_take : Stmt := top 17
abbrev d_law_take : He.DefD := ⟨("_law_take", none), "_law_take", "_law_take", defArgs s_law_take, defBody s_law_take, defScope s_law_take, [], []⟩
abbrev s_Memory_filled : Stmt := inClass (top 13) 5
abbrev d_Memory_filled : He.DefD := ⟨("Memory", some "filled"), "filled", "Memory.filled", defArgs s_Memory_filled, defBody s_Memory_filled, defScope s_Memory_filled, [], []⟩
abbrev s_Memory_puts : Stmt := inClass (top 13) 4
abbrev d_Memory_puts : He.DefD := ⟨("Memory", some "puts"), "puts", "Memory.puts", defArgs s_Memory_puts, defBody s_Memory_puts, defScope s_Memory_puts, [], []⟩
abbrev s_Heap__add : Stmt := inClass (top 9) 3
abbrev d_Heap__add : He.DefD := ⟨("Heap", some "_add"), "_add", "Heap._add", defArgs s_Heap__add, defBody s_Heap__add, defScope s_Heap__add, [], []⟩
abbrev s_Memory_get : Stmt := inClass (top 13) 1
abbrev d_Memory_get : He.DefD := ⟨("Memory", some "get"), "get", "Memory.get", defArgs s_Memory_get, defBody s_Memory_get, defScope s_Memory_get, [], []⟩
abbrev s_Heap__look : Stmt := inClass (top 9) 2
abbrev d_Heap__look : He.DefD := ⟨("Heap", some "_look"), "_look", "Heap._look", defArgs s_Heap__look, defBody s_Heap__look, defScope s_Heap__look, [], []⟩
abbrev s_Heap__lowest : Stmt := inClass (top 9) 7
abbrev d_Heap__lowest : He.DefD := ⟨("Heap", some "_lowest"), "_lowest", "Heap._lowest", defArgs s_Heap__lowest, defBody s_Heap__lowest, defScope s_Heap__lowest, [], []⟩
abbrev s_without_end : Stmt := top 12
abbrev d_without_end : He.DefD := ⟨("without_end", none), "without_end", "without_end", defArgs s_without_end, defBody s_without_end, defScope s_without_end, [], []⟩
abbrev s_Memory_page : Stmt := inClass (top 13) 7
abbrev d_Memory_page : He.DefD := ⟨("Memory", some "page"), "page", "Memory.page", defArgs s_Memory_page, defBody s_Memory_page, defScope s_Memory_page, [], []⟩
abbrev s_Memory__keep : Stmt := inClass (top 13) 3
abbrev d_Memory__keep : He.DefD := ⟨("Memory", some "_keep"), "_keep", "Memory._keep", defArgs s_Memory__keep, defBody s_Memory__keep, defScope s_Memory__keep, [], []⟩
abbrev s_Memory_put : Stmt := inClass (top 13) 2
abbrev d_Memory_put : He.DefD := ⟨("Memory", some "put"), "put", "Memory.put", defArgs s_Memory_put, defBody s_Memory_put, defScope s_Memory_put, [], []⟩
abbrev s_Heap__write : Stmt := inClass (top 9) 4
abbrev d_Heap__write : He.DefD := ⟨("Heap", some "_write"), "_write", "Heap._write", defArgs s_Heap__write, defBody s_Heap__write, defScope s_Heap__write, [], []⟩
abbrev s_Heap_make : Stmt := inClass (top 9) 8
abbrev d_Heap_make : He.DefD := ⟨("Heap", some "make"), "make", "Heap.make", defArgs s_Heap_make, defBody s_Heap_make, defScope s_Heap_make, [], []⟩
abbrev s_Memory___init : Stmt := inClass (top 13) 0
abbrev d_Memory___init : He.DefD := ⟨("Memory", some "__init__"), "__init__", "Memory.__init__", defArgs s_Memory___init, defBody s_Memory___init, defScope s_Memory___init, [.adr (He.dflAt ("Memory", some "__init__") 0)], []⟩
abbrev s_law_of : Stmt := top 18
abbrev d_law_of : He.DefD := ⟨("_law_of", none), "_law_of", "_law_of", defArgs s_law_of, defBody s_law_of, defScope s_law_of, [], []⟩
abbrev s_Heap__cell : Stmt := inClass (top 9) 5
abbrev d_Heap__cell : He.DefD := ⟨("Heap", some "_cell"), "_cell", "Heap._cell", defArgs s_Heap__cell, defBody s_Heap__cell, defScope s_Heap__cell, [], []⟩
abbrev s_Heap__place_cell : Stmt := inClass (top 9) 6
abbrev d_Heap__place_cell : He.DefD := ⟨("Heap", some "_place_cell"), "_place_cell", "Heap._place_cell", defArgs s_Heap__place_cell, defBody s_Heap__place_cell, defScope s_Heap__place_cell, [], []⟩
abbrev s_Heap_put : Stmt := inClass (top 9) 12
abbrev d_Heap_put : He.DefD := ⟨("Heap", some "put"), "put", "Heap.put", defArgs s_Heap_put, defBody s_Heap_put, defScope s_Heap_put, [], []⟩
abbrev s_Heap_atoms : Stmt := inClass (top 9) 10
abbrev d_Heap_atoms : He.DefD := ⟨("Heap", some "atoms"), "atoms", "Heap.atoms", defArgs s_Heap_atoms, defBody s_Heap_atoms, defScope s_Heap_atoms, [], []⟩
abbrev s_law_world : Stmt := top 22
abbrev d_law_world : He.DefD := ⟨("_law_world", none), "_law_world", "_law_world", defArgs s_law_world, defBody s_law_world, defScope s_law_world, [], []⟩
abbrev s_law_sorted : Stmt := top 21
abbrev d_law_sorted : He.DefD := ⟨("_law_sorted", none), "_law_sorted", "_law_sorted", defArgs s_law_sorted, defBody s_law_sorted, defScope s_law_sorted, [], []⟩
abbrev s_Marks_mark : Stmt := inClass (top 6) 1
abbrev d_Marks_mark : He.DefD := ⟨("Marks", some "mark"), "mark", "Marks.mark", defArgs s_Marks_mark, defBody s_Marks_mark, defScope s_Marks_mark, [], []⟩
abbrev s_Heap_refs : Stmt := inClass (top 9) 14
abbrev d_Heap_refs : He.DefD := ⟨("Heap", some "refs"), "refs", "Heap.refs", defArgs s_Heap_refs, defBody s_Heap_refs, defScope s_Heap_refs, [], []⟩
abbrev s_Marks___init : Stmt := inClass (top 6) 0
abbrev d_Marks___init : He.DefD := ⟨("Marks", some "__init__"), "__init__", "Marks.__init__", defArgs s_Marks___init, defBody s_Marks___init, defScope s_Marks___init, [], []⟩
abbrev s_Marks_mark_named : Stmt := inClass (top 6) 3
abbrev d_Marks_mark_named : He.DefD := ⟨("Marks", some "mark_named"), "mark_named", "Marks.mark_named", defArgs s_Marks_mark_named, defBody s_Marks_mark_named, defScope s_Marks_mark_named, [], []⟩
abbrev s_Marks_look : Stmt := inClass (top 6) 2
abbrev d_Marks_look : He.DefD := ⟨("Marks", some "look"), "look", "Marks.look", defArgs s_Marks_look, defBody s_Marks_look, defScope s_Marks_look, [], []⟩
abbrev s_Marks_is_marked : Stmt := inClass (top 6) 5
abbrev d_Marks_is_marked : He.DefD := ⟨("Marks", some "is_marked"), "is_marked", "Marks.is_marked", defArgs s_Marks_is_marked, defBody s_Marks_is_marked, defScope s_Marks_is_marked, [], []⟩
abbrev s_reachable : Stmt := top 7
abbrev d_reachable : He.DefD := ⟨("reachable", none), "reachable", "reachable", defArgs s_reachable, defBody s_reachable, defScope s_reachable, [], []⟩
abbrev s_law_same : Stmt := top 19
abbrev d_law_same : He.DefD := ⟨("_law_same", none), "_law_same", "_law_same", defArgs s_law_same, defBody s_law_same, defScope s_law_same, [], []⟩
abbrev s_law_closure : Stmt := top 20
abbrev d_law_closure : He.DefD := ⟨("_law_closure", none), "_law_closure", "_law_closure", defArgs s_law_closure, defBody s_law_closure, defScope s_law_closure, [], []⟩
abbrev s_law_right : Stmt := top 23
abbrev d_law_right : He.DefD := ⟨("_law_right", none), "_law_right", "_law_right", defArgs s_law_right, defBody s_law_right, defScope s_law_right, [], []⟩
abbrev s_law : Stmt := top 24
abbrev d_law : He.DefD := ⟨("law", none), "law", "law", defArgs s_law, defBody s_law, defScope s_law, [], []⟩
abbrev s_NoObject___init : Stmt := inClass (top 2) 0
abbrev d_NoObject___init : He.DefD := ⟨("NoObject", some "__init__"), "__init__", "NoObject.__init__", defArgs s_NoObject___init, defBody s_NoObject___init, defScope s_NoObject___init, [], []⟩
abbrev s_NoPlace___init : Stmt := inClass (top 3) 0
abbrev d_NoPlace___init : He.DefD := ⟨("NoPlace", some "__init__"), "__init__", "NoPlace.__init__", defArgs s_NoPlace___init, defBody s_NoPlace___init, defScope s_NoPlace___init, [], []⟩
def fn : List He.DefD := [d_law_cells, d_law_box, d_Heap___init, d_law_take, d_Memory_filled, d_Memory_puts, d_Heap__add, d_Memory_get, d_Heap__look, d_Heap__lowest, d_without_end, d_Memory_page, d_Memory__keep, d_Memory_put, d_Heap__write, d_Heap_make, d_Memory___init, d_law_of, d_Heap__cell, d_Heap__place_cell, d_Heap_put, d_Heap_atoms, d_law_world, d_law_sorted, d_Marks_mark, d_Heap_refs, d_Marks___init, d_Marks_mark_named, d_Marks_look, d_Marks_is_marked, d_reachable, d_law_same, d_law_closure, d_law_right, d_law, d_NoObject___init, d_NoPlace___init]
def fa : List He.Fa := [.glo "law", .free "list", .free "enumerate", .free "abs", .free "int", .cls "Heap", .noat "Heap" "_memory", .noat "Heap" "_cells", .noat "Heap" "_sizes", .noat "Heap" "_puts", .noat "Heap" "_watchers", .glo "Heap", .cls "Memory", .noat "Memory" "_rows", .free "sorted", .int "PAGE" 8, .free "range", .glo "Memory", .noat "Memory" "_puts", .meth "Memory" "puts", .meth "Memory" "filled", .meth "Heap" "_add", .meth "Memory" "get", .free "len", .free "tuple", .glo "without_end", .noat "Memory" "_base", .meth "Memory" "page", .noat "Memory" "_kept", .meth "Memory" "_keep", .meth "Memory" "put", .meth "Heap" "_look", .meth "Heap" "_lowest", .meth "Heap" "_write", .noat "Memory" "_kept_many", .glo "_law_take", .glo "NoObject", .meth "Heap" "_cell", .glo "NoPlace", .meth "Heap" "_place_cell", .mkr "Heap", .mkr "Memory", .meth "Heap" "make", .meth "Heap" "atoms", .glo "_law_of", .meth "Heap" "put", .free "str", .cls "Marks", .noat "Marks" "_known", .noat "Marks" "_marked", .noat "Marks" "_rest", .glo "Marks", .noat "Marks" "_heap", .meth "Heap" "refs", .meth "Marks" "mark", .meth "Marks" "mark_named", .mkr "Marks", .meth "Marks" "look", .meth "Marks" "is_marked", .free "repr", .glo "_law_world", .glo "_law_sorted", .glo "_law_closure", .glo "reachable", .glo "_law_same", .glo "_law_cells", .glo "_law_box", .glo "_law_right", .free "all", .free "LookupError"]
def fc : List Fc := [.etup ("Memory", some "__init__") 0, .raw (exiB "NoObject" 1), .raw (exkB "NoObject" 1), .raw (nofB "NoObject" "ref"), .raw (exiB "NoPlace" 1), .raw (exkB "NoPlace" 1), .raw (nofB "NoPlace" "place")]
def cn : Nat → Str
  | 0 => "Marks"
  | 1 => "Heap"
  | 2 => "Memory"
  | 3 => "NoObject"
  | 4 => "NoPlace"
  | _ => "_"
abbrev tN (K : PySem.W.Frag) : Nat → Addr := fun i => He.ga K (cn i)
abbrev W (K : PySem.W.Frag) (mg : Str → Option Value) : Prop := Fx fa fn fc K mg
theorem n__memory : ("_memory" : Str) = nm 10293546223749925205608922112418656551007 := by decide +kernel
theorem n__cells : ("_cells" : Str) = nm 4664956297864696616211264909082719 := by decide +kernel
theorem n__sizes : ("_sizes" : Str) = nm 4664956162465133946598905528451167 := by decide +kernel
theorem n__puts : ("_puts" : Str) = nm 2224424578002588528290037855 := by decide +kernel
theorem n__watchers : ("_watchers" : Str) = nm 43026628541309995105828283364444002592150526583898207 := by decide +kernel
theorem n__rows : ("_rows" : Str) = nm 2224424605672678250579492959 := by decide +kernel
theorem n_puts : ("puts" : Str) = nm 1060688294411939872880 := by decide +kernel
theorem n_filled : ("filled" : Str) = nm 4056483874355454706685166141571174 := by decide +kernel
theorem n_get : ("get" : Str) = nm 510173607100519 := by decide +kernel
theorem n__add : ("_add" : Str) = nm 922337643490332115039 := by decide +kernel
theorem n__base : ("_base" : Str) = nm 1953625185185451595341496415 := by decide +kernel
theorem n_page : ("page" : Str) = nm 931561028721326424176 := by decide +kernel
theorem n__kept : ("_kept" : Str) = nm 2243767354222864078911570015 := by decide +kernel
theorem n__keep : ("_keep" : Str) = nm 2166396000310435406327840863 := by decide +kernel
theorem n_put : ("put" : Str) = nm 510173640654960 := by decide +kernel
theorem n__look : ("_look" : Str) = nm 2069682026975029421366313055 := by decide +kernel
theorem n__lowest : ("_lowest" : Str) = nm 9868193305663377905544140124704506642527 := by decide +kernel
theorem n__write : ("_write" : Str) = nm 4097048983704927084954340317724767 := by decide +kernel
theorem n__kept_many : ("_kept_many" : Str) = nm 94941204903626959178789249757594317142006096203679912689759 := by decide +kernel
theorem n_ref : ("ref" : Str) = nm 448600955945074 := by decide +kernel
theorem n__cell : ("_cell" : Str) = nm 2089024812418703397113299039 := by decide +kernel
theorem n_place : ("place" : Str) = nm 1953625037611499005686055024 := by decide +kernel
theorem n__place_cell : ("_place_cell" : Str) = nm 177714576931601468876924009604150707265706476241428550636844089439 := by decide +kernel
theorem n_make : ("make" : Str) = nm 931561046313512468589 := by decide +kernel
theorem n_atoms : ("atoms" : Str) = nm 2224424513438957882035929185 := by decide +kernel
theorem n__known : ("_known" : Str) = nm 4462132414599151834302220144214111 := by decide +kernel
theorem n__marked : ("_marked" : Str) = nm 8507063270072271206276435907098246643807 := by decide +kernel
theorem n__rest : ("_rest" : Str) = nm 2243767381892980189490577503 := by decide +kernel
theorem n__heap : ("_heap" : Str) = nm 2166395963416947258902446175 := by decide +kernel
theorem n_refs : ("refs" : Str) = nm 1060688232839255162994 := by decide +kernel
theorem n_mark : ("mark" : Str) = nm 986901309320966701165 := by decide +kernel
theorem n_mark_named : ("mark_named" : Str) = nm 78463809480939290633838191427914992170413991695107659661421 := by decide +kernel
theorem n_look : ("look" : Str) = nm 986901296126856527980 := by decide +kernel
theorem n_is_marked : ("is_marked" : Str) = nm 37414459934682337676697356448181313120351053999505513 := by decide +kernel
section
variable {P : Program} {w : World} {K : PySem.W.Frag} {mg : Str → Option Value} {base : Heap}
theorem fk_Heap__memory (F : W K mg) : FldOk K (tN K) [1] 10293546223749925205608922112418656551007 := fun c hc => by
  obtain rfl := List.mem_singleton.mp hc
  exact ⟨F.cls 5, by rw [← n__memory]; exact F.noat 6⟩
theorem fk_Heap__cells (F : W K mg) : FldOk K (tN K) [1] 4664956297864696616211264909082719 := fun c hc => by
  obtain rfl := List.mem_singleton.mp hc
  exact ⟨F.cls 5, by rw [← n__cells]; exact F.noat 7⟩
theorem fk_Heap__sizes (F : W K mg) : FldOk K (tN K) [1] 4664956162465133946598905528451167 := fun c hc => by
  obtain rfl := List.mem_singleton.mp hc
  exact ⟨F.cls 5, by rw [← n__sizes]; exact F.noat 8⟩
theorem fk_Heap__puts (F : W K mg) : FldOk K (tN K) [1] 2224424578002588528290037855 := fun c hc => by
  obtain rfl := List.mem_singleton.mp hc
  exact ⟨F.cls 5, by rw [← n__puts]; exact F.noat 9⟩
theorem fk_Heap__watchers (F : W K mg) : FldOk K (tN K) [1] 43026628541309995105828283364444002592150526583898207 := fun c hc => by
  obtain rfl := List.mem_singleton.mp hc
  exact ⟨F.cls 5, by rw [← n__watchers]; exact F.noat 10⟩
theorem fk_Memory__rows (F : W K mg) : FldOk K (tN K) [2] 2224424605672678250579492959 := fun c hc => by
  obtain rfl := List.mem_singleton.mp hc
  exact ⟨F.cls 12, by rw [← n__rows]; exact F.noat 13⟩
theorem fk_Memory__puts (F : W K mg) : FldOk K (tN K) [2] 2224424578002588528290037855 := fun c hc => by
  obtain rfl := List.mem_singleton.mp hc
  exact ⟨F.cls 12, by rw [← n__puts]; exact F.noat 18⟩
theorem fk_Memory__base (F : W K mg) : FldOk K (tN K) [2] 1953625185185451595341496415 := fun c hc => by
  obtain rfl := List.mem_singleton.mp hc
  exact ⟨F.cls 12, by rw [← n__base]; exact F.noat 26⟩
theorem fk_Memory__kept (F : W K mg) : FldOk K (tN K) [2] 2243767354222864078911570015 := fun c hc => by
  obtain rfl := List.mem_singleton.mp hc
  exact ⟨F.cls 12, by rw [← n__kept]; exact F.noat 28⟩
theorem fk_Memory__kept_many (F : W K mg) : FldOk K (tN K) [2] 94941204903626959178789249757594317142006096203679912689759 := fun c hc => by
  obtain rfl := List.mem_singleton.mp hc
  exact ⟨F.cls 12, by rw [← n__kept_many]; exact F.noat 34⟩
theorem fk_Marks__known (F : W K mg) : FldOk K (tN K) [0] 4462132414599151834302220144214111 := fun c hc => by
  obtain rfl := List.mem_singleton.mp hc
  exact ⟨F.cls 47, by rw [← n__known]; exact F.noat 48⟩
theorem fk_Marks__marked (F : W K mg) : FldOk K (tN K) [0] 8507063270072271206276435907098246643807 := fun c hc => by
  obtain rfl := List.mem_singleton.mp hc
  exact ⟨F.cls 47, by rw [← n__marked]; exact F.noat 49⟩
theorem fk_Marks__rest (F : W K mg) : FldOk K (tN K) [0] 2243767381892980189490577503 := fun c hc => by
  obtain rfl := List.mem_singleton.mp hc
  exact ⟨F.cls 47, by rw [← n__rest]; exact F.noat 50⟩
theorem fk_Marks__heap (F : W K mg) : FldOk K (tN K) [0] 2166395963416947258902446175 := fun c hc => by
  obtain rfl := List.mem_singleton.mp hc
  exact ⟨F.cls 47, by rw [← n__heap]; exact F.noat 52⟩
end
end K36
set_option Elab.async false
set_option linter.all false
set_option maxRecDepth 100000
set_option maxHeartbeats 8000000
namespace K36
open PySem PySem.Spec PyProof.Rows L2 JB MI
section
variable {P : Program} {w : World} {K : PySem.W.Frag} {mg : Str → Option Value} {base : Heap}
theorem er_NoObject (F : W K mg) : ErK P w K mg base "NoObject" (tN K 3) 1 (spE1 (tN K 3) "ref") := by
  obtain ⟨fd, D⟩ := F.c.def_ 35 (d := d_NoObject___init) rfl
  have iz := exi_of (k := 1) (F.extra 1 (f := .raw (exiB "NoObject" 1)))
  have T := exk_of (k := 1) (F.extra 2 (f := .raw (exkB "NoObject" 1)))
  have n0 := nof_of (F.extra 3 (f := .raw (nofB "NoObject" "ref")))
  refine ⟨⟨_, _, _, _, He.fAd K d_NoObject___init.at_, fd, ["self", "ref"], bB_ok 1, T, iz.1, iz.2.1, FnG.of (D.ok (CX := CX0) (k := 0) (N := ["self", "ref"]) ⟨rfl, rfl, rfl, by decide +kernel, rfl, by decide +kernel, by decide +kernel⟩ (fun vs H Q E h => ?_) (fun cdv A outer s H vs Q E hr h => ?_)), D.bindsN (fun _ _ _ _ _ _ us hl => match us, hl with | [_, _], _ => rfl), rfl⟩, F.glo 36⟩
  · obtain ⟨a, v, rfl, _⟩ := h; rfl
  · obtain ⟨a, v, rfl, ha, hv, hq⟩ := h
    refine ⟨_, pss_cons (ps_expr (pe_bin (bB_ok 1) (by rfl) (F.free 69) (by decide +kernel) (tyErr 1) (stErr 1) iz.2.2 (hdErr 1) (pa_cons (pv 0) (pa_cons (pe_joined (.cons pe_str (.cons (pe_fmt (pv 1)) (.nil)))) pa_nil)))) (pss_one (ps_setE (pv 0) (pv 1))), ?_⟩
    refine ⟨_, rfl, ?_⟩
    have l0 := lenPlus lenNone (b := Str.ofString "there is no object ") (m := 400) (by decide +kernel)
    refine ⟨_, rfl, lenLine l0, ?_⟩
    refine ⟨_, rfl, show_shortV hv fun y1 z1 => ?_⟩
    have l1 := lenPlus l0 z1
    refine ⟨_, rfl, lenLine l1, ?_⟩
    refine ⟨a, _, _, rfl, (by show 1 ≤ 1000; decide), T, ha, ?_⟩
    refine ⟨_, rfl, _, rfl, a, _, rfl, isEx_of (k := 1) (F.extra 2 (f := .raw (exkB "NoObject" 1))), n0, .inl ⟨ha, fun dx m1 m2 => ?_⟩⟩
    exact hq dx m1 m2
theorem er_NoPlace (F : W K mg) : ErK P w K mg base "NoPlace" (tN K 4) 1 (spE1 (tN K 4) "place") := by
  obtain ⟨fd, D⟩ := F.c.def_ 36 (d := d_NoPlace___init) rfl
  have iz := exi_of (k := 1) (F.extra 4 (f := .raw (exiB "NoPlace" 1)))
  have T := exk_of (k := 1) (F.extra 5 (f := .raw (exkB "NoPlace" 1)))
  have n0 := nof_of (F.extra 6 (f := .raw (nofB "NoPlace" "place")))
  refine ⟨⟨_, _, _, _, He.fAd K d_NoPlace___init.at_, fd, ["self", "place"], bB_ok 1, T, iz.1, iz.2.1, FnG.of (D.ok (CX := CX0) (k := 0) (N := ["self", "place"]) ⟨rfl, rfl, rfl, by decide +kernel, rfl, by decide +kernel, by decide +kernel⟩ (fun vs H Q E h => ?_) (fun cdv A outer s H vs Q E hr h => ?_)), D.bindsN (fun _ _ _ _ _ _ us hl => match us, hl with | [_, _], _ => rfl), rfl⟩, F.glo 38⟩
  · obtain ⟨a, v, rfl, _⟩ := h; rfl
  · obtain ⟨a, v, rfl, ha, hv, hq⟩ := h
    refine ⟨_, pss_cons (ps_expr (pe_bin (bB_ok 1) (by rfl) (F.free 69) (by decide +kernel) (tyErr 1) (stErr 1) iz.2.2 (hdErr 1) (pa_cons (pv 0) (pa_cons (pe_joined (.cons pe_str (.cons (pe_fmt (pv 1)) (.nil)))) pa_nil)))) (pss_one (ps_setE (pv 0) (pv 1))), ?_⟩
    refine ⟨_, rfl, ?_⟩
    have l0 := lenPlus lenNone (b := Str.ofString "the object has no place ") (m := 400) (by decide +kernel)
    refine ⟨_, rfl, lenLine l0, ?_⟩
    refine ⟨_, rfl, show_shortV hv fun y1 z1 => ?_⟩
    have l1 := lenPlus l0 z1
    refine ⟨_, rfl, lenLine l1, ?_⟩
    refine ⟨a, _, _, rfl, (by show 1 ≤ 1000; decide), T, ha, ?_⟩
    refine ⟨_, rfl, _, rfl, a, _, rfl, isEx_of (k := 1) (F.extra 5 (f := .raw (exkB "NoPlace" 1))), n0, .inl ⟨ha, fun dx m1 m2 => ?_⟩⟩
    exact hq dx m1 m2
def b_law_cells : MS := gSeq (gAsg (gOrT (gCB (f1 mList) (gCons (gSl (gVar 0) (gPn) (gPs (gVar 1))) (gNil))) (gLst (gCons (gC (.int 0)) (gNil)))) (tgName 3)) (gSeq (gFor (gEnumA (gSl (gVar 0) (gPs (gVar 1)) (gPs (gC (.int 63))))) (tgTup [4, 2]) (gAsg (gBin mAdd (gBin mIx (gVar 3) (gBin mMod (gVar 4) (gVar 1))) (gBin mMulA (gVar 2) (gBin mAdd (gVar 4) (gC (.int 2))))) (tgSub (gVar 3) (gBin mMod (gVar 4) (gVar 1))))) (gRet (gVar 3)))
def m_law_cells : MF := gBody 5 b_law_cells
theorem sc_law_cells : FnScope ["_law_script", "_law_most", "_law_cell", "_law_cells_here", "_law_k"] ["_law_script", "_law_most"] (defScope s_law_cells) :=
  ⟨rfl, rfl, rfl, by decide +kernel, rfl, by decide +kernel, by decide +kernel⟩
theorem fn_law_cells (F : W K mg) {fd : FuncData} (D : FunD K d_law_cells.name d_law_cells.qual d_law_cells.params d_law_cells.body d_law_cells.scope (d_law_cells.dvs K) (d_law_cells.kws K) (He.fAd K d_law_cells.at_) fd) :
    FnG P w K mg base (L2.CX P w) 1 (He.fAd K d_law_cells.at_) fd ["_law_script", "_law_most"] (spM ⟨K, tN K⟩ 2 m_law_cells) :=
  def_MD D sc_law_cells b_law_cells fun cdv A outer s H E hs hr => by
    have sc := sc_law_cells
    exact js_cons (js_set (i := 3) sc.nd rfl (Or.inl rfl) (je_orT (je_callT call_list_of mc_list (by rfl) (F.free 1) PyProof.Rows.boot_list (ja_cons (je_slice (je_var (pv 0)) (jp_none) (jp_some (je_var (pv 1)))) (ja_nil))) (je_one (je_lst (ja_cons (je_int) (ja_nil)))))) (js_cons (js_for own_M rfl (ji_enumT (by rfl) (F.free 2) (je_slice (je_var (pv 0)) (jp_some (je_var (pv 1))) (jp_some (je_int)))) (jg_tup (is := [4, 2]) rfl (pgs_more (pg_name (i := 4) sc.nd rfl (Or.inl rfl)) (pgs_more (pg_name (i := 2) sc.nd rfl (Or.inl rfl)) (pgs_names)))) (js_one (js_asg (je_add (je_ix (hu_of hr) (je_var (pv 3)) (je_mod (je_var (pv 4)) (je_var (pv 1)))) (je_mulA (je_var (pv 2)) (je_add (je_var (pv 4)) (je_int)))) (jg_sub (hu_of hr) (je_var (pv 3)) (je_mod (je_var (pv 4)) (je_var (pv 1))))))) (js_one (js_ret (je_var (pv 3)))))
theorem ok_law_cells (F : W K mg) : FM P w K mg base (tN K) 1 (He.fAd K d_law_cells.at_) 2 [] m_law_cells := by
  obtain ⟨fd, D⟩ := F.c.def_ 0 (d := d_law_cells) rfl
  exact FM.of0 (ps := ["_law_script", "_law_most"]) D (fn_law_cells F D) rfl (fun _ _ _ _ _ _ us hl => match us, hl with | [_, _], _ => rfl)
def b_law_box : MS := gSeq (gAsg (gBin mIx (gVar 0) (gVar 1)) (tgName 2)) (gRet (gLst (gCons (gBin mMulA (gCB (f1 mAbs) (gCons (gVar 2) (gNil))) (gCB (f1 mInt) (gCons (gBin mGeI (gCB (f1 mAbs) (gCons (gVar 2) (gNil))) (gBin mPow (gC (.int 10)) (gC (.int 18)))) (gNil)))) (gCons (gBin mAdd (gBin mAdd (gBin mMod (gVar 2) (gC (.int 2305843009213693951))) (gBin mMulA (gC (.int 7919)) (gVar 1))) (gC (.int 61))) (gCons (gC (.int 0)) (gNil))))))
def m_law_box : MF := gBody 3 b_law_box
theorem sc_law_box : FnScope ["_law_cells_here", "_law_k", "_law_cell"] ["_law_cells_here", "_law_k"] (defScope s_law_box) :=
  ⟨rfl, rfl, rfl, by decide +kernel, rfl, by decide +kernel, by decide +kernel⟩
theorem fn_law_box (F : W K mg) {fd : FuncData} (D : FunD K d_law_box.name d_law_box.qual d_law_box.params d_law_box.body d_law_box.scope (d_law_box.dvs K) (d_law_box.kws K) (He.fAd K d_law_box.at_) fd) :
    FnG P w K mg base (L2.CX P w) 1 (He.fAd K d_law_box.at_) fd ["_law_cells_here", "_law_k"] (spM ⟨K, tN K⟩ 2 m_law_box) :=
  def_MD D sc_law_box b_law_box fun cdv A outer s H E hs hr => by
    have sc := sc_law_box
    exact js_cons (js_set (i := 2) sc.nd rfl (Or.inl rfl) (je_ix (hu_of hr) (je_var (pv 0)) (je_var (pv 1)))) (js_one (js_ret (je_lst (ja_cons (je_mulA (je_callB call_abs mc_abs (by rfl) (F.free 3) PyProof.Rows.boot_abs (ja_cons (je_var (pv 2)) (ja_nil))) (je_callT call_int1 mc_int (by rfl) (F.free 4) PyProof.Rows.boot_int (ja_cons (je_ge (je_callB call_abs mc_abs (by rfl) (F.free 3) PyProof.Rows.boot_abs (ja_cons (je_var (pv 2)) (ja_nil))) (je_pow (je_int) (je_int))) (ja_nil)))) (ja_cons (je_add (je_add (je_mod (je_var (pv 2)) (je_int)) (je_mulA (je_int) (je_var (pv 1)))) (je_int)) (ja_cons (je_int) (ja_nil)))))))
theorem ok_law_box (F : W K mg) : FM P w K mg base (tN K) 1 (He.fAd K d_law_box.at_) 2 [] m_law_box := by
  obtain ⟨fd, D⟩ := F.c.def_ 1 (d := d_law_box) rfl
  exact FM.of0 (ps := ["_law_cells_here", "_law_k"]) D (fn_law_box F D) rfl (fun _ _ _ _ _ _ us hl => match us, hl with | [_, _], _ => rfl)
def b_Heap___init : MS := gSeq (gFldS [1] 10293546223749925205608922112418656551007 (gVar 1) (gVar 0)) (gSeq (gFldS [1] 4664956297864696616211264909082719 (gDic) (gVar 0)) (gSeq (gFldS [1] 4664956162465133946598905528451167 (gDic) (gVar 0)) (gSeq (gFldS [1] 2224424578002588528290037855 (gC .non) (gVar 0)) (gFldS [1] 43026628541309995105828283364444002592150526583898207 (gLst (gNil)) (gVar 0)))))
def m_Heap___init : MF := gBody 2 b_Heap___init
theorem sc_Heap___init : FnScope ["self", "memory"] ["self", "memory"] (defScope s_Heap___init) :=
  ⟨rfl, rfl, rfl, by decide +kernel, rfl, by decide +kernel, by decide +kernel⟩
theorem fn_Heap___init (F : W K mg) {fd : FuncData} (D : FunD K d_Heap___init.name d_Heap___init.qual d_Heap___init.params d_Heap___init.body d_Heap___init.scope (d_Heap___init.dvs K) (d_Heap___init.kws K) (He.fAd K d_Heap___init.at_) fd) :
    FnG P w K mg base (L2.CX P w) 1 (He.fAd K d_Heap___init.at_) fd ["self", "memory"] (spM ⟨K, tN K⟩ 2 m_Heap___init) :=
  def_MD D sc_Heap___init b_Heap___init fun cdv A outer s H E hs hr => by
    have sc := sc_Heap___init
    exact js_cons (js_fld (je_var (pv 0)) (je_var (pv 1)) (fk_Heap__memory F) n__memory) (js_cons (js_fld (je_var (pv 0)) (je_dic) (fk_Heap__cells F) n__cells) (js_cons (js_fld (je_var (pv 0)) (je_dic) (fk_Heap__sizes F) n__sizes) (js_cons (js_fld (je_var (pv 0)) (je_non) (fk_Heap__puts F) n__puts) (js_one (js_fld (je_var (pv 0)) (je_lst (ja_nil)) (fk_Heap__watchers F) n__watchers)))))
theorem ok_Heap___init (F : W K mg) : FM P w K mg base (tN K) 1 (He.fAd K d_Heap___init.at_) 2 [] m_Heap___init := by
  obtain ⟨fd, D⟩ := F.c.def_ 2 (d := d_Heap___init) rfl
  exact FM.of0 (ps := ["self", "memory"]) D (fn_Heap___init F D) rfl (fun _ _ _ _ _ _ us hl => match us, hl with | [_, _], _ => rfl)
def b_law_take : MS := gSeq (gIfS (gB (gBin mGtI (gBin mIx (gVar 0) (gC (.int 0))) (gC (.int 0)))) (gSeq (gAsg (gBin mMod (gBin mIx (gVar 0) (gC (.int 0))) (gVar 1)) (tgName 3)) (gSeq (gAsg (gBin mDiv (gBin mIx (gVar 0) (gC (.int 0))) (gVar 1)) (tgSub (gVar 0) (gC (.int 0)))) (gRet (gVar 3)))) (gNext)) (gSeq (gPar 5 2 (gCons (gBin mIx (gVar 0) (gC (.int 1))) (gCons (gBin mAdd (gBin mIx (gVar 0) (gC (.int 2))) (gC (.int 1))) (gNil)))) (gSeq (gAsg (gVar 2) (tgSub (gVar 0) (gC (.int 2)))) (gSeq (gAsg (gBin mMod (gBin mMulA (gBin mAdd (gVar 5) (gBin mMulA (gC (.int 48271)) (gVar 2))) (gBin mAdd (gC (.int 39373)) (gVar 2))) (gC (.int 2147483647))) (tgName 4)) (gSeq (gAsg (gBin mMod (gBin mMulA (gBin mAdd (gBin mAdd (gVar 4) (gVar 2)) (gBin mDiv (gVar 5) (gC (.int 1000003)))) (gBin mAdd (gBin mMod (gVar 4) (gC (.int 40009))) (gC (.int 7)))) (gC (.int 2147483629))) (tgName 6)) (gRet (gBin mMod (gBin mDiv (gBin mMod (gBin mAdd (gBin mMulA (gVar 6) (gC (.int 48271))) (gVar 4)) (gC (.int 2147483587))) (gC (.int 64))) (gVar 1)))))))
def m_law_take : MF := gBody 7 b_law_take
theorem sc_law_take : FnScope ["_law_box_here", "_law_below", "_law_far", "_law_found", "_law_once", "_law_seed", "_law_twice"] ["_law_box_here", "_law_below"] (defScope s_law_take) :=
  ⟨rfl, rfl, rfl, by decide +kernel, rfl, by decide +kernel, by decide +kernel⟩
theorem fn_law_take (F : W K mg) {fd : FuncData} (D : FunD K d_law_take.name d_law_take.qual d_law_take.params d_law_take.body d_law_take.scope (d_law_take.dvs K) (d_law_take.kws K) (He.fAd K d_law_take.at_) fd) :
    FnG P w K mg base (L2.CX P w) 1 (He.fAd K d_law_take.at_) fd ["_law_box_here", "_law_below"] (spM ⟨K, tN K⟩ 2 m_law_take) :=
  def_MD D sc_law_take b_law_take fun cdv A outer s H E hs hr => by
    have sc := sc_law_take
    exact js_cons (js_if (jt_gt (je_ix (hu_of hr) (je_var (pv 0)) (je_int)) (je_int)) (js_cons (js_set (i := 3) sc.nd rfl (Or.inl rfl) (je_mod (je_ix (hu_of hr) (je_var (pv 0)) (je_int)) (je_var (pv 1)))) (js_cons (js_asg (je_div (je_ix (hu_of hr) (je_var (pv 0)) (je_int)) (je_var (pv 1))) (jg_sub (hu_of hr) (je_var (pv 0)) (je_int))) (js_one (js_ret (je_var (pv 3)))))) (js_nil)) (js_cons (js_par (i := 5) (j := 2) rfl sc.nd rfl rfl (by decide) rfl rfl (ja_cons (je_ix (hu_of hr) (je_var (pv 0)) (je_int)) (ja_cons (je_add (je_ix (hu_of hr) (je_var (pv 0)) (je_int)) (je_int)) (ja_nil)))) (js_cons (js_asg (je_var (pv 2)) (jg_sub (hu_of hr) (je_var (pv 0)) (je_int))) (js_cons (js_set (i := 4) sc.nd rfl (Or.inl rfl) (je_mod (je_mulA (je_add (je_var (pv 5)) (je_mulA (je_int) (je_var (pv 2)))) (je_add (je_int) (je_var (pv 2)))) (je_int))) (js_cons (js_set (i := 6) sc.nd rfl (Or.inl rfl) (je_mod (je_mulA (je_add (je_add (je_var (pv 4)) (je_var (pv 2))) (je_div (je_var (pv 5)) (je_int))) (je_add (je_mod (je_var (pv 4)) (je_int)) (je_int))) (je_int))) (js_one (js_ret (je_mod (je_div (je_mod (je_add (je_mulA (je_var (pv 6)) (je_int)) (je_var (pv 4))) (je_int)) (je_int)) (je_var (pv 1)))))))))
theorem ok_law_take (F : W K mg) : FM P w K mg base (tN K) 1 (He.fAd K d_law_take.at_) 2 [] m_law_take := by
  obtain ⟨fd, D⟩ := F.c.def_ 3 (d := d_law_take) rfl
  exact FM.of0 (ps := ["_law_box_here", "_law_below"]) D (fn_law_take F D) rfl (fun _ _ _ _ _ _ us hl => match us, hl with | [_, _], _ => rfl)
abbrev sl_Memory_filled : List Str := ["self", "cells", "number", "row", "place"]
def b_Memory_filled : MS := gSeq (gAsg (gLst (gNil)) (tgName 1)) (gSeq (gFor (gIter (gCB (f1 mSortedA) (gCons (gFld [2] 2224424605672678250579492959 (gVar 0)) (gNil)))) (tgName 2) (gSeq (gAsg (gBin mIx (gFld [2] 2224424605672678250579492959 (gVar 0)) (gVar 2)) (tgName 3)) (gExpr (gBM "list" lExtA (gVar 1) (gCons (gLc (gRng1 (gC (.int 8))) (.one 4) (gB (gNotN (gBin mIx (gVar 3) (gVar 4)))) (gBin mAdd (gBin mMulA (gVar 2) (gC (.int 8))) (gVar 4)) [4]) (gNil)))))) (gRet (gVar 1)))
def m_Memory_filled : MF := gBody 5 b_Memory_filled
theorem sc_Memory_filled : FnScope ["self", "cells", "number", "row", "place"] ["self"] (defScope s_Memory_filled) :=
  ⟨rfl, rfl, rfl, by decide +kernel, rfl, by decide +kernel, by decide +kernel⟩
theorem fn_Memory_filled (F : W K mg) {fd : FuncData} (D : FunD K d_Memory_filled.name d_Memory_filled.qual d_Memory_filled.params d_Memory_filled.body d_Memory_filled.scope (d_Memory_filled.dvs K) (d_Memory_filled.kws K) (He.fAd K d_Memory_filled.at_) fd) :
    FnG P w K mg base (L2.CX P w) 1 (He.fAd K d_Memory_filled.at_) fd ["self"] (spM ⟨K, tN K⟩ 1 m_Memory_filled) :=
  def_MD D sc_Memory_filled b_Memory_filled fun cdv A outer s H E hs hr => by
    have sc := sc_Memory_filled
    exact js_cons (js_set (i := 1) sc.nd rfl (Or.inl rfl) (je_lst (ja_nil))) (js_cons (js_for own_M rfl (ji_seq (je_callB (call_sortA rfl) mc_sortedA (by rfl) (F.free 14) (by decide +kernel) (ja_cons (je_fld (je_var (pv 0)) (fk_Memory__rows F) n__rows) (ja_nil)))) (jg_name (pg_name (i := 2) sc.nd rfl (Or.inr rfl))) (js_cons (js_set (i := 3) sc.nd rfl (Or.inr rfl) (je_ix (hu_of hr) (je_fld (je_var (pv 0)) (fk_Memory__rows F) n__rows) (je_var (pv 2)))) (js_one (js_expr (je_bm PySem.F.plainAttrs_list PySem.F.slot_list_extend PySem.F.type_list_extend mt_extA mm_extA (je_var (pv 1)) (ja_cons (je_lcA (c := .one 4) [("place", 4)] rfl rfl sc.nd (ji_range1 (by rfl) (F.free 16) (je_glI (by rfl) (F.int 15))) (blkOk_by (own := [("place", 4)]) (N := sl_Memory_filled) (sc := defScope s_Memory_filled) (by decide +kernel)) (fun _ _ _ _ _ => pg_name (i := 4) sc.nd rfl (Or.inl rfl)) (fun _ _ _ _ _ => jts_one (jt_notN (je_ix (hu_of hr) (je_var (pv 3)) (je_var (pv 4))))) (fun _ _ _ _ _ => je_add (je_mulA (je_var (pv 2)) (je_glI (by rfl) (F.int 15))) (je_var (pv 4))) (by decide)) (ja_nil))))))) (js_one (js_ret (je_var (pv 1)))))
theorem ok_Memory_filled (F : W K mg) : FM P w K mg base (tN K) 1 (He.fAd K d_Memory_filled.at_) 1 [] m_Memory_filled := by
  obtain ⟨fd, D⟩ := F.c.def_ 4 (d := d_Memory_filled) rfl
  exact FM.of0 (ps := ["self"]) D (fn_Memory_filled F D) rfl (fun _ _ _ _ _ _ us hl => match us, hl with | [_], _ => rfl)
def b_Memory_puts : MS := gRet (gFld [2] 2224424578002588528290037855 (gVar 0))
def m_Memory_puts : MF := gBody 1 b_Memory_puts
theorem sc_Memory_puts : FnScope ["self"] ["self"] (defScope s_Memory_puts) :=
  ⟨rfl, rfl, rfl, by decide +kernel, rfl, by decide +kernel, by decide +kernel⟩
theorem fn_Memory_puts (F : W K mg) {fd : FuncData} (D : FunD K d_Memory_puts.name d_Memory_puts.qual d_Memory_puts.params d_Memory_puts.body d_Memory_puts.scope (d_Memory_puts.dvs K) (d_Memory_puts.kws K) (He.fAd K d_Memory_puts.at_) fd) :
    FnG P w K mg base (L2.CX P w) 1 (He.fAd K d_Memory_puts.at_) fd ["self"] (spM ⟨K, tN K⟩ 1 m_Memory_puts) :=
  def_MD D sc_Memory_puts b_Memory_puts fun cdv A outer s H E hs hr => by
    have sc := sc_Memory_puts
    exact js_one (js_ret (je_fld (je_var (pv 0)) (fk_Memory__puts F) n__puts))
theorem ok_Memory_puts (F : W K mg) : FM P w K mg base (tN K) 1 (He.fAd K d_Memory_puts.at_) 1 [] m_Memory_puts := by
  obtain ⟨fd, D⟩ := F.c.def_ 5 (d := d_Memory_puts) rfl
  exact FM.of0 (ps := ["self"]) D (fn_Memory_puts F D) rfl (fun _ _ _ _ _ _ us hl => match us, hl with | [_], _ => rfl)
def b_Heap__add : MS := gSeq (gAsg (gVar 1) (tgSub (gFld [1] 4664956297864696616211264909082719 (gVar 0)) (gFs [gC (.str [64]), gUn mFmt (gVar 1)] []))) (gAsg (gVar 2) (tgSub (gFld [1] 4664956162465133946598905528451167 (gVar 0)) (gVar 1)))
def m_Heap__add : MF := gBody 3 b_Heap__add
theorem sc_Heap__add : FnScope ["self", "cell", "size"] ["self", "cell", "size"] (defScope s_Heap__add) :=
  ⟨rfl, rfl, rfl, by decide +kernel, rfl, by decide +kernel, by decide +kernel⟩
theorem fn_Heap__add (F : W K mg) {fd : FuncData} (D : FunD K d_Heap__add.name d_Heap__add.qual d_Heap__add.params d_Heap__add.body d_Heap__add.scope (d_Heap__add.dvs K) (d_Heap__add.kws K) (He.fAd K d_Heap__add.at_) fd) :
    FnG P w K mg base (L2.CX P w) 1 (He.fAd K d_Heap__add.at_) fd ["self", "cell", "size"] (spM ⟨K, tN K⟩ 3 m_Heap__add) :=
  def_MD D sc_Heap__add b_Heap__add fun cdv A outer s H E hs hr => by
    have sc := sc_Heap__add
    exact js_cons (js_asg (je_var (pv 1)) (jg_sub (hu_of hr) (je_fld (je_var (pv 0)) (fk_Heap__cells F) n__cells) (je_fs (gs := [gC (.str [64]), gUn mFmt (gVar 1)]) (PJ.cons (je_str (l := [64])) (PJ.cons (je_fmt (je_var (pv 1))) (PJ.nil)))))) (js_one (js_asg (je_var (pv 2)) (jg_sub (hu_of hr) (je_fld (je_var (pv 0)) (fk_Heap__sizes F) n__sizes) (je_var (pv 1)))))
theorem ok_Heap__add (F : W K mg) : FM P w K mg base (tN K) 1 (He.fAd K d_Heap__add.at_) 3 [] m_Heap__add := by
  obtain ⟨fd, D⟩ := F.c.def_ 6 (d := d_Heap__add) rfl
  exact FM.of0 (ps := ["self", "cell", "size"]) D (fn_Heap__add F D) rfl (fun _ _ _ _ _ _ us hl => match us, hl with | [_, _, _], _ => rfl)
def b_Memory_get : MS := gSeq (gIfS (gB (gBin (mIn fun b => !b) (gBin mDiv (gVar 1) (gC (.int 8))) (gFld [2] 2224424605672678250579492959 (gVar 0)))) (gRet (gC .non)) (gNext)) (gRet (gBin mIx (gBin mIx (gFld [2] 2224424605672678250579492959 (gVar 0)) (gBin mDiv (gVar 1) (gC (.int 8)))) (gBin mMod (gVar 1) (gC (.int 8)))))
def m_Memory_get : MF := gBody 2 b_Memory_get
theorem sc_Memory_get : FnScope ["self", "cell"] ["self", "cell"] (defScope s_Memory_get) :=
  ⟨rfl, rfl, rfl, by decide +kernel, rfl, by decide +kernel, by decide +kernel⟩
theorem fn_Memory_get (F : W K mg) {fd : FuncData} (D : FunD K d_Memory_get.name d_Memory_get.qual d_Memory_get.params d_Memory_get.body d_Memory_get.scope (d_Memory_get.dvs K) (d_Memory_get.kws K) (He.fAd K d_Memory_get.at_) fd) :
    FnG P w K mg base (L2.CX P w) 1 (He.fAd K d_Memory_get.at_) fd ["self", "cell"] (spM ⟨K, tN K⟩ 2 m_Memory_get) :=
  def_MD D sc_Memory_get b_Memory_get fun cdv A outer s H E hs hr => by
    have sc := sc_Memory_get
    exact js_cons (js_if (jt_notIn (hu_of hr) (je_div (je_var (pv 1)) (je_glI (by rfl) (F.int 15))) (je_fld (je_var (pv 0)) (fk_Memory__rows F) n__rows)) (js_one (js_ret (je_non))) (js_nil)) (js_one (js_ret (je_ix (hu_of hr) (je_ix (hu_of hr) (je_fld (je_var (pv 0)) (fk_Memory__rows F) n__rows) (je_div (je_var (pv 1)) (je_glI (by rfl) (F.int 15)))) (je_mod (je_var (pv 1)) (je_glI (by rfl) (F.int 15))))))
theorem ok_Memory_get (F : W K mg) : FM P w K mg base (tN K) 1 (He.fAd K d_Memory_get.at_) 2 [] m_Memory_get := by
  obtain ⟨fd, D⟩ := F.c.def_ 7 (d := d_Memory_get) rfl
  exact FM.of0 (ps := ["self", "cell"]) D (fn_Memory_get F D) rfl (fun _ _ _ _ _ _ us hl => match us, hl with | [_, _], _ => rfl)
end
end K36
set_option Elab.async false
set_option linter.all false
set_option maxRecDepth 100000
set_option maxHeartbeats 8000000
namespace K36
open PySem PySem.Spec PyProof.Rows L2 JB MI
section
variable {P : Program} {w : World} {K : PySem.W.Frag} {mg : Str → Option Value} {base : Heap}
def b_Heap__look : MS := gSeq (gIfS (gB (gBin mEqX (gFld [1] 2224424578002588528290037855 (gVar 0)) (gMeth 2 1060688294411939872880 m_Memory_puts [] 1 (gFld [1] 10293546223749925205608922112418656551007 (gVar 0)) gNil))) (gRetN) (gNext)) (gSeq (gFldS [1] 4664956297864696616211264909082719 (gDic) (gVar 0)) (gSeq (gFldS [1] 4664956162465133946598905528451167 (gDic) (gVar 0)) (gSeq (gAsg (gC (.int 0)) (tgName 2)) (gSeq (gFor (gIter (gMeth 2 4056483874355454706685166141571174 m_Memory_filled [] 1 (gFld [1] 10293546223749925205608922112418656551007 (gVar 0)) gNil)) (tgName 1) (gIfS (gB (gBin mGeI (gVar 1) (gVar 2))) (gSeq (gExpr (gMeth 1 922337643490332115039 m_Heap__add [] 3 (gVar 0) (gCons (gVar 1) (gCons (gBin mAdd (gC (.int 2)) (gMeth 2 510173607100519 m_Memory_get [] 2 (gFld [1] 10293546223749925205608922112418656551007 (gVar 0)) (gCons (gBin mAdd (gVar 1) (gC (.int 1))) (gNil)))) (gNil))))) (gAsg (gBin mAdd (gVar 1) (gBin mIx (gFld [1] 4664956162465133946598905528451167 (gVar 0)) (gVar 1))) (tgName 2))) (gNext))) (gFldS [1] 2224424578002588528290037855 (gMeth 2 1060688294411939872880 m_Memory_puts [] 1 (gFld [1] 10293546223749925205608922112418656551007 (gVar 0)) gNil) (gVar 0))))))
def m_Heap__look : MF := gBody 3 b_Heap__look
theorem sc_Heap__look : FnScope ["self", "cell", "free"] ["self"] (defScope s_Heap__look) :=
  ⟨rfl, rfl, rfl, by decide +kernel, rfl, by decide +kernel, by decide +kernel⟩
theorem fn_Heap__look (F : W K mg) {fd : FuncData} (D : FunD K d_Heap__look.name d_Heap__look.qual d_Heap__look.params d_Heap__look.body d_Heap__look.scope (d_Heap__look.dvs K) (d_Heap__look.kws K) (He.fAd K d_Heap__look.at_) fd) :
    FnG P w K mg base (L2.CX P w) 2 (He.fAd K d_Heap__look.at_) fd ["self"] (spM ⟨K, tN K⟩ 1 m_Heap__look) :=
  def_MD D sc_Heap__look b_Heap__look fun cdv A outer s H E hs hr => by
    have sc := sc_Heap__look
    exact js_cons (js_if (jt_eqF hr.units (je_fld (je_var (pv 0)) (fk_Heap__puts F) n__puts) (je_meth0 (c := 2) (ok_Memory_puts F) (F.cls 12) (F.meth 19) n_puts hs (hr.mono (by decide)) pass_M (je_fld (je_var (pv 0)) (fk_Heap__memory F) n__memory))) (js_one (js_retN)) (js_nil)) (js_cons (js_fld (je_var (pv 0)) (je_dic) (fk_Heap__cells F) n__cells) (js_cons (js_fld (je_var (pv 0)) (je_dic) (fk_Heap__sizes F) n__sizes) (js_cons (js_set (i := 2) sc.nd rfl (Or.inl rfl) (je_int)) (js_cons (js_for own_M rfl (ji_seq (je_meth0 (c := 2) (ok_Memory_filled F) (F.cls 12) (F.meth 20) n_filled hs (hr.mono (by decide)) pass_M (je_fld (je_var (pv 0)) (fk_Heap__memory F) n__memory))) (jg_name (pg_name (i := 1) sc.nd rfl (Or.inl rfl))) (js_one (js_if (jt_ge (je_var (pv 1)) (je_var (pv 2))) (js_cons (js_expr (je_meth (c := 1) (ok_Heap__add F) (F.cls 5) (F.meth 21) n__add hs (hr.mono (by decide)) pass_M (je_var (pv 0)) (ja_cons (je_var (pv 1)) (ja_cons (je_add (je_int) (je_meth (c := 2) (ok_Memory_get F) (F.cls 12) (F.meth 22) n_get hs (hr.mono (by decide)) pass_M (je_fld (je_var (pv 0)) (fk_Heap__memory F) n__memory) (ja_cons (je_add (je_var (pv 1)) (je_int)) (ja_nil)))) (ja_nil))))) (js_one (js_set (i := 2) sc.nd rfl (Or.inl rfl) (je_add (je_var (pv 1)) (je_ix (hu_of hr) (je_fld (je_var (pv 0)) (fk_Heap__sizes F) n__sizes) (je_var (pv 1))))))) (js_nil)))) (js_one (js_fld (je_var (pv 0)) (je_meth0 (c := 2) (ok_Memory_puts F) (F.cls 12) (F.meth 19) n_puts hs (hr.mono (by decide)) pass_M (je_fld (je_var (pv 0)) (fk_Heap__memory F) n__memory)) (fk_Heap__puts F) n__puts))))))
theorem ok_Heap__look (F : W K mg) : FM P w K mg base (tN K) 2 (He.fAd K d_Heap__look.at_) 1 [] m_Heap__look := by
  obtain ⟨fd, D⟩ := F.c.def_ 8 (d := d_Heap__look) rfl
  exact FM.of0 (ps := ["self"]) D (fn_Heap__look F D) rfl (fun _ _ _ _ _ _ us hl => match us, hl with | [_], _ => rfl)
def b_Heap__lowest : MS := gSeq (gAsg (gC (.int 0)) (tgName 3)) (gSeq (gFor (gIter (gCB (f1 mSortedA) (gCons (gFld [1] 4664956162465133946598905528451167 (gVar 0)) (gNil)))) (tgName 2) (gSeq (gIfS (gB (gBin mGeI (gBin mSub (gVar 2) (gVar 3)) (gVar 1))) (gRet (gVar 3)) (gNext)) (gAsg (gBin mAdd (gVar 2) (gBin mIx (gFld [1] 4664956162465133946598905528451167 (gVar 0)) (gVar 2))) (tgName 3)))) (gRet (gVar 3)))
def m_Heap__lowest : MF := gBody 4 b_Heap__lowest
theorem sc_Heap__lowest : FnScope ["self", "size", "cell", "low"] ["self", "size"] (defScope s_Heap__lowest) :=
  ⟨rfl, rfl, rfl, by decide +kernel, rfl, by decide +kernel, by decide +kernel⟩
theorem fn_Heap__lowest (F : W K mg) {fd : FuncData} (D : FunD K d_Heap__lowest.name d_Heap__lowest.qual d_Heap__lowest.params d_Heap__lowest.body d_Heap__lowest.scope (d_Heap__lowest.dvs K) (d_Heap__lowest.kws K) (He.fAd K d_Heap__lowest.at_) fd) :
    FnG P w K mg base (L2.CX P w) 1 (He.fAd K d_Heap__lowest.at_) fd ["self", "size"] (spM ⟨K, tN K⟩ 2 m_Heap__lowest) :=
  def_MD D sc_Heap__lowest b_Heap__lowest fun cdv A outer s H E hs hr => by
    have sc := sc_Heap__lowest
    exact js_cons (js_set (i := 3) sc.nd rfl (Or.inl rfl) (je_int)) (js_cons (js_for own_M rfl (ji_seq (je_callB (call_sortA rfl) mc_sortedA (by rfl) (F.free 14) (by decide +kernel) (ja_cons (je_fld (je_var (pv 0)) (fk_Heap__sizes F) n__sizes) (ja_nil)))) (jg_name (pg_name (i := 2) sc.nd rfl (Or.inl rfl))) (js_cons (js_if (jt_ge (je_sub (je_var (pv 2)) (je_var (pv 3))) (je_var (pv 1))) (js_one (js_ret (je_var (pv 3)))) (js_nil)) (js_one (js_set (i := 3) sc.nd rfl (Or.inl rfl) (je_add (je_var (pv 2)) (je_ix (hu_of hr) (je_fld (je_var (pv 0)) (fk_Heap__sizes F) n__sizes) (je_var (pv 2)))))))) (js_one (js_ret (je_var (pv 3)))))
theorem ok_Heap__lowest (F : W K mg) : FM P w K mg base (tN K) 1 (He.fAd K d_Heap__lowest.at_) 2 [] m_Heap__lowest := by
  obtain ⟨fd, D⟩ := F.c.def_ 9 (d := d_Heap__lowest) rfl
  exact FM.of0 (ps := ["self", "size"]) D (fn_Heap__lowest F D) rfl (fun _ _ _ _ _ _ us hl => match us, hl with | [_, _], _ => rfl)
def b_without_end : MS := gSeq (gAsg (gCB (f1 mLenV) (gCons (gVar 0) (gNil))) (tgName 1)) (gSeq (gWhile (gAnd (gB (gBin mGtI (gVar 1) (gC (.int 0)))) (gB (gIsN (gBin mIx (gVar 0) (gBin mSub (gVar 1) (gC (.int 1))))))) (gAug 1 (fun i j => i - j) (gC (.int 1))) 100000) (gRet (gCB (f1 mTuple) (gCons (gSl (gVar 0) (gPn) (gPs (gVar 1))) (gNil)))))
def m_without_end : MF := gBody 2 b_without_end
theorem sc_without_end : FnScope ["atoms", "many"] ["atoms"] (defScope s_without_end) :=
  ⟨rfl, rfl, rfl, by decide +kernel, rfl, by decide +kernel, by decide +kernel⟩
theorem fn_without_end (F : W K mg) {fd : FuncData} (D : FunD K d_without_end.name d_without_end.qual d_without_end.params d_without_end.body d_without_end.scope (d_without_end.dvs K) (d_without_end.kws K) (He.fAd K d_without_end.at_) fd) :
    FnG P w K mg base (L2.CX P w) 1 (He.fAd K d_without_end.at_) fd ["atoms"] (spM ⟨K, tN K⟩ 1 m_without_end) :=
  def_MD D sc_without_end b_without_end fun cdv A outer s H E hs hr => by
    have sc := sc_without_end
    exact js_cons (js_set (i := 1) sc.nd rfl (Or.inl rfl) (je_callB call_lenM mc_len (by rfl) (F.free 23) PySem.boot_len (ja_cons (je_var (pv 0)) (ja_nil)))) (js_cons (js_while 100000 own_M (PW.pt (jw_and (jt_gt (je_var (pv 1)) (je_int)) (jw_and1 (jt_isN (je_ix (hu_of hr) (je_var (pv 0)) (je_sub (je_var (pv 1)) (je_int))))))) (js_one (js_aug ip_sub sc.nd rfl (Or.inl rfl) (je_int)))) (js_one (js_ret (je_callT call_tuple_of mc_tuple (by rfl) (F.free 24) PyProof.Rows.boot_tuple (ja_cons (je_slice (je_var (pv 0)) (jp_none) (jp_some (je_var (pv 1)))) (ja_nil))))))
theorem ok_without_end (F : W K mg) : FM P w K mg base (tN K) 1 (He.fAd K d_without_end.at_) 1 [] m_without_end := by
  obtain ⟨fd, D⟩ := F.c.def_ 10 (d := d_without_end) rfl
  exact FM.of0 (ps := ["atoms"]) D (fn_without_end F D) rfl (fun _ _ _ _ _ _ us hl => match us, hl with | [_], _ => rfl)
def b_Memory_page : MS := gRet (gCall m_without_end [] 1 (gCons (gDget2 (gFld [2] 2224424605672678250579492959 (gVar 0)) (gVar 1) (gLst (gNil))) (gNil)))
def m_Memory_page : MF := gBody 2 b_Memory_page
theorem sc_Memory_page : FnScope ["self", "number"] ["self", "number"] (defScope s_Memory_page) :=
  ⟨rfl, rfl, rfl, by decide +kernel, rfl, by decide +kernel, by decide +kernel⟩
theorem fn_Memory_page (F : W K mg) {fd : FuncData} (D : FunD K d_Memory_page.name d_Memory_page.qual d_Memory_page.params d_Memory_page.body d_Memory_page.scope (d_Memory_page.dvs K) (d_Memory_page.kws K) (He.fAd K d_Memory_page.at_) fd) :
    FnG P w K mg base (L2.CX P w) 2 (He.fAd K d_Memory_page.at_) fd ["self", "number"] (spM ⟨K, tN K⟩ 2 m_Memory_page) :=
  def_MD D sc_Memory_page b_Memory_page fun cdv A outer s H E hs hr => by
    have sc := sc_Memory_page
    exact js_one (js_ret (je_call (ok_without_end F) hs (hr.mono (by decide)) pass_M (by rfl) (F.glo 25) (ja_cons (je_dget2 (hu_of hr) (je_fld (je_var (pv 0)) (fk_Memory__rows F) n__rows) (je_var (pv 1)) (je_lst (ja_nil)) ⟨rfl, rfl, rfl, rfl⟩) (ja_nil))))
theorem ok_Memory_page (F : W K mg) : FM P w K mg base (tN K) 2 (He.fAd K d_Memory_page.at_) 2 [] m_Memory_page := by
  obtain ⟨fd, D⟩ := F.c.def_ 11 (d := d_Memory_page) rfl
  exact FM.of0 (ps := ["self", "number"]) D (fn_Memory_page F D) rfl (fun _ _ _ _ _ _ us hl => match us, hl with | [_, _], _ => rfl)
def b_Memory__keep : MS := gSeq (gIfS (gB (gBin (mIn fun b => !b) (gVar 1) (gFld [2] 1953625185185451595341496415 (gVar 0)))) (gAsg (gMeth 2 931561028721326424176 m_Memory_page [] 2 (gVar 0) (gCons (gVar 1) (gNil))) (tgSub (gFld [2] 1953625185185451595341496415 (gVar 0)) (gVar 1))) (gNext)) (gIfS (gAnd (gB (gNotN (gFld [2] 2243767354222864078911570015 (gVar 0)))) (gB (gBin (mIn fun b => !b) (gVar 1) (gFld [2] 2243767354222864078911570015 (gVar 0))))) (gAsg (gMeth 2 931561028721326424176 m_Memory_page [] 2 (gVar 0) (gCons (gVar 1) (gNil))) (tgSub (gFld [2] 2243767354222864078911570015 (gVar 0)) (gVar 1))) (gNext))
def m_Memory__keep : MF := gBody 2 b_Memory__keep
theorem sc_Memory__keep : FnScope ["self", "number"] ["self", "number"] (defScope s_Memory__keep) :=
  ⟨rfl, rfl, rfl, by decide +kernel, rfl, by decide +kernel, by decide +kernel⟩
theorem fn_Memory__keep (F : W K mg) {fd : FuncData} (D : FunD K d_Memory__keep.name d_Memory__keep.qual d_Memory__keep.params d_Memory__keep.body d_Memory__keep.scope (d_Memory__keep.dvs K) (d_Memory__keep.kws K) (He.fAd K d_Memory__keep.at_) fd) :
    FnG P w K mg base (L2.CX P w) 3 (He.fAd K d_Memory__keep.at_) fd ["self", "number"] (spM ⟨K, tN K⟩ 2 m_Memory__keep) :=
  def_MD D sc_Memory__keep b_Memory__keep fun cdv A outer s H E hs hr => by
    have sc := sc_Memory__keep
    exact js_cons (js_if (jt_notIn (hu_of hr) (je_var (pv 1)) (je_fld (je_var (pv 0)) (fk_Memory__base F) n__base)) (js_one (js_asg (je_meth (c := 2) (ok_Memory_page F) (F.cls 12) (F.meth 27) n_page hs (hr.mono (by decide)) pass_M (je_var (pv 0)) (ja_cons (je_var (pv 1)) (ja_nil))) (jg_sub (hu_of hr) (je_fld (je_var (pv 0)) (fk_Memory__base F) n__base) (je_var (pv 1))))) (js_nil)) (js_one (js_if (PW.pt (jw_and (jt_notN (je_fld (je_var (pv 0)) (fk_Memory__kept F) n__kept)) (jw_and1 (jt_notIn (hu_of hr) (je_var (pv 1)) (je_fld (je_var (pv 0)) (fk_Memory__kept F) n__kept))))) (js_one (js_asg (je_meth (c := 2) (ok_Memory_page F) (F.cls 12) (F.meth 27) n_page hs (hr.mono (by decide)) pass_M (je_var (pv 0)) (ja_cons (je_var (pv 1)) (ja_nil))) (jg_sub (hu_of hr) (je_fld (je_var (pv 0)) (fk_Memory__kept F) n__kept) (je_var (pv 1))))) (js_nil)))
theorem ok_Memory__keep (F : W K mg) : FM P w K mg base (tN K) 3 (He.fAd K d_Memory__keep.at_) 2 [] m_Memory__keep := by
  obtain ⟨fd, D⟩ := F.c.def_ 12 (d := d_Memory__keep) rfl
  exact FM.of0 (ps := ["self", "number"]) D (fn_Memory__keep F D) rfl (fun _ _ _ _ _ _ us hl => match us, hl with | [_, _], _ => rfl)
def b_Memory_put : MS := gSeq (gIfS (gB (gBin mEqX (gMeth 2 510173607100519 m_Memory_get [] 2 (gVar 0) (gCons (gVar 1) (gNil))) (gVar 2))) (gRetN) (gNext)) (gSeq (gAsg (gBin mDiv (gVar 1) (gC (.int 8))) (tgName 3)) (gSeq (gExpr (gMeth 2 2166396000310435406327840863 m_Memory__keep [] 2 (gVar 0) (gCons (gVar 3) (gNil)))) (gSeq (gAsg (gSetd (gFld [2] 2224424605672678250579492959 (gVar 0)) (gVar 3) (gBin mMulA (gLst (gCons (gC .non) (gNil))) (gC (.int 8)))) (tgName 4)) (gSeq (gAsg (gVar 2) (tgSub (gVar 4) (gBin mMod (gVar 1) (gC (.int 8))))) (gSeq (gIfS (gNot (gTru (gCall m_without_end [] 1 (gCons (gVar 4) (gNil))))) (gDel (gFld [2] 2224424605672678250579492959 (gVar 0)) (gVar 3)) (gNext)) (gFldAug [2] 2224424578002588528290037855 (fun i j => i + j) (gVar 0) (gC (.int 1))))))))
def m_Memory_put : MF := gBody 5 b_Memory_put
theorem sc_Memory_put : FnScope ["self", "cell", "atom", "number", "row"] ["self", "cell", "atom"] (defScope s_Memory_put) :=
  ⟨rfl, rfl, rfl, by decide +kernel, rfl, by decide +kernel, by decide +kernel⟩
theorem fn_Memory_put (F : W K mg) {fd : FuncData} (D : FunD K d_Memory_put.name d_Memory_put.qual d_Memory_put.params d_Memory_put.body d_Memory_put.scope (d_Memory_put.dvs K) (d_Memory_put.kws K) (He.fAd K d_Memory_put.at_) fd) :
    FnG P w K mg base (L2.CX P w) 4 (He.fAd K d_Memory_put.at_) fd ["self", "cell", "atom"] (spM ⟨K, tN K⟩ 3 m_Memory_put) :=
  def_MD D sc_Memory_put b_Memory_put fun cdv A outer s H E hs hr => by
    have sc := sc_Memory_put
    exact js_cons (js_if (jt_eqF hr.units (je_meth (c := 2) (ok_Memory_get F) (F.cls 12) (F.meth 22) n_get hs (hr.mono (by decide)) pass_M (je_var (pv 0)) (ja_cons (je_var (pv 1)) (ja_nil))) (je_var (pv 2))) (js_one (js_retN)) (js_nil)) (js_cons (js_set (i := 3) sc.nd rfl (Or.inl rfl) (je_div (je_var (pv 1)) (je_glI (by rfl) (F.int 15)))) (js_cons (js_expr (je_meth (c := 2) (ok_Memory__keep F) (F.cls 12) (F.meth 29) n__keep hs (hr.mono (by decide)) pass_M (je_var (pv 0)) (ja_cons (je_var (pv 3)) (ja_nil)))) (js_cons (js_set (i := 4) sc.nd rfl (Or.inl rfl) (je_setd (je_fld (je_var (pv 0)) (fk_Memory__rows F) n__rows) (je_var (pv 3)) (je_mulA (je_lst (ja_cons (je_non) (ja_nil))) (je_glI (by rfl) (F.int 15))) ⟨rfl, rfl, rfl, rfl⟩)) (js_cons (js_asg (je_var (pv 2)) (jg_sub (hu_of hr) (je_var (pv 4)) (je_mod (je_var (pv 1)) (je_glI (by rfl) (F.int 15))))) (js_cons (js_if (jt_not (jt_tru (je_call (ok_without_end F) hs (hr.mono (by decide)) pass_M (by rfl) (F.glo 25) (ja_cons (je_var (pv 4)) (ja_nil))))) (js_one (js_del (je_fld (je_var (pv 0)) (fk_Memory__rows F) n__rows) (je_var (pv 3)))) (js_nil)) (js_one (js_fldaug (je_var (pv 0)) (je_int) (fk_Memory__puts F) n__puts aug_add)))))))
theorem ok_Memory_put (F : W K mg) : FM P w K mg base (tN K) 4 (He.fAd K d_Memory_put.at_) 3 [] m_Memory_put := by
  obtain ⟨fd, D⟩ := F.c.def_ 13 (d := d_Memory_put) rfl
  exact FM.of0 (ps := ["self", "cell", "atom"]) D (fn_Memory_put F D) rfl (fun _ _ _ _ _ _ us hl => match us, hl with | [_, _, _], _ => rfl)
def b_Heap__write : MS := gSeq (gFor (gEnumA (gVar 2)) (tgTup [4, 3]) (gExpr (gMeth 2 510173640654960 m_Memory_put [] 3 (gFld [1] 10293546223749925205608922112418656551007 (gVar 0)) (gCons (gBin mAdd (gVar 1) (gVar 4)) (gCons (gVar 3) (gNil)))))) (gFldS [1] 2224424578002588528290037855 (gMeth 2 1060688294411939872880 m_Memory_puts [] 1 (gFld [1] 10293546223749925205608922112418656551007 (gVar 0)) gNil) (gVar 0))
def m_Heap__write : MF := gBody 5 b_Heap__write
theorem sc_Heap__write : FnScope ["self", "cell", "atoms", "atom", "place"] ["self", "cell", "atoms"] (defScope s_Heap__write) :=
  ⟨rfl, rfl, rfl, by decide +kernel, rfl, by decide +kernel, by decide +kernel⟩
theorem fn_Heap__write (F : W K mg) {fd : FuncData} (D : FunD K d_Heap__write.name d_Heap__write.qual d_Heap__write.params d_Heap__write.body d_Heap__write.scope (d_Heap__write.dvs K) (d_Heap__write.kws K) (He.fAd K d_Heap__write.at_) fd) :
    FnG P w K mg base (L2.CX P w) 5 (He.fAd K d_Heap__write.at_) fd ["self", "cell", "atoms"] (spM ⟨K, tN K⟩ 3 m_Heap__write) :=
  def_MD D sc_Heap__write b_Heap__write fun cdv A outer s H E hs hr => by
    have sc := sc_Heap__write
    exact js_cons (js_for own_M rfl (ji_enumT (by rfl) (F.free 2) (je_var (pv 2))) (jg_tup (is := [4, 3]) rfl (pgs_more (pg_name (i := 4) sc.nd rfl (Or.inl rfl)) (pgs_more (pg_name (i := 3) sc.nd rfl (Or.inl rfl)) (pgs_names)))) (js_one (js_expr (je_meth (c := 2) (ok_Memory_put F) (F.cls 12) (F.meth 30) n_put hs (hr.mono (by decide)) pass_M (je_fld (je_var (pv 0)) (fk_Heap__memory F) n__memory) (ja_cons (je_add (je_var (pv 1)) (je_var (pv 4))) (ja_cons (je_var (pv 3)) (ja_nil))))))) (js_one (js_fld (je_var (pv 0)) (je_meth0 (c := 2) (ok_Memory_puts F) (F.cls 12) (F.meth 19) n_puts hs (hr.mono (by decide)) pass_M (je_fld (je_var (pv 0)) (fk_Heap__memory F) n__memory)) (fk_Heap__puts F) n__puts))
theorem ok_Heap__write (F : W K mg) : FM P w K mg base (tN K) 5 (He.fAd K d_Heap__write.at_) 3 [] m_Heap__write := by
  obtain ⟨fd, D⟩ := F.c.def_ 14 (d := d_Heap__write) rfl
  exact FM.of0 (ps := ["self", "cell", "atoms"]) D (fn_Heap__write F D) rfl (fun _ _ _ _ _ _ us hl => match us, hl with | [_, _, _], _ => rfl)
def b_Heap_make : MS := gSeq (gExpr (gMeth 1 2069682026975029421366313055 m_Heap__look [] 1 (gVar 0) gNil)) (gSeq (gAsg (gBin mAdd (gC (.int 2)) (gCB (f1 mLenV) (gCons (gVar 2) (gNil)))) (tgName 4)) (gSeq (gAsg (gMeth 1 9868193305663377905544140124704506642527 m_Heap__lowest [] 2 (gVar 0) (gCons (gVar 4) (gNil))) (tgName 3)) (gSeq (gExpr (gMeth 1 922337643490332115039 m_Heap__add [] 3 (gVar 0) (gCons (gVar 3) (gCons (gVar 4) (gNil))))) (gSeq (gExpr (gMeth 1 4097048983704927084954340317724767 m_Heap__write [] 3 (gVar 0) (gCons (gVar 3) (gCons (gLst (gCons (gVar 1) (gCons (gCB (f1 mLenV) (gCons (gVar 2) (gNil))) (gStar (gVar 2) (gNil))))) (gNil))))) (gRet (gFs [gC (.str [64]), gUn mFmt (gVar 3)] []))))))
def m_Heap_make : MF := gBody 5 b_Heap_make
theorem sc_Heap_make : FnScope ["self", "kind", "atoms", "cell", "size"] ["self", "kind", "atoms"] (defScope s_Heap_make) :=
  ⟨rfl, rfl, rfl, by decide +kernel, rfl, by decide +kernel, by decide +kernel⟩
theorem fn_Heap_make (F : W K mg) {fd : FuncData} (D : FunD K d_Heap_make.name d_Heap_make.qual d_Heap_make.params d_Heap_make.body d_Heap_make.scope (d_Heap_make.dvs K) (d_Heap_make.kws K) (He.fAd K d_Heap_make.at_) fd) :
    FnG P w K mg base (L2.CX P w) 6 (He.fAd K d_Heap_make.at_) fd ["self", "kind", "atoms"] (spM ⟨K, tN K⟩ 3 m_Heap_make) :=
  def_MD D sc_Heap_make b_Heap_make fun cdv A outer s H E hs hr => by
    have sc := sc_Heap_make
    exact js_cons (js_expr (je_meth0 (c := 1) (ok_Heap__look F) (F.cls 5) (F.meth 31) n__look hs (hr.mono (by decide)) pass_M (je_var (pv 0)))) (js_cons (js_set (i := 4) sc.nd rfl (Or.inl rfl) (je_add (je_int) (je_callB call_lenM mc_len (by rfl) (F.free 23) PySem.boot_len (ja_cons (je_var (pv 2)) (ja_nil))))) (js_cons (js_set (i := 3) sc.nd rfl (Or.inl rfl) (je_meth (c := 1) (ok_Heap__lowest F) (F.cls 5) (F.meth 32) n__lowest hs (hr.mono (by decide)) pass_M (je_var (pv 0)) (ja_cons (je_var (pv 4)) (ja_nil)))) (js_cons (js_expr (je_meth (c := 1) (ok_Heap__add F) (F.cls 5) (F.meth 21) n__add hs (hr.mono (by decide)) pass_M (je_var (pv 0)) (ja_cons (je_var (pv 3)) (ja_cons (je_var (pv 4)) (ja_nil))))) (js_cons (js_expr (je_meth (c := 1) (ok_Heap__write F) (F.cls 5) (F.meth 33) n__write hs (hr.mono (by decide)) pass_M (je_var (pv 0)) (ja_cons (je_var (pv 3)) (ja_cons (je_lst (ja_cons (je_var (pv 1)) (ja_cons (je_callB call_lenM mc_len (by rfl) (F.free 23) PySem.boot_len (ja_cons (je_var (pv 2)) (ja_nil))) (ja_star (je_var (pv 2)) (ja_nil))))) (ja_nil))))) (js_one (js_ret (je_fs (gs := [gC (.str [64]), gUn mFmt (gVar 3)]) (PJ.cons (je_str (l := [64])) (PJ.cons (je_fmt (je_var (pv 3))) (PJ.nil))))))))))
theorem ok_Heap_make (F : W K mg) : FM P w K mg base (tN K) 6 (He.fAd K d_Heap_make.at_) 3 [] m_Heap_make := by
  obtain ⟨fd, D⟩ := F.c.def_ 15 (d := d_Heap_make) rfl
  exact FM.of0 (ps := ["self", "kind", "atoms"]) D (fn_Heap_make F D) rfl (fun _ _ _ _ _ _ us hl => match us, hl with | [_, _, _], _ => rfl)
end
end K36
set_option Elab.async false
set_option linter.all false
set_option maxRecDepth 100000
set_option maxHeartbeats 8000000
namespace K36
open PySem PySem.Spec PyProof.Rows L2 JB MI
section
variable {P : Program} {w : World} {K : PySem.W.Frag} {mg : Str → Option Value} {base : Heap}
def b_Memory___init : MS := gSeq (gFldS [2] 2224424605672678250579492959 (gDic) (gVar 0)) (gSeq (gFor (gEnumA (gVar 1)) (tgTup [2, 3]) (gIfS (gTru (gCall m_without_end [] 1 (gCons (gVar 3) (gNil)))) (gAsg (gBin mAdd (gCB (f1 mList) (gCons (gVar 3) (gNil))) (gBin mMulA (gLst (gCons (gC .non) (gNil))) (gBin mSub (gC (.int 8)) (gCB (f1 mLenV) (gCons (gVar 3) (gNil)))))) (tgSub (gFld [2] 2224424605672678250579492959 (gVar 0)) (gVar 2))) (gNext))) (gSeq (gFldS [2] 1953625185185451595341496415 (gDic) (gVar 0)) (gSeq (gFldS [2] 2243767354222864078911570015 (gC .non) (gVar 0)) (gSeq (gFldS [2] 94941204903626959178789249757594317142006096203679912689759 (gC (.int 0)) (gVar 0)) (gFldS [2] 2224424578002588528290037855 (gC (.int 0)) (gVar 0))))))
def m_Memory___init : MF := gBody 4 b_Memory___init
theorem sc_Memory___init : FnScope ["self", "pages", "number", "page"] ["self", "pages"] (defScope s_Memory___init) :=
  ⟨rfl, rfl, rfl, by decide +kernel, rfl, by decide +kernel, by decide +kernel⟩
theorem fn_Memory___init (F : W K mg) {fd : FuncData} (D : FunD K d_Memory___init.name d_Memory___init.qual d_Memory___init.params d_Memory___init.body d_Memory___init.scope (d_Memory___init.dvs K) (d_Memory___init.kws K) (He.fAd K d_Memory___init.at_) fd) :
    FnG P w K mg base (L2.CX P w) 2 (He.fAd K d_Memory___init.at_) fd ["self", "pages"] (spM ⟨K, tN K⟩ 2 m_Memory___init) :=
  def_MD D sc_Memory___init b_Memory___init fun cdv A outer s H E hs hr => by
    have sc := sc_Memory___init
    exact js_cons (js_fld (je_var (pv 0)) (je_dic) (fk_Memory__rows F) n__rows) (js_cons (js_for own_M rfl (ji_enumT (by rfl) (F.free 2) (je_var (pv 1))) (jg_tup (is := [2, 3]) rfl (pgs_more (pg_name (i := 2) sc.nd rfl (Or.inl rfl)) (pgs_more (pg_name (i := 3) sc.nd rfl (Or.inl rfl)) (pgs_names)))) (js_one (js_if (jt_tru (je_call (ok_without_end F) hs (hr.mono (by decide)) pass_M (by rfl) (F.glo 25) (ja_cons (je_var (pv 3)) (ja_nil)))) (js_one (js_asg (je_add (je_callT call_list_of mc_list (by rfl) (F.free 1) PyProof.Rows.boot_list (ja_cons (je_var (pv 3)) (ja_nil))) (je_mulA (je_lst (ja_cons (je_non) (ja_nil))) (je_sub (je_glI (by rfl) (F.int 15)) (je_callB call_lenM mc_len (by rfl) (F.free 23) PySem.boot_len (ja_cons (je_var (pv 3)) (ja_nil)))))) (jg_sub (hu_of hr) (je_fld (je_var (pv 0)) (fk_Memory__rows F) n__rows) (je_var (pv 2))))) (js_nil)))) (js_cons (js_fld (je_var (pv 0)) (je_dic) (fk_Memory__base F) n__base) (js_cons (js_fld (je_var (pv 0)) (je_non) (fk_Memory__kept F) n__kept) (js_cons (js_fld (je_var (pv 0)) (je_int) (fk_Memory__kept_many F) n__kept_many) (js_one (js_fld (je_var (pv 0)) (je_int) (fk_Memory__puts F) n__puts))))))
theorem ok_Memory___init_d1 (F : W K mg) : FM P w K mg base (tN K) 2 (He.fAd K d_Memory___init.at_) 2 [.ktp []] m_Memory___init := by
  obtain ⟨fd, D⟩ := F.c.def_ 16 (d := d_Memory___init) rfl
  exact FM.ofD (ps := ["self", "pages"]) (m := 1) (j := 0) D (fn_Memory___init F D) rfl (by simp [He.DefD.dvs]) rfl (fun _ _ _ _ _ _ _ us its hl hi => match us, its, hl, hi with | [_], [_], _, _ => ⟨_, rfl, rfl⟩)
    fun ρ H => .cons (.ktp (etupB_ok (F.extra 0 (f := .etup ("Memory", some "__init__") 0)) _) .nil) (.nil)
def b_law_of : MS := gRet (gBin mIx (gVar 1) (gCall m_law_take [] 2 (gCons (gVar 0) (gCons (gCB (f1 mLenV) (gCons (gVar 1) (gNil))) (gNil)))))
def m_law_of : MF := gBody 2 b_law_of
theorem sc_law_of : FnScope ["_law_box_here", "_law_some"] ["_law_box_here", "_law_some"] (defScope s_law_of) :=
  ⟨rfl, rfl, rfl, by decide +kernel, rfl, by decide +kernel, by decide +kernel⟩
theorem fn_law_of (F : W K mg) {fd : FuncData} (D : FunD K d_law_of.name d_law_of.qual d_law_of.params d_law_of.body d_law_of.scope (d_law_of.dvs K) (d_law_of.kws K) (He.fAd K d_law_of.at_) fd) :
    FnG P w K mg base (L2.CX P w) 2 (He.fAd K d_law_of.at_) fd ["_law_box_here", "_law_some"] (spM ⟨K, tN K⟩ 2 m_law_of) :=
  def_MD D sc_law_of b_law_of fun cdv A outer s H E hs hr => by
    have sc := sc_law_of
    exact js_one (js_ret (je_ix (hu_of hr) (je_var (pv 1)) (je_call (ok_law_take F) hs (hr.mono (by decide)) pass_M (by rfl) (F.glo 35) (ja_cons (je_var (pv 0)) (ja_cons (je_callB call_lenM mc_len (by rfl) (F.free 23) PySem.boot_len (ja_cons (je_var (pv 1)) (ja_nil))) (ja_nil))))))
theorem ok_law_of (F : W K mg) : FM P w K mg base (tN K) 2 (He.fAd K d_law_of.at_) 2 [] m_law_of := by
  obtain ⟨fd, D⟩ := F.c.def_ 17 (d := d_law_of) rfl
  exact FM.of0 (ps := ["_law_box_here", "_law_some"]) D (fn_law_of F D) rfl (fun _ _ _ _ _ _ us hl => match us, hl with | [_, _], _ => rfl)
def b_Heap__cell : MS := gSeq (gExpr (gMeth 1 2069682026975029421366313055 m_Heap__look [] 1 (gVar 0) gNil)) (gSeq (gIfS (gB (gBin (mIn fun b => !b) (gVar 1) (gFld [1] 4664956297864696616211264909082719 (gVar 0)))) (gRaise1 3 448600955945074 (gVar 1)) (gNext)) (gRet (gBin mIx (gFld [1] 4664956297864696616211264909082719 (gVar 0)) (gVar 1))))
def m_Heap__cell : MF := gBody 2 b_Heap__cell
theorem sc_Heap__cell : FnScope ["self", "ref"] ["self", "ref"] (defScope s_Heap__cell) :=
  ⟨rfl, rfl, rfl, by decide +kernel, rfl, by decide +kernel, by decide +kernel⟩
theorem fn_Heap__cell (F : W K mg) {fd : FuncData} (D : FunD K d_Heap__cell.name d_Heap__cell.qual d_Heap__cell.params d_Heap__cell.body d_Heap__cell.scope (d_Heap__cell.dvs K) (d_Heap__cell.kws K) (He.fAd K d_Heap__cell.at_) fd) :
    FnG P w K mg base (L2.CX P w) 3 (He.fAd K d_Heap__cell.at_) fd ["self", "ref"] (spM ⟨K, tN K⟩ 2 m_Heap__cell) :=
  def_MD D sc_Heap__cell b_Heap__cell fun cdv A outer s H E hs hr => by
    have sc := sc_Heap__cell
    exact js_cons (js_expr (je_meth0 (c := 1) (ok_Heap__look F) (F.cls 5) (F.meth 31) n__look hs (hr.mono (by decide)) pass_M (je_var (pv 0)))) (js_cons (js_if (jt_notIn (hu_of hr) (je_var (pv 1)) (je_fld (je_var (pv 0)) (fk_Heap__cells F) n__cells)) (js_one (js_raise1 (c := 3) n_ref (takes_of rfl rfl rfl rfl) rfl rfl hs (hr.mono (by decide)) (er_NoObject F) (by rfl) (je_var (pv 1)))) (js_nil)) (js_one (js_ret (je_ix (hu_of hr) (je_fld (je_var (pv 0)) (fk_Heap__cells F) n__cells) (je_var (pv 1))))))
theorem ok_Heap__cell (F : W K mg) : FM P w K mg base (tN K) 3 (He.fAd K d_Heap__cell.at_) 2 [] m_Heap__cell := by
  obtain ⟨fd, D⟩ := F.c.def_ 18 (d := d_Heap__cell) rfl
  exact FM.of0 (ps := ["self", "ref"]) D (fn_Heap__cell F D) rfl (fun _ _ _ _ _ _ us hl => match us, hl with | [_, _], _ => rfl)
def b_Heap__place_cell : MS := gSeq (gAsg (gMeth 1 2089024812418703397113299039 m_Heap__cell [] 2 (gVar 0) (gCons (gVar 1) (gNil))) (tgName 3)) (gSeq (gIfS (gOr (gB (gBin mLtI (gVar 2) (gC (.int 0)))) (gB (gBin mGeI (gVar 2) (gBin mSub (gBin mIx (gFld [1] 4664956162465133946598905528451167 (gVar 0)) (gVar 3)) (gC (.int 2)))))) (gRaise1 4 1953625037611499005686055024 (gVar 2)) (gNext)) (gRet (gBin mAdd (gBin mAdd (gVar 3) (gC (.int 2))) (gVar 2))))
def m_Heap__place_cell : MF := gBody 4 b_Heap__place_cell
theorem sc_Heap__place_cell : FnScope ["self", "ref", "place", "cell"] ["self", "ref", "place"] (defScope s_Heap__place_cell) :=
  ⟨rfl, rfl, rfl, by decide +kernel, rfl, by decide +kernel, by decide +kernel⟩
theorem fn_Heap__place_cell (F : W K mg) {fd : FuncData} (D : FunD K d_Heap__place_cell.name d_Heap__place_cell.qual d_Heap__place_cell.params d_Heap__place_cell.body d_Heap__place_cell.scope (d_Heap__place_cell.dvs K) (d_Heap__place_cell.kws K) (He.fAd K d_Heap__place_cell.at_) fd) :
    FnG P w K mg base (L2.CX P w) 4 (He.fAd K d_Heap__place_cell.at_) fd ["self", "ref", "place"] (spM ⟨K, tN K⟩ 3 m_Heap__place_cell) :=
  def_MD D sc_Heap__place_cell b_Heap__place_cell fun cdv A outer s H E hs hr => by
    have sc := sc_Heap__place_cell
    exact js_cons (js_set (i := 3) sc.nd rfl (Or.inl rfl) (je_meth (c := 1) (ok_Heap__cell F) (F.cls 5) (F.meth 37) n__cell hs (hr.mono (by decide)) pass_M (je_var (pv 0)) (ja_cons (je_var (pv 1)) (ja_nil)))) (js_cons (js_if (PW.pt (jw_or (jt_lt (je_var (pv 2)) (je_int)) (jw_or1 (jt_ge (je_var (pv 2)) (je_sub (je_ix (hu_of hr) (je_fld (je_var (pv 0)) (fk_Heap__sizes F) n__sizes) (je_var (pv 3))) (je_int)))))) (js_one (js_raise1 (c := 4) n_place (takes_of rfl rfl rfl rfl) rfl rfl hs (hr.mono (by decide)) (er_NoPlace F) (by rfl) (je_var (pv 2)))) (js_nil)) (js_one (js_ret (je_add (je_add (je_var (pv 3)) (je_int)) (je_var (pv 2))))))
theorem ok_Heap__place_cell (F : W K mg) : FM P w K mg base (tN K) 4 (He.fAd K d_Heap__place_cell.at_) 3 [] m_Heap__place_cell := by
  obtain ⟨fd, D⟩ := F.c.def_ 19 (d := d_Heap__place_cell) rfl
  exact FM.of0 (ps := ["self", "ref", "place"]) D (fn_Heap__place_cell F D) rfl (fun _ _ _ _ _ _ us hl => match us, hl with | [_, _, _], _ => rfl)
def b_Heap_put : MS := gSeq (gAsg (gMeth 1 177714576931601468876924009604150707265706476241428550636844089439 m_Heap__place_cell [] 3 (gVar 0) (gCons (gVar 1) (gCons (gVar 2) (gNil)))) (tgName 4)) (gSeq (gFor (gIter (gFld [1] 43026628541309995105828283364444002592150526583898207 (gVar 0))) (tgName 5) (gBadS)) (gExpr (gMeth 1 4097048983704927084954340317724767 m_Heap__write [] 3 (gVar 0) (gCons (gVar 4) (gCons (gLst (gCons (gVar 3) (gNil))) (gNil))))))
def m_Heap_put : MF := gBody 6 b_Heap_put
theorem sc_Heap_put : FnScope ["self", "ref", "place", "atom", "cell", "watcher"] ["self", "ref", "place", "atom"] (defScope s_Heap_put) :=
  ⟨rfl, rfl, rfl, by decide +kernel, rfl, by decide +kernel, by decide +kernel⟩
theorem fn_Heap_put (F : W K mg) {fd : FuncData} (D : FunD K d_Heap_put.name d_Heap_put.qual d_Heap_put.params d_Heap_put.body d_Heap_put.scope (d_Heap_put.dvs K) (d_Heap_put.kws K) (He.fAd K d_Heap_put.at_) fd) :
    FnG P w K mg base (L2.CX P w) 6 (He.fAd K d_Heap_put.at_) fd ["self", "ref", "place", "atom"] (spM ⟨K, tN K⟩ 4 m_Heap_put) :=
  def_MD D sc_Heap_put b_Heap_put fun cdv A outer s H E hs hr => by
    have sc := sc_Heap_put
    exact js_cons (js_set (i := 4) sc.nd rfl (Or.inl rfl) (je_meth (c := 1) (ok_Heap__place_cell F) (F.cls 5) (F.meth 39) n__place_cell hs (hr.mono (by decide)) pass_M (je_var (pv 0)) (ja_cons (je_var (pv 1)) (ja_cons (je_var (pv 2)) (ja_nil))))) (js_cons (js_for own_M rfl (ji_seq (je_fld (je_var (pv 0)) (fk_Heap__watchers F) n__watchers)) (jg_name (pg_name (i := 5) sc.nd rfl (Or.inl rfl))) (js_one (js_bad))) (js_one (js_expr (je_meth (c := 1) (ok_Heap__write F) (F.cls 5) (F.meth 33) n__write hs (hr.mono (by decide)) pass_M (je_var (pv 0)) (ja_cons (je_var (pv 4)) (ja_cons (je_lst (ja_cons (je_var (pv 3)) (ja_nil))) (ja_nil)))))))
theorem ok_Heap_put (F : W K mg) : FM P w K mg base (tN K) 6 (He.fAd K d_Heap_put.at_) 4 [] m_Heap_put := by
  obtain ⟨fd, D⟩ := F.c.def_ 20 (d := d_Heap_put) rfl
  exact FM.of0 (ps := ["self", "ref", "place", "atom"]) D (fn_Heap_put F D) rfl (fun _ _ _ _ _ _ us hl => match us, hl with | [_, _, _, _], _ => rfl)
abbrev sl_Heap_atoms : List Str := ["self", "ref", "cell", "at"]
def b_Heap_atoms : MS := gSeq (gAsg (gMeth 1 2089024812418703397113299039 m_Heap__cell [] 2 (gVar 0) (gCons (gVar 1) (gNil))) (tgName 2)) (gRet (gCB (f1 mTuple) (gCons (gLc (gRng2 (gBin mAdd (gVar 2) (gC (.int 2))) (gBin mAdd (gVar 2) (gBin mIx (gFld [1] 4664956162465133946598905528451167 (gVar 0)) (gVar 2)))) (.one 3) (gYes) (gMeth 2 510173607100519 m_Memory_get [] 2 (gFld [1] 10293546223749925205608922112418656551007 (gVar 0)) (gCons (gVar 3) (gNil))) [3]) (gNil))))
def m_Heap_atoms : MF := gBody 4 b_Heap_atoms
theorem sc_Heap_atoms : FnScope ["self", "ref", "cell", "at"] ["self", "ref"] (defScope s_Heap_atoms) :=
  ⟨rfl, rfl, rfl, by decide +kernel, rfl, by decide +kernel, by decide +kernel⟩
theorem fn_Heap_atoms (F : W K mg) {fd : FuncData} (D : FunD K d_Heap_atoms.name d_Heap_atoms.qual d_Heap_atoms.params d_Heap_atoms.body d_Heap_atoms.scope (d_Heap_atoms.dvs K) (d_Heap_atoms.kws K) (He.fAd K d_Heap_atoms.at_) fd) :
    FnG P w K mg base (L2.CX P w) 4 (He.fAd K d_Heap_atoms.at_) fd ["self", "ref"] (spM ⟨K, tN K⟩ 2 m_Heap_atoms) :=
  def_MD D sc_Heap_atoms b_Heap_atoms fun cdv A outer s H E hs hr => by
    have sc := sc_Heap_atoms
    exact js_cons (js_set (i := 2) sc.nd rfl (Or.inl rfl) (je_meth (c := 1) (ok_Heap__cell F) (F.cls 5) (F.meth 37) n__cell hs (hr.mono (by decide)) pass_M (je_var (pv 0)) (ja_cons (je_var (pv 1)) (ja_nil)))) (js_one (js_ret (je_callT call_tuple_of mc_tuple (by rfl) (F.free 24) PyProof.Rows.boot_tuple (ja_cons (je_lcA (c := .one 3) [("at", 3)] rfl rfl sc.nd (ji_range2 (by rfl) (F.free 16) (je_add (je_var (pv 2)) (je_int)) (je_add (je_var (pv 2)) (je_ix (hu_of hr) (je_fld (je_var (pv 0)) (fk_Heap__sizes F) n__sizes) (je_var (pv 2))))) (blkOk_by (own := [("at", 3)]) (N := sl_Heap_atoms) (sc := defScope s_Heap_atoms) (by decide +kernel)) (fun _ _ _ _ _ => pg_name (i := 3) sc.nd rfl (Or.inl rfl)) (fun _ _ _ _ _ => jts_nil) (fun _ _ _ _ _ => je_meth (c := 2) (ok_Memory_get F) (F.cls 12) (F.meth 22) n_get hs (hr.mono (by decide)) pass_E00 (je_fld (je_var (pv 0)) (fk_Heap__memory F) n__memory) (ja_cons (je_var (pv 3)) (ja_nil))) (by decide)) (ja_nil)))))
theorem ok_Heap_atoms (F : W K mg) : FM P w K mg base (tN K) 4 (He.fAd K d_Heap_atoms.at_) 2 [] m_Heap_atoms := by
  obtain ⟨fd, D⟩ := F.c.def_ 21 (d := d_Heap_atoms) rfl
  exact FM.of0 (ps := ["self", "ref"]) D (fn_Heap_atoms F D) rfl (fun _ _ _ _ _ _ us hl => match us, hl with | [_, _], _ => rfl)
def b_law_world : MS := gSeq (gPar 2 3 (gCons (gMake 1 m_Heap___init [] 2 (gCons (gMake 2 m_Memory___init [.ktp []] 2 gNil) (gNil))) (gCons (gDic) (gNil)))) (gSeq (gFor (gRng1 (gCall m_law_take [] 2 (gCons (gVar 0) (gCons (gC (.int 15)) (gNil))))) (tgName 6) (gSeq (gAsg (gMeth 1 931561046313512468589 m_Heap_make [] 3 (gVar 2) (gCons (gC (.str [114, 111, 119])) (gCons (gBin mMulB (gLst (gCons (gC .non) (gNil))) (gCall m_law_take [] 2 (gCons (gVar 0) (gCons (gC (.int 5)) (gNil))))) (gNil)))) (tgName 7)) (gAsg (gBin mMulB (gLst (gCons (gC .non) (gNil))) (gCB (f1 mLenV) (gCons (gMeth 1 2224424513438957882035929185 m_Heap_atoms [] 2 (gVar 2) (gCons (gVar 7) (gNil))) (gNil)))) (tgSub (gVar 3) (gVar 7))))) (gSeq (gFor (gIter (gCB (f1 mSortedA) (gCons (gVar 3) (gNil)))) (tgName 7) (gFor (gRng1 (gCB (f1 mLenV) (gCons (gBin mIx (gVar 3) (gVar 7)) (gNil)))) (tgName 1) (gSeq (gAsg (gCall m_law_of [] 2 (gCons (gVar 0) (gCons (gBin mAdd (gLst (gCons (gC .non) (gCons (gC (.int 3)) (gCons (gC (.str [120])) (gCons (gC (.str [64, 49])) (gCons (gC (.str [64, 49, 48, 48, 48])) (gNil))))))) (gBin mMulB (gC (.int 2)) (gCB (f1 mSortedA) (gCons (gVar 3) (gNil))))) (gNil)))) (tgName 5)) (gSeq (gExpr (gMeth 1 510173640654960 m_Heap_put [] 4 (gVar 2) (gCons (gVar 7) (gCons (gVar 1) (gCons (gVar 5) (gNil)))))) (gSeq (gAsg (gBin mIx (gVar 3) (gVar 7)) (tgName 4)) (gAsg (gVar 5) (tgSub (gVar 4) (gVar 1)))))))) (gRet (gTup (gCons (gVar 2) (gCons (gVar 3) (gNil)))))))
def m_law_world : MF := gBody 8 b_law_world
theorem sc_law_world : FnScope ["_law_box_here", "_law_at", "_law_heap_so", "_law_known", "_law_some", "_law_thing", "_law_turn", "_law_word"] ["_law_box_here"] (defScope s_law_world) :=
  ⟨rfl, rfl, rfl, by decide +kernel, rfl, by decide +kernel, by decide +kernel⟩
theorem fn_law_world (F : W K mg) {fd : FuncData} (D : FunD K d_law_world.name d_law_world.qual d_law_world.params d_law_world.body d_law_world.scope (d_law_world.dvs K) (d_law_world.kws K) (He.fAd K d_law_world.at_) fd) :
    FnG P w K mg base (L2.CX P w) 7 (He.fAd K d_law_world.at_) fd ["_law_box_here"] (spM ⟨K, tN K⟩ 1 m_law_world) :=
  def_MD D sc_law_world b_law_world fun cdv A outer s H E hs hr => by
    have sc := sc_law_world
    exact js_cons (js_par (i := 2) (j := 3) rfl sc.nd rfl rfl (by decide) rfl rfl (ja_cons (je_make (c := 1) (ok_Heap___init F) (F.mkr 40) hs (hr.mono (by decide)) pass_M (by rfl) (F.glo 11) (ja_cons (je_make0 (c := 2) (ok_Memory___init_d1 F) (F.mkr 41) hs (hr.mono (by decide)) pass_M (by rfl) (F.glo 17)) (ja_nil))) (ja_cons (je_dic) (ja_nil)))) (js_cons (js_for own_M rfl (ji_range1 (by rfl) (F.free 16) (je_call (ok_law_take F) hs (hr.mono (by decide)) pass_M (by rfl) (F.glo 35) (ja_cons (je_var (pv 0)) (ja_cons (je_int) (ja_nil))))) (jg_name (pg_name (i := 6) sc.nd rfl (Or.inl rfl))) (js_cons (js_set (i := 7) sc.nd rfl (Or.inl rfl) (je_meth (c := 1) (ok_Heap_make F) (F.cls 5) (F.meth 42) n_make hs (hr.mono (by decide)) pass_M (je_var (pv 2)) (ja_cons (je_str (l := [114, 111, 119])) (ja_cons (je_mulB (je_lst (ja_cons (je_non) (ja_nil))) (je_call (ok_law_take F) hs (hr.mono (by decide)) pass_M (by rfl) (F.glo 35) (ja_cons (je_var (pv 0)) (ja_cons (je_int) (ja_nil))))) (ja_nil))))) (js_one (js_asg (je_mulB (je_lst (ja_cons (je_non) (ja_nil))) (je_callB call_lenM mc_len (by rfl) (F.free 23) PySem.boot_len (ja_cons (je_meth (c := 1) (ok_Heap_atoms F) (F.cls 5) (F.meth 43) n_atoms hs (hr.mono (by decide)) pass_M (je_var (pv 2)) (ja_cons (je_var (pv 7)) (ja_nil))) (ja_nil)))) (jg_sub (hu_of hr) (je_var (pv 3)) (je_var (pv 7))))))) (js_cons (js_for own_M rfl (ji_seq (je_callB (call_sortA rfl) mc_sortedA (by rfl) (F.free 14) (by decide +kernel) (ja_cons (je_var (pv 3)) (ja_nil)))) (jg_name (pg_name (i := 7) sc.nd rfl (Or.inl rfl))) (js_one (js_for own_M rfl (ji_range1 (by rfl) (F.free 16) (je_callB call_lenM mc_len (by rfl) (F.free 23) PySem.boot_len (ja_cons (je_ix (hu_of hr) (je_var (pv 3)) (je_var (pv 7))) (ja_nil)))) (jg_name (pg_name (i := 1) sc.nd rfl (Or.inl rfl))) (js_cons (js_set (i := 5) sc.nd rfl (Or.inl rfl) (je_call (ok_law_of F) hs (hr.mono (by decide)) pass_M (by rfl) (F.glo 44) (ja_cons (je_var (pv 0)) (ja_cons (je_add (je_lst (ja_cons (je_non) (ja_cons (je_int) (ja_cons (je_str (l := [120])) (ja_cons (je_str (l := [64, 49])) (ja_cons (je_str (l := [64, 49, 48, 48, 48])) (ja_nil))))))) (je_mulB (je_int) (je_callB (call_sortA rfl) mc_sortedA (by rfl) (F.free 14) (by decide +kernel) (ja_cons (je_var (pv 3)) (ja_nil))))) (ja_nil))))) (js_cons (js_expr (je_meth (c := 1) (ok_Heap_put F) (F.cls 5) (F.meth 45) n_put hs (hr.mono (by decide)) pass_M (je_var (pv 2)) (ja_cons (je_var (pv 7)) (ja_cons (je_var (pv 1)) (ja_cons (je_var (pv 5)) (ja_nil)))))) (js_cons (js_set (i := 4) sc.nd rfl (Or.inl rfl) (je_ix (hu_of hr) (je_var (pv 3)) (je_var (pv 7)))) (js_one (js_asg (je_var (pv 5)) (jg_sub (hu_of hr) (je_var (pv 4)) (je_var (pv 1))))))))))) (js_one (js_ret (je_tup (ja_cons (je_var (pv 2)) (ja_cons (je_var (pv 3)) (ja_nil))))))))
theorem ok_law_world (F : W K mg) : FM P w K mg base (tN K) 7 (He.fAd K d_law_world.at_) 1 [] m_law_world := by
  obtain ⟨fd, D⟩ := F.c.def_ 22 (d := d_law_world) rfl
  exact FM.of0 (ps := ["_law_box_here"]) D (fn_law_world F D) rfl (fun _ _ _ _ _ _ us hl => match us, hl with | [_], _ => rfl)
abbrev sl_law_sorted : List Str := ["_law_words", "_law_spot", "_law_word"]
def b_law_sorted : MS := gRet (gLc (gIter (gCB (f1 mSortedA) (gCons (gLc (gIter (gVar 0)) (.one 2) (gYes) (gCB (f1 mIntS) (gCons (gSl (gVar 2) (gPs (gC (.int 1))) (gPn)) (gNil))) [2]) (gNil)))) (.one 1) (gYes) (gBin mAdd (gC (.str [64])) (gCB (f1 mStr) (gCons (gVar 1) (gNil)))) [1])
def m_law_sorted : MF := gBody 3 b_law_sorted
theorem sc_law_sorted : FnScope ["_law_words", "_law_spot", "_law_word"] ["_law_words"] (defScope s_law_sorted) :=
  ⟨rfl, rfl, rfl, by decide +kernel, rfl, by decide +kernel, by decide +kernel⟩
theorem fn_law_sorted (F : W K mg) {fd : FuncData} (D : FunD K d_law_sorted.name d_law_sorted.qual d_law_sorted.params d_law_sorted.body d_law_sorted.scope (d_law_sorted.dvs K) (d_law_sorted.kws K) (He.fAd K d_law_sorted.at_) fd) :
    FnG P w K mg base (L2.CX P w) 1 (He.fAd K d_law_sorted.at_) fd ["_law_words"] (spM ⟨K, tN K⟩ 1 m_law_sorted) :=
  def_MD D sc_law_sorted b_law_sorted fun cdv A outer s H E hs hr => by
    have sc := sc_law_sorted
    exact js_one (js_ret (je_lcA (c := .one 1) [("_law_spot", 1)] rfl rfl sc.nd (ji_seq (je_callB (call_sortA rfl) mc_sortedA (by rfl) (F.free 14) (by decide +kernel) (ja_cons (je_lcA (c := .one 2) [("_law_word", 2)] rfl rfl sc.nd (ji_seq (je_var (pv 0))) (blkOk_by (own := [("_law_word", 2)]) (N := sl_law_sorted) (sc := defScope s_law_sorted) (by decide +kernel)) (fun _ _ _ _ _ => pg_name (i := 2) sc.nd rfl (Or.inl rfl)) (fun _ _ _ _ _ => jts_nil) (fun _ _ _ _ _ => je_callT call_intS mc_intS (by rfl) (F.free 4) PyProof.Rows.boot_int (ja_cons (je_slice (je_var (pv 2)) (jp_some (je_int)) (jp_none)) (ja_nil))) (by decide)) (ja_nil)))) (blkOk_by (own := [("_law_spot", 1)]) (N := sl_law_sorted) (sc := defScope s_law_sorted) (by decide +kernel)) (fun _ _ _ _ _ => pg_name (i := 1) sc.nd rfl (Or.inl rfl)) (fun _ _ _ _ _ => jts_nil) (fun _ _ _ _ _ => je_add (je_str (l := [64])) (je_callT call_str_int mc_str (by rfl) (F.free 46) (by decide +kernel) (ja_cons (je_var (pv 1)) (ja_nil)))) (by decide)))
theorem ok_law_sorted (F : W K mg) : FM P w K mg base (tN K) 1 (He.fAd K d_law_sorted.at_) 1 [] m_law_sorted := by
  obtain ⟨fd, D⟩ := F.c.def_ 23 (d := d_law_sorted) rfl
  exact FM.of0 (ps := ["_law_words"]) D (fn_law_sorted F D) rfl (fun _ _ _ _ _ _ us hl => match us, hl with | [_], _ => rfl)
end
end K36
set_option Elab.async false
set_option linter.all false
set_option maxRecDepth 100000
set_option maxHeartbeats 8000000
namespace K36
open PySem PySem.Spec PyProof.Rows L2 JB MI
section
variable {P : Program} {w : World} {K : PySem.W.Frag} {mg : Str → Option Value} {base : Heap}
def b_Marks_mark : MS := gIfS (gAnd (gB (gBin (mInN fun b => b) (gVar 1) (gFld [0] 4462132414599151834302220144214111 (gVar 0)))) (gB (gBin (mInN fun b => !b) (gVar 1) (gFld [0] 8507063270072271206276435907098246643807 (gVar 0))))) (gSeq (gAsg (gC (.bl true)) (tgSub (gFld [0] 8507063270072271206276435907098246643807 (gVar 0)) (gVar 1))) (gExpr (gBM "list" lApp (gFld [0] 2243767381892980189490577503 (gVar 0)) (gCons (gVar 1) (gNil))))) (gNext)
def m_Marks_mark : MF := gBody 2 b_Marks_mark
theorem sc_Marks_mark : FnScope ["self", "atom"] ["self", "atom"] (defScope s_Marks_mark) :=
  ⟨rfl, rfl, rfl, by decide +kernel, rfl, by decide +kernel, by decide +kernel⟩
theorem fn_Marks_mark (F : W K mg) {fd : FuncData} (D : FunD K d_Marks_mark.name d_Marks_mark.qual d_Marks_mark.params d_Marks_mark.body d_Marks_mark.scope (d_Marks_mark.dvs K) (d_Marks_mark.kws K) (He.fAd K d_Marks_mark.at_) fd) :
    FnG P w K mg base (L2.CX P w) 1 (He.fAd K d_Marks_mark.at_) fd ["self", "atom"] (spM ⟨K, tN K⟩ 2 m_Marks_mark) :=
  def_MD D sc_Marks_mark b_Marks_mark fun cdv A outer s H E hs hr => by
    have sc := sc_Marks_mark
    exact js_one (js_if (PW.pt (jw_and (jt_inN (hu_of hr) (je_var (pv 1)) (je_fld (je_var (pv 0)) (fk_Marks__known F) n__known)) (jw_and1 (jt_notInN (hu_of hr) (je_var (pv 1)) (je_fld (je_var (pv 0)) (fk_Marks__marked F) n__marked))))) (js_cons (js_asg (je_bl) (jg_sub (hu_of hr) (je_fld (je_var (pv 0)) (fk_Marks__marked F) n__marked) (je_var (pv 1)))) (js_one (js_expr (je_bm PySem.F.plainAttrs_list PySem.F.slot_list_append PySem.F.type_list_append mt_append mm_app (je_fld (je_var (pv 0)) (fk_Marks__rest F) n__rest) (ja_cons (je_var (pv 1)) (ja_nil)))))) (js_nil))
theorem ok_Marks_mark (F : W K mg) : FM P w K mg base (tN K) 1 (He.fAd K d_Marks_mark.at_) 2 [] m_Marks_mark := by
  obtain ⟨fd, D⟩ := F.c.def_ 24 (d := d_Marks_mark) rfl
  exact FM.of0 (ps := ["self", "atom"]) D (fn_Marks_mark F D) rfl (fun _ _ _ _ _ _ us hl => match us, hl with | [_, _], _ => rfl)
abbrev sl_Heap_refs : List Str := ["self", "cell"]
def b_Heap_refs : MS := gSeq (gExpr (gMeth 1 2069682026975029421366313055 m_Heap__look [] 1 (gVar 0) gNil)) (gRet (gLc (gIter (gCB (f1 mSortedA) (gCons (gFld [1] 4664956162465133946598905528451167 (gVar 0)) (gNil)))) (.one 1) (gYes) (gFs [gC (.str [64]), gUn mFmt (gVar 1)] []) [1]))
def m_Heap_refs : MF := gBody 2 b_Heap_refs
theorem sc_Heap_refs : FnScope ["self", "cell"] ["self"] (defScope s_Heap_refs) :=
  ⟨rfl, rfl, rfl, by decide +kernel, rfl, by decide +kernel, by decide +kernel⟩
theorem fn_Heap_refs (F : W K mg) {fd : FuncData} (D : FunD K d_Heap_refs.name d_Heap_refs.qual d_Heap_refs.params d_Heap_refs.body d_Heap_refs.scope (d_Heap_refs.dvs K) (d_Heap_refs.kws K) (He.fAd K d_Heap_refs.at_) fd) :
    FnG P w K mg base (L2.CX P w) 3 (He.fAd K d_Heap_refs.at_) fd ["self"] (spM ⟨K, tN K⟩ 1 m_Heap_refs) :=
  def_MD D sc_Heap_refs b_Heap_refs fun cdv A outer s H E hs hr => by
    have sc := sc_Heap_refs
    exact js_cons (js_expr (je_meth0 (c := 1) (ok_Heap__look F) (F.cls 5) (F.meth 31) n__look hs (hr.mono (by decide)) pass_M (je_var (pv 0)))) (js_one (js_ret (je_lcA (c := .one 1) [("cell", 1)] rfl rfl sc.nd (ji_seq (je_callB (call_sortA rfl) mc_sortedA (by rfl) (F.free 14) (by decide +kernel) (ja_cons (je_fld (je_var (pv 0)) (fk_Heap__sizes F) n__sizes) (ja_nil)))) (blkOk_by (own := [("cell", 1)]) (N := sl_Heap_refs) (sc := defScope s_Heap_refs) (by decide +kernel)) (fun _ _ _ _ _ => pg_name (i := 1) sc.nd rfl (Or.inl rfl)) (fun _ _ _ _ _ => jts_nil) (fun _ _ _ _ _ => je_fs (gs := [gC (.str [64]), gUn mFmt (gVar 1)]) (PJ.cons (je_str (l := [64])) (PJ.cons (je_fmt (je_var (pv 1))) (PJ.nil)))) (by decide))))
theorem ok_Heap_refs (F : W K mg) : FM P w K mg base (tN K) 3 (He.fAd K d_Heap_refs.at_) 1 [] m_Heap_refs := by
  obtain ⟨fd, D⟩ := F.c.def_ 25 (d := d_Heap_refs) rfl
  exact FM.of0 (ps := ["self"]) D (fn_Heap_refs F D) rfl (fun _ _ _ _ _ _ us hl => match us, hl with | [_], _ => rfl)
abbrev sl_Marks___init : List Str := ["self", "heap", "roots", "ref"]
def b_Marks___init : MS := gSeq (gFldS [0] 2166395963416947258902446175 (gVar 1) (gVar 0)) (gSeq (gFldS [0] 4462132414599151834302220144214111 (gDc (gIter (gMeth 1 1060688232839255162994 m_Heap_refs [] 1 (gVar 1) gNil)) (.one 3) (gYes) (gVar 3) (gC (.bl true)) [3]) (gVar 0)) (gSeq (gFldS [0] 8507063270072271206276435907098246643807 (gDic) (gVar 0)) (gSeq (gFldS [0] 2243767381892980189490577503 (gLst (gNil)) (gVar 0)) (gFor (gIter (gVar 2)) (tgName 3) (gExpr (gMeth 0 986901309320966701165 m_Marks_mark [] 2 (gVar 0) (gCons (gVar 3) (gNil))))))))
def m_Marks___init : MF := gBody 4 b_Marks___init
theorem sc_Marks___init : FnScope ["self", "heap", "roots", "ref"] ["self", "heap", "roots"] (defScope s_Marks___init) :=
  ⟨rfl, rfl, rfl, by decide +kernel, rfl, by decide +kernel, by decide +kernel⟩
theorem fn_Marks___init (F : W K mg) {fd : FuncData} (D : FunD K d_Marks___init.name d_Marks___init.qual d_Marks___init.params d_Marks___init.body d_Marks___init.scope (d_Marks___init.dvs K) (d_Marks___init.kws K) (He.fAd K d_Marks___init.at_) fd) :
    FnG P w K mg base (L2.CX P w) 4 (He.fAd K d_Marks___init.at_) fd ["self", "heap", "roots"] (spM ⟨K, tN K⟩ 3 m_Marks___init) :=
  def_MD D sc_Marks___init b_Marks___init fun cdv A outer s H E hs hr => by
    have sc := sc_Marks___init
    exact js_cons (js_fld (je_var (pv 0)) (je_var (pv 1)) (fk_Marks__heap F) n__heap) (js_cons (js_fld (je_var (pv 0)) (je_dcA (c := .one 3) [("ref", 3)] rfl rfl sc.nd (ji_seq (je_meth0 (c := 1) (ok_Heap_refs F) (F.cls 5) (F.meth 53) n_refs hs (hr.mono (by decide)) pass_M (je_var (pv 1)))) (blkOk_by (own := [("ref", 3)]) (N := sl_Marks___init) (sc := defScope s_Marks___init) (by decide +kernel)) (fun _ _ _ _ _ => pg_name (i := 3) sc.nd rfl (Or.inl rfl)) (fun _ _ _ _ _ => jts_nil) (fun _ _ _ _ _ => je_var (pv 3)) (fun _ _ _ _ _ => je_bl) (by decide)) (fk_Marks__known F) n__known) (js_cons (js_fld (je_var (pv 0)) (je_dic) (fk_Marks__marked F) n__marked) (js_cons (js_fld (je_var (pv 0)) (je_lst (ja_nil)) (fk_Marks__rest F) n__rest) (js_one (js_for own_M rfl (ji_seq (je_var (pv 2))) (jg_name (pg_name (i := 3) sc.nd rfl (Or.inl rfl))) (js_one (js_expr (je_meth (c := 0) (ok_Marks_mark F) (F.cls 47) (F.meth 54) n_mark hs (hr.mono (by decide)) pass_M (je_var (pv 0)) (ja_cons (je_var (pv 3)) (ja_nil))))))))))
theorem ok_Marks___init (F : W K mg) : FM P w K mg base (tN K) 4 (He.fAd K d_Marks___init.at_) 3 [] m_Marks___init := by
  obtain ⟨fd, D⟩ := F.c.def_ 26 (d := d_Marks___init) rfl
  exact FM.of0 (ps := ["self", "heap", "roots"]) D (fn_Marks___init F D) rfl (fun _ _ _ _ _ _ us hl => match us, hl with | [_, _, _], _ => rfl)
def b_Marks_mark_named : MS := gFor (gIter (gMeth 1 2224424513438957882035929185 m_Heap_atoms [] 2 (gFld [0] 2166395963416947258902446175 (gVar 0)) (gCons (gVar 1) (gNil)))) (tgName 2) (gExpr (gMeth 0 986901309320966701165 m_Marks_mark [] 2 (gVar 0) (gCons (gVar 2) (gNil))))
def m_Marks_mark_named : MF := gBody 3 b_Marks_mark_named
theorem sc_Marks_mark_named : FnScope ["self", "ref", "atom"] ["self", "ref"] (defScope s_Marks_mark_named) :=
  ⟨rfl, rfl, rfl, by decide +kernel, rfl, by decide +kernel, by decide +kernel⟩
theorem fn_Marks_mark_named (F : W K mg) {fd : FuncData} (D : FunD K d_Marks_mark_named.name d_Marks_mark_named.qual d_Marks_mark_named.params d_Marks_mark_named.body d_Marks_mark_named.scope (d_Marks_mark_named.dvs K) (d_Marks_mark_named.kws K) (He.fAd K d_Marks_mark_named.at_) fd) :
    FnG P w K mg base (L2.CX P w) 5 (He.fAd K d_Marks_mark_named.at_) fd ["self", "ref"] (spM ⟨K, tN K⟩ 2 m_Marks_mark_named) :=
  def_MD D sc_Marks_mark_named b_Marks_mark_named fun cdv A outer s H E hs hr => by
    have sc := sc_Marks_mark_named
    exact js_one (js_for own_M rfl (ji_seq (je_meth (c := 1) (ok_Heap_atoms F) (F.cls 5) (F.meth 43) n_atoms hs (hr.mono (by decide)) pass_M (je_fld (je_var (pv 0)) (fk_Marks__heap F) n__heap) (ja_cons (je_var (pv 1)) (ja_nil)))) (jg_name (pg_name (i := 2) sc.nd rfl (Or.inl rfl))) (js_one (js_expr (je_meth (c := 0) (ok_Marks_mark F) (F.cls 47) (F.meth 54) n_mark hs (hr.mono (by decide)) pass_M (je_var (pv 0)) (ja_cons (je_var (pv 2)) (ja_nil))))))
theorem ok_Marks_mark_named (F : W K mg) : FM P w K mg base (tN K) 5 (He.fAd K d_Marks_mark_named.at_) 2 [] m_Marks_mark_named := by
  obtain ⟨fd, D⟩ := F.c.def_ 27 (d := d_Marks_mark_named) rfl
  exact FM.of0 (ps := ["self", "ref"]) D (fn_Marks_mark_named F D) rfl (fun _ _ _ _ _ _ us hl => match us, hl with | [_, _], _ => rfl)
def b_Marks_look : MS := gSeq (gWhile (gTru (gFld [0] 2243767381892980189490577503 (gVar 0))) (gSeq (gAsg (gBM "list" lPop (gFld [0] 2243767381892980189490577503 (gVar 0)) gNil) (tgName 1)) (gIfS (gB (gBin (mIn fun b => b) (gVar 1) (gFld [0] 4462132414599151834302220144214111 (gVar 0)))) (gSeq (gExpr (gMeth 0 78463809480939290633838191427914992170413991695107659661421 m_Marks_mark_named [] 2 (gVar 0) (gCons (gVar 1) (gNil)))) (gRet (gC (.bl true)))) (gNext))) 100000) (gRet (gC (.bl false)))
def m_Marks_look : MF := gBody 2 b_Marks_look
theorem sc_Marks_look : FnScope ["self", "ref"] ["self"] (defScope s_Marks_look) :=
  ⟨rfl, rfl, rfl, by decide +kernel, rfl, by decide +kernel, by decide +kernel⟩
theorem fn_Marks_look (F : W K mg) {fd : FuncData} (D : FunD K d_Marks_look.name d_Marks_look.qual d_Marks_look.params d_Marks_look.body d_Marks_look.scope (d_Marks_look.dvs K) (d_Marks_look.kws K) (He.fAd K d_Marks_look.at_) fd) :
    FnG P w K mg base (L2.CX P w) 6 (He.fAd K d_Marks_look.at_) fd ["self"] (spM ⟨K, tN K⟩ 1 m_Marks_look) :=
  def_MD D sc_Marks_look b_Marks_look fun cdv A outer s H E hs hr => by
    have sc := sc_Marks_look
    exact js_cons (js_while 100000 own_M (jt_tru (je_fld (je_var (pv 0)) (fk_Marks__rest F) n__rest)) (js_cons (js_set (i := 1) sc.nd rfl (Or.inl rfl) (je_bm0 PySem.F.plainAttrs_list PySem.F.slot_list_pop PySem.F.type_list_pop mt_pop mm_pop (je_fld (je_var (pv 0)) (fk_Marks__rest F) n__rest))) (js_one (js_if (jt_in (hu_of hr) (je_var (pv 1)) (je_fld (je_var (pv 0)) (fk_Marks__known F) n__known)) (js_cons (js_expr (je_meth (c := 0) (ok_Marks_mark_named F) (F.cls 47) (F.meth 55) n_mark_named hs (hr.mono (by decide)) pass_M (je_var (pv 0)) (ja_cons (je_var (pv 1)) (ja_nil)))) (js_one (js_ret (je_bl)))) (js_nil))))) (js_one (js_ret (je_bl)))
theorem ok_Marks_look (F : W K mg) : FM P w K mg base (tN K) 6 (He.fAd K d_Marks_look.at_) 1 [] m_Marks_look := by
  obtain ⟨fd, D⟩ := F.c.def_ 28 (d := d_Marks_look) rfl
  exact FM.of0 (ps := ["self"]) D (fn_Marks_look F D) rfl (fun _ _ _ _ _ _ us hl => match us, hl with | [_], _ => rfl)
def b_Marks_is_marked : MS := gRet (gBin (mIn fun b => b) (gVar 1) (gFld [0] 8507063270072271206276435907098246643807 (gVar 0)))
def m_Marks_is_marked : MF := gBody 2 b_Marks_is_marked
theorem sc_Marks_is_marked : FnScope ["self", "ref"] ["self", "ref"] (defScope s_Marks_is_marked) :=
  ⟨rfl, rfl, rfl, by decide +kernel, rfl, by decide +kernel, by decide +kernel⟩
theorem fn_Marks_is_marked (F : W K mg) {fd : FuncData} (D : FunD K d_Marks_is_marked.name d_Marks_is_marked.qual d_Marks_is_marked.params d_Marks_is_marked.body d_Marks_is_marked.scope (d_Marks_is_marked.dvs K) (d_Marks_is_marked.kws K) (He.fAd K d_Marks_is_marked.at_) fd) :
    FnG P w K mg base (L2.CX P w) 1 (He.fAd K d_Marks_is_marked.at_) fd ["self", "ref"] (spM ⟨K, tN K⟩ 2 m_Marks_is_marked) :=
  def_MD D sc_Marks_is_marked b_Marks_is_marked fun cdv A outer s H E hs hr => by
    have sc := sc_Marks_is_marked
    exact js_one (js_ret (je_in (hu_of hr) (je_var (pv 1)) (je_fld (je_var (pv 0)) (fk_Marks__marked F) n__marked)))
theorem ok_Marks_is_marked (F : W K mg) : FM P w K mg base (tN K) 1 (He.fAd K d_Marks_is_marked.at_) 2 [] m_Marks_is_marked := by
  obtain ⟨fd, D⟩ := F.c.def_ 29 (d := d_Marks_is_marked) rfl
  exact FM.of0 (ps := ["self", "ref"]) D (fn_Marks_is_marked F D) rfl (fun _ _ _ _ _ _ us hl => match us, hl with | [_, _], _ => rfl)
abbrev sl_reachable : List Str := ["heap", "roots", "marks", "ref"]
def b_reachable : MS := gSeq (gAsg (gMake 0 m_Marks___init [] 3 (gCons (gVar 0) (gCons (gVar 1) (gNil)))) (tgName 2)) (gSeq (gWhile (gTru (gMeth 0 986901296126856527980 m_Marks_look [] 1 (gVar 2) gNil)) (gNext) 100000) (gRet (gLc (gIter (gMeth 1 1060688232839255162994 m_Heap_refs [] 1 (gVar 0) gNil)) (.one 3) (gTru (gMeth 0 37414459934682337676697356448181313120351053999505513 m_Marks_is_marked [] 2 (gVar 2) (gCons (gVar 3) (gNil)))) (gVar 3) [3])))
def m_reachable : MF := gBody 4 b_reachable
theorem sc_reachable : FnScope ["heap", "roots", "marks", "ref"] ["heap", "roots"] (defScope s_reachable) :=
  ⟨rfl, rfl, rfl, by decide +kernel, rfl, by decide +kernel, by decide +kernel⟩
theorem fn_reachable (F : W K mg) {fd : FuncData} (D : FunD K d_reachable.name d_reachable.qual d_reachable.params d_reachable.body d_reachable.scope (d_reachable.dvs K) (d_reachable.kws K) (He.fAd K d_reachable.at_) fd) :
    FnG P w K mg base (L2.CX P w) 7 (He.fAd K d_reachable.at_) fd ["heap", "roots"] (spM ⟨K, tN K⟩ 2 m_reachable) :=
  def_MD D sc_reachable b_reachable fun cdv A outer s H E hs hr => by
    have sc := sc_reachable
    exact js_cons (js_set (i := 2) sc.nd rfl (Or.inr rfl) (je_make (c := 0) (ok_Marks___init F) (F.mkr 56) hs (hr.mono (by decide)) pass_M (by rfl) (F.glo 51) (ja_cons (je_var (pv 0)) (ja_cons (je_var (pv 1)) (ja_nil))))) (js_cons (js_while 100000 own_M (jt_tru (je_meth0 (c := 0) (ok_Marks_look F) (F.cls 47) (F.meth 57) n_look hs (hr.mono (by decide)) pass_M (je_var (pv 2)))) (js_one (js_pass))) (js_one (js_ret (je_lcA (c := .one 3) [("ref", 3)] rfl rfl sc.nd (ji_seq (je_meth0 (c := 1) (ok_Heap_refs F) (F.cls 5) (F.meth 53) n_refs hs (hr.mono (by decide)) pass_M (je_var (pv 0)))) (blkOk_by (own := [("ref", 3)]) (N := sl_reachable) (sc := defScope s_reachable) (by decide +kernel)) (fun _ _ _ _ _ => pg_name (i := 3) sc.nd rfl (Or.inl rfl)) (fun _ _ _ _ _ => jts_one (jt_tru (je_meth (c := 0) (ok_Marks_is_marked F) (F.cls 47) (F.meth 58) n_is_marked hs (hr.mono (by decide)) pass_E00 (je_var (pv 2)) (ja_cons (je_var (pv 3)) (ja_nil))))) (fun _ _ _ _ _ => je_var (pv 3)) (by decide)))))
theorem ok_reachable (F : W K mg) : FM P w K mg base (tN K) 7 (He.fAd K d_reachable.at_) 2 [] m_reachable := by
  obtain ⟨fd, D⟩ := F.c.def_ 30 (d := d_reachable) rfl
  exact FM.of0 (ps := ["heap", "roots"]) D (fn_reachable F D) rfl (fun _ _ _ _ _ _ us hl => match us, hl with | [_, _], _ => rfl)
theorem ok_reachable_k0 (F : W K mg) : FK P w K mg base (tN K) 7 (He.fAd K d_reachable.at_) 2 0 ["roots", "heap"] [(2, 1), (2, 0)] [] m_reachable := by
  obtain ⟨fd, D⟩ := F.c.def_ 30 (d := d_reachable) rfl
  exact FK.of0 (ps := ["heap", "roots"]) D (fn_reachable F D) rfl (fun _ _ _ _ _ _ us ws hl hw => match us, ws, hl, hw with | [], [_, _], _, _ => rfl)
def b_law_same : MS := gRet (gSameA (gVar 0) (gVar 1))
def m_law_same : MF := gBody 2 b_law_same
theorem sc_law_same : FnScope ["_law_found", "_law_due"] ["_law_found", "_law_due"] (defScope s_law_same) :=
  ⟨rfl, rfl, rfl, by decide +kernel, rfl, by decide +kernel, by decide +kernel⟩
theorem fn_law_same (F : W K mg) {fd : FuncData} (D : FunD K d_law_same.name d_law_same.qual d_law_same.params d_law_same.body d_law_same.scope (d_law_same.dvs K) (d_law_same.kws K) (He.fAd K d_law_same.at_) fd) :
    FnG P w K mg base (L2.CX P w) 1 (He.fAd K d_law_same.at_) fd ["_law_found", "_law_due"] (spM ⟨K, tN K⟩ 2 m_law_same) :=
  def_MD D sc_law_same b_law_same fun cdv A outer s H E hs hr => by
    have sc := sc_law_same
    exact js_one (js_ret (je_sameA hs hr.units (by rfl) (F.free 59) (je_var (pv 0)) (je_var (pv 1))))
theorem ok_law_same (F : W K mg) : FM P w K mg base (tN K) 1 (He.fAd K d_law_same.at_) 2 [] m_law_same := by
  obtain ⟨fd, D⟩ := F.c.def_ 31 (d := d_law_same) rfl
  exact FM.of0 (ps := ["_law_found", "_law_due"]) D (fn_law_same F D) rfl (fun _ _ _ _ _ _ us hl => match us, hl with | [_, _], _ => rfl)
end
end K36
set_option Elab.async false
set_option linter.all false
set_option maxRecDepth 100000
set_option maxHeartbeats 8000000
namespace K36
open PySem PySem.Spec PyProof.Rows L2 JB MI
section
variable {P : Program} {w : World} {K : PySem.W.Frag} {mg : Str → Option Value} {base : Heap}
abbrev sl_law_closure : List Str := ["_law_known", "_law_roots_so", "_law_found", "_law_front", "_law_word", "_law_thing"]
def b_law_closure : MS := gSeq (gPar 2 3 (gCons (gLst (gNil)) (gCons (gCB (f1 mList) (gCons (gVar 1) (gNil))) (gNil)))) (gSeq (gWhile (gB (gBin mNeX (gVar 3) (gLst (gNil)))) (gSeq (gAsg (gBM "list" lPop (gVar 3) gNil) (tgName 4)) (gIfS (gB (gBin (mInN fun b => !b) (gVar 4) (gVar 2))) (gSeq (gExpr (gBM "list" lApp (gVar 2) (gCons (gVar 4) (gNil)))) (gAsg (gBin mAdd (gVar 3) (gLc (gIter (gBin mIx (gVar 0) (gVar 4))) (.one 5) (gB (gBin (mInN fun b => b) (gVar 5) (gVar 0))) (gVar 5) [5])) (tgName 3))) (gNext))) 100000) (gRet (gVar 2)))
def m_law_closure : MF := gBody 6 b_law_closure
theorem sc_law_closure : FnScope ["_law_known", "_law_roots_so", "_law_found", "_law_front", "_law_word", "_law_thing"] ["_law_known", "_law_roots_so"] (defScope s_law_closure) :=
  ⟨rfl, rfl, rfl, by decide +kernel, rfl, by decide +kernel, by decide +kernel⟩
theorem fn_law_closure (F : W K mg) {fd : FuncData} (D : FunD K d_law_closure.name d_law_closure.qual d_law_closure.params d_law_closure.body d_law_closure.scope (d_law_closure.dvs K) (d_law_closure.kws K) (He.fAd K d_law_closure.at_) fd) :
    FnG P w K mg base (L2.CX P w) 1 (He.fAd K d_law_closure.at_) fd ["_law_known", "_law_roots_so"] (spM ⟨K, tN K⟩ 2 m_law_closure) :=
  def_MD D sc_law_closure b_law_closure fun cdv A outer s H E hs hr => by
    have sc := sc_law_closure
    exact js_cons (js_par (i := 2) (j := 3) rfl sc.nd rfl rfl (by decide) rfl rfl (ja_cons (je_lst (ja_nil)) (ja_cons (je_callT call_list_of mc_list (by rfl) (F.free 1) PyProof.Rows.boot_list (ja_cons (je_var (pv 1)) (ja_nil))) (ja_nil)))) (js_cons (js_while 100000 own_M (jt_neF hr.units (je_var (pv 3)) (je_lst (ja_nil))) (js_cons (js_set (i := 4) sc.nd rfl (Or.inl rfl) (je_bm0 PySem.F.plainAttrs_list PySem.F.slot_list_pop PySem.F.type_list_pop mt_pop mm_pop (je_var (pv 3)))) (js_one (js_if (jt_notInN (hu_of hr) (je_var (pv 4)) (je_var (pv 2))) (js_cons (js_expr (je_bm PySem.F.plainAttrs_list PySem.F.slot_list_append PySem.F.type_list_append mt_append mm_app (je_var (pv 2)) (ja_cons (je_var (pv 4)) (ja_nil)))) (js_one (js_set (i := 3) sc.nd rfl (Or.inl rfl) (je_add (je_var (pv 3)) (je_lcA (c := .one 5) [("_law_thing", 5)] rfl rfl sc.nd (ji_seq (je_ix (hu_of hr) (je_var (pv 0)) (je_var (pv 4)))) (blkOk_by (own := [("_law_thing", 5)]) (N := sl_law_closure) (sc := defScope s_law_closure) (by decide +kernel)) (fun _ _ _ _ _ => pg_name (i := 5) sc.nd rfl (Or.inl rfl)) (fun _ _ _ _ _ => jts_one (jt_inN (hu_of hr) (je_var (pv 5)) (je_var (pv 0)))) (fun _ _ _ _ _ => je_var (pv 5)) (by decide)))))) (js_nil))))) (js_one (js_ret (je_var (pv 2)))))
theorem ok_law_closure (F : W K mg) : FM P w K mg base (tN K) 1 (He.fAd K d_law_closure.at_) 2 [] m_law_closure := by
  obtain ⟨fd, D⟩ := F.c.def_ 32 (d := d_law_closure) rfl
  exact FM.of0 (ps := ["_law_known", "_law_roots_so"]) D (fn_law_closure F D) rfl (fun _ _ _ _ _ _ us hl => match us, hl with | [_, _], _ => rfl)
abbrev sl_law_right : List Str := ["_law_box_here", "_law_before", "_law_due", "_law_found", "_law_heap_so", "_law_kept", "_law_known", "_law_roots_so", "_law_turn", "_law_word"]
def b_law_right : MS := gSeq (gAsg (gCall m_law_world [] 1 (gCons (gVar 0) (gNil))) (tgTup [4, 6])) (gSeq (gAsg (gLc (gRng1 (gBin mMulA (gCall m_law_take [] 2 (gCons (gVar 0) (gCons (gC (.int 5)) (gNil)))) (gCB (f1 mInt) (gCons (gBin mNeY (gVar 6) (gDic)) (gNil))))) (.one 8) (gYes) (gCall m_law_of [] 2 (gCons (gVar 0) (gCons (gCB (f1 mSortedA) (gCons (gVar 6) (gNil))) (gNil)))) [8]) (tgName 7)) (gSeq (gPar 5 1 (gCons (gCB (f1 mList) (gCons (gVar 7) (gNil))) (gCons (gLst (gCons (gMeth 1 1060688232839255162994 m_Heap_refs [] 1 (gVar 4) gNil) (gCons (gLc (gIter (gCB (f1 mSortedA) (gCons (gVar 6) (gNil)))) (.one 9) (gYes) (gMeth 1 2224424513438957882035929185 m_Heap_atoms [] 2 (gVar 4) (gCons (gVar 9) (gNil))) [9]) (gNil)))) (gNil)))) (gSeq (gAsg (gCall m_law_sorted [] 1 (gCons (gCall m_law_closure [] 2 (gCons (gVar 6) (gCons (gVar 7) (gNil)))) (gNil))) (tgName 2)) (gSeq (gAsg (gCall m_reachable [] 2 (gCons (gVar 4) (gCons (gVar 7) (gNil)))) (tgName 3)) (gSeq (gIfS (gNot (gTru (gCall m_law_same [] 2 (gCons (gLst (gCons (gVar 3) (gCons (gCallK m_reachable [] 2 0 2 [(2, 1), (2, 0)] (gNil) (gCons (gCB (f1 mTuple) (gCons (gVar 7) (gNil))) (gCons (gVar 4) (gNil)))) (gNil)))) (gCons (gLst (gCons (gVar 2) (gCons (gVar 2) (gNil)))) (gNil)))))) (gRet (gC (.bl false))) (gNext)) (gSeq (gExpr (gBM "list" lApp (gVar 3) (gCons (gC (.str [109, 111, 114, 101])) (gNil)))) (gSeq (gIfS (gOr (gNot (gTru (gCall m_law_same [] 2 (gCons (gLst (gCons (gCall m_reachable [] 2 (gCons (gVar 4) (gCons (gVar 7) (gNil)))) (gCons (gCall m_reachable [] 2 (gCons (gVar 4) (gCons (gLst (gNil)) (gNil)))) (gNil)))) (gCons (gLst (gCons (gVar 2) (gCons (gLst (gNil)) (gNil)))) (gNil)))))) (gB (gBin mNeY (gVar 7) (gVar 5)))) (gRet (gC (.bl false))) (gNext)) (gSeq (gIfS (gNot (gTru (gCall m_law_same [] 2 (gCons (gLst (gCons (gMeth 1 1060688232839255162994 m_Heap_refs [] 1 (gVar 4) gNil) (gCons (gLc (gIter (gCB (f1 mSortedA) (gCons (gVar 6) (gNil)))) (.one 9) (gYes) (gMeth 1 2224424513438957882035929185 m_Heap_atoms [] 2 (gVar 4) (gCons (gVar 9) (gNil))) [9]) (gNil)))) (gCons (gVar 1) (gNil)))))) (gRet (gC (.bl false))) (gNext)) (gRet (gCall m_law_same [] 2 (gCons (gCall m_reachable [] 2 (gCons (gVar 4) (gCons (gMeth 1 1060688232839255162994 m_Heap_refs [] 1 (gVar 4) gNil) (gNil)))) (gCons (gMeth 1 1060688232839255162994 m_Heap_refs [] 1 (gVar 4) gNil) (gNil)))))))))))))
def m_law_right : MF := gBody 10 b_law_right
theorem sc_law_right : FnScope ["_law_box_here", "_law_before", "_law_due", "_law_found", "_law_heap_so", "_law_kept", "_law_known", "_law_roots_so", "_law_turn", "_law_word"] ["_law_box_here"] (defScope s_law_right) :=
  ⟨rfl, rfl, rfl, by decide +kernel, rfl, by decide +kernel, by decide +kernel⟩
theorem fn_law_right (F : W K mg) {fd : FuncData} (D : FunD K d_law_right.name d_law_right.qual d_law_right.params d_law_right.body d_law_right.scope (d_law_right.dvs K) (d_law_right.kws K) (He.fAd K d_law_right.at_) fd) :
    FnG P w K mg base (L2.CX P w) 8 (He.fAd K d_law_right.at_) fd ["_law_box_here"] (spM ⟨K, tN K⟩ 1 m_law_right) :=
  def_MD D sc_law_right b_law_right fun cdv A outer s H E hs hr => by
    have sc := sc_law_right
    exact js_cons (js_asg (je_call (ok_law_world F) hs (hr.mono (by decide)) pass_M (by rfl) (F.glo 60) (ja_cons (je_var (pv 0)) (ja_nil))) (jg_tup (is := [4, 6]) rfl (pgs_more (pg_name (i := 4) sc.nd rfl (Or.inr rfl)) (pgs_more (pg_name (i := 6) sc.nd rfl (Or.inr rfl)) (pgs_names))))) (js_cons (js_setLcA (c := .one 8) (i := 7) [("_law_turn", 8)] rfl rfl rfl rfl sc.nd (sw_true rfl rfl rfl (by decide +kernel)) (ji_range1 (by rfl) (F.free 16) (je_mulA (je_call (ok_law_take F) hs (hr.mono (by decide)) pass_M (by rfl) (F.glo 35) (ja_cons (je_var (pv 0)) (ja_cons (je_int) (ja_nil)))) (je_callT call_int1 mc_int (by rfl) (F.free 4) PyProof.Rows.boot_int (ja_cons (je_neY hr.units (je_var (pv 6)) (je_dic)) (ja_nil))))) (blkOk_by (own := [("_law_turn", 8)]) (N := sl_law_right) (sc := defScope s_law_right) (by decide +kernel)) (fun _ _ _ _ _ => pg_name (i := 8) sc.nd rfl (Or.inl rfl)) (fun _ _ _ _ _ => jts_nil) (fun _ _ _ _ _ => je_call (ok_law_of F) hs (hr.mono (by decide)) pass_E00 (by rfl) (F.glo 44) (ja_cons (je_var (pv 0)) (ja_cons (je_callB (call_sortA rfl) mc_sortedA (by rfl) (F.free 14) (by decide +kernel) (ja_cons (je_var (pv 6)) (ja_nil))) (ja_nil)))) (by decide)) (js_cons (js_par (i := 5) (j := 1) rfl sc.nd rfl rfl (by decide) rfl rfl (ja_cons (je_callT call_list_of mc_list (by rfl) (F.free 1) PyProof.Rows.boot_list (ja_cons (je_var (pv 7)) (ja_nil))) (ja_cons (je_lst (ja_cons (je_meth0 (c := 1) (ok_Heap_refs F) (F.cls 5) (F.meth 53) n_refs hs (hr.mono (by decide)) pass_M (je_var (pv 4))) (ja_cons (je_lcA (c := .one 9) [("_law_word", 9)] rfl rfl sc.nd (ji_seq (je_callB (call_sortA rfl) mc_sortedA (by rfl) (F.free 14) (by decide +kernel) (ja_cons (je_var (pv 6)) (ja_nil)))) (blkOk_by (own := [("_law_word", 9)]) (N := sl_law_right) (sc := defScope s_law_right) (by decide +kernel)) (fun _ _ _ _ _ => pg_name (i := 9) sc.nd rfl (Or.inl rfl)) (fun _ _ _ _ _ => jts_nil) (fun _ _ _ _ _ => je_meth (c := 1) (ok_Heap_atoms F) (F.cls 5) (F.meth 43) n_atoms hs (hr.mono (by decide)) pass_E00 (je_var (pv 4)) (ja_cons (je_var (pv 9)) (ja_nil))) (by decide)) (ja_nil)))) (ja_nil)))) (js_cons (js_set (i := 2) sc.nd rfl (Or.inl rfl) (je_call (ok_law_sorted F) hs (hr.mono (by decide)) pass_M (by rfl) (F.glo 61) (ja_cons (je_call (ok_law_closure F) hs (hr.mono (by decide)) pass_M (by rfl) (F.glo 62) (ja_cons (je_var (pv 6)) (ja_cons (je_var (pv 7)) (ja_nil)))) (ja_nil)))) (js_cons (js_set (i := 3) sc.nd rfl (Or.inl rfl) (je_call (ok_reachable F) hs (hr.mono (by decide)) pass_M (by rfl) (F.glo 63) (ja_cons (je_var (pv 4)) (ja_cons (je_var (pv 7)) (ja_nil))))) (js_cons (js_if (jt_not (jt_tru (je_call (ok_law_same F) hs (hr.mono (by decide)) pass_M (by rfl) (F.glo 64) (ja_cons (je_lst (ja_cons (je_var (pv 3)) (ja_cons (je_callK0 (ok_reachable_k0 F) hs (hr.mono (by decide)) pass_M (by rfl) (F.glo 63) (jk_cons (je_callT call_tuple_of mc_tuple (by rfl) (F.free 24) PyProof.Rows.boot_tuple (ja_cons (je_var (pv 7)) (ja_nil))) (jk_cons (je_var (pv 4)) (jk_nil)))) (ja_nil)))) (ja_cons (je_lst (ja_cons (je_var (pv 2)) (ja_cons (je_var (pv 2)) (ja_nil)))) (ja_nil)))))) (js_one (js_ret (je_bl))) (js_nil)) (js_cons (js_expr (je_bm PySem.F.plainAttrs_list PySem.F.slot_list_append PySem.F.type_list_append mt_append mm_app (je_var (pv 3)) (ja_cons (je_str (l := [109, 111, 114, 101])) (ja_nil)))) (js_cons (js_if (PW.pt (jw_or (jt_not (jt_tru (je_call (ok_law_same F) hs (hr.mono (by decide)) pass_M (by rfl) (F.glo 64) (ja_cons (je_lst (ja_cons (je_call (ok_reachable F) hs (hr.mono (by decide)) pass_M (by rfl) (F.glo 63) (ja_cons (je_var (pv 4)) (ja_cons (je_var (pv 7)) (ja_nil)))) (ja_cons (je_call (ok_reachable F) hs (hr.mono (by decide)) pass_M (by rfl) (F.glo 63) (ja_cons (je_var (pv 4)) (ja_cons (je_lst (ja_nil)) (ja_nil)))) (ja_nil)))) (ja_cons (je_lst (ja_cons (je_var (pv 2)) (ja_cons (je_lst (ja_nil)) (ja_nil)))) (ja_nil)))))) (jw_or1 (jt_neY hr.units (je_var (pv 7)) (je_var (pv 5)))))) (js_one (js_ret (je_bl))) (js_nil)) (js_cons (js_if (jt_not (jt_tru (je_call (ok_law_same F) hs (hr.mono (by decide)) pass_M (by rfl) (F.glo 64) (ja_cons (je_lst (ja_cons (je_meth0 (c := 1) (ok_Heap_refs F) (F.cls 5) (F.meth 53) n_refs hs (hr.mono (by decide)) pass_M (je_var (pv 4))) (ja_cons (je_lcA (c := .one 9) [("_law_word", 9)] rfl rfl sc.nd (ji_seq (je_callB (call_sortA rfl) mc_sortedA (by rfl) (F.free 14) (by decide +kernel) (ja_cons (je_var (pv 6)) (ja_nil)))) (blkOk_by (own := [("_law_word", 9)]) (N := sl_law_right) (sc := defScope s_law_right) (by decide +kernel)) (fun _ _ _ _ _ => pg_name (i := 9) sc.nd rfl (Or.inl rfl)) (fun _ _ _ _ _ => jts_nil) (fun _ _ _ _ _ => je_meth (c := 1) (ok_Heap_atoms F) (F.cls 5) (F.meth 43) n_atoms hs (hr.mono (by decide)) pass_E00 (je_var (pv 4)) (ja_cons (je_var (pv 9)) (ja_nil))) (by decide)) (ja_nil)))) (ja_cons (je_var (pv 1)) (ja_nil)))))) (js_one (js_ret (je_bl))) (js_nil)) (js_one (js_ret (je_call (ok_law_same F) hs (hr.mono (by decide)) pass_M (by rfl) (F.glo 64) (ja_cons (je_call (ok_reachable F) hs (hr.mono (by decide)) pass_M (by rfl) (F.glo 63) (ja_cons (je_var (pv 4)) (ja_cons (je_meth0 (c := 1) (ok_Heap_refs F) (F.cls 5) (F.meth 53) n_refs hs (hr.mono (by decide)) pass_M (je_var (pv 4))) (ja_nil)))) (ja_cons (je_meth0 (c := 1) (ok_Heap_refs F) (F.cls 5) (F.meth 53) n_refs hs (hr.mono (by decide)) pass_M (je_var (pv 4))) (ja_nil))))))))))))))
theorem ok_law_right (F : W K mg) : FM P w K mg base (tN K) 8 (He.fAd K d_law_right.at_) 1 [] m_law_right := by
  obtain ⟨fd, D⟩ := F.c.def_ 33 (d := d_law_right) rfl
  exact FM.of0 (ps := ["_law_box_here"]) D (fn_law_right F D) rfl (fun _ _ _ _ _ _ us hl => match us, hl with | [_], _ => rfl)
abbrev sl_law : List Str := ["_law_script", "_law_box_here", "_law_cells_here", "_law_k", "_law_turn"]
def b_law : MS := gSeq (gAsg (gCall m_law_cells [] 2 (gCons (gVar 0) (gCons (gC (.int 2)) (gNil)))) (tgName 2)) (gSeq (gFor (gRng1 (gCB (f1 mLenV) (gCons (gVar 2) (gNil)))) (tgName 3) (gSeq (gAsg (gCall m_law_box [] 2 (gCons (gVar 2) (gCons (gVar 3) (gNil)))) (tgName 1)) (gIfS (gNot (gTru (gCB (f1 mAll) (gCons (gLc (gRng1 (gC (.int 3))) (.one 4) (gYes) (gCall m_law_right [] 1 (gCons (gVar 1) (gNil))) [4]) (gNil))))) (gRet (gC (.bl false))) (gNext)))) (gRet (gC (.bl true))))
def m_law : MF := gBody 5 b_law
theorem sc_law : FnScope ["_law_script", "_law_box_here", "_law_cells_here", "_law_k", "_law_turn"] ["_law_script"] (defScope s_law) :=
  ⟨rfl, rfl, rfl, by decide +kernel, rfl, by decide +kernel, by decide +kernel⟩
theorem fn_law (F : W K mg) {fd : FuncData} (D : FunD K d_law.name d_law.qual d_law.params d_law.body d_law.scope (d_law.dvs K) (d_law.kws K) (He.fAd K d_law.at_) fd) :
    FnG P w K mg base (L2.CX P w) 9 (He.fAd K d_law.at_) fd ["_law_script"] (spM ⟨K, tN K⟩ 1 m_law) :=
  def_MD D sc_law b_law fun cdv A outer s H E hs hr => by
    have sc := sc_law
    exact js_cons (js_set (i := 2) sc.nd rfl (Or.inl rfl) (je_call (ok_law_cells F) hs (hr.mono (by decide)) pass_M (by rfl) (F.glo 65) (ja_cons (je_var (pv 0)) (ja_cons (je_int) (ja_nil))))) (js_cons (js_for own_M rfl (ji_range1 (by rfl) (F.free 16) (je_callB call_lenM mc_len (by rfl) (F.free 23) PySem.boot_len (ja_cons (je_var (pv 2)) (ja_nil)))) (jg_name (pg_name (i := 3) sc.nd rfl (Or.inl rfl))) (js_cons (js_set (i := 1) sc.nd rfl (Or.inr rfl) (je_call (ok_law_box F) hs (hr.mono (by decide)) pass_M (by rfl) (F.glo 66) (ja_cons (je_var (pv 2)) (ja_cons (je_var (pv 3)) (ja_nil))))) (js_one (js_if (jt_not (jt_tru (je_callB (cr_all rfl) mc_all (by rfl) (F.free 68) (by decide +kernel) (ja_cons (je_lcA (c := .one 4) [("_law_turn", 4)] rfl rfl sc.nd (ji_range1 (by rfl) (F.free 16) (je_int)) (blkOk_by (own := [("_law_turn", 4)]) (N := sl_law) (sc := defScope s_law) (by decide +kernel)) (fun _ _ _ _ _ => pg_name (i := 4) sc.nd rfl (Or.inl rfl)) (fun _ _ _ _ _ => jts_nil) (fun _ _ _ _ _ => je_call (ok_law_right F) hs (hr.mono (by decide)) pass_E00 (by rfl) (F.glo 67) (ja_cons (je_var (pv 1)) (ja_nil))) (by decide)) (ja_nil))))) (js_one (js_ret (je_bl))) (js_nil))))) (js_one (js_ret (je_bl))))
end
end K36
set_option Elab.async false
set_option linter.all false
set_option maxRecDepth 100000
set_option maxHeartbeats 4000000
namespace XG
open MI
open L2 (atI ixN)
def bTake : MS := gSeq (gIfS (gB (gBin mGtI (gBin mIx (gVar 0) (gC (.int 0))) (gC (.int 0)))) (gSeq (gAsg (gBin mMod (gBin mIx (gVar 0) (gC (.int 0))) (gVar 1)) (tgName 3)) (gSeq (gAsg (gBin mDiv (gBin mIx (gVar 0) (gC (.int 0))) (gVar 1)) (tgSub (gVar 0) (gC (.int 0)))) (gRet (gVar 3)))) (gNext)) (gSeq (gPar 5 2 (gCons (gBin mIx (gVar 0) (gC (.int 1))) (gCons (gBin mAdd (gBin mIx (gVar 0) (gC (.int 2))) (gC (.int 1))) (gNil)))) (gSeq (gAsg (gVar 2) (tgSub (gVar 0) (gC (.int 2)))) (gSeq (gAsg (gBin mMod (gBin mMulA (gBin mAdd (gVar 5) (gBin mMulA (gC (.int 48271)) (gVar 2))) (gBin mAdd (gC (.int 39373)) (gVar 2))) (gC (.int 2147483647))) (tgName 4)) (gSeq (gAsg (gBin mMod (gBin mMulA (gBin mAdd (gBin mAdd (gVar 4) (gVar 2)) (gBin mDiv (gVar 5) (gC (.int 1000003)))) (gBin mAdd (gBin mMod (gVar 4) (gC (.int 40009))) (gC (.int 7)))) (gC (.int 2147483629))) (tgName 6)) (gRet (gBin mMod (gBin mDiv (gBin mMod (gBin mAdd (gBin mMulA (gVar 6) (gC (.int 48271))) (gVar 4)) (gC (.int 2147483587))) (gC (.int 64))) (gVar 1)))))))
def mTake : MF := gBody 7 bTake
theorem cm_r {i j : Int} (h : j.natAbs < 18446744073709551616) : cMul i j = true := by
  unfold cMul; simp [h]
theorem cm_l {i j : Int} (h : i.natAbs < 18446744073709551616) : cMul i j = true := by
  unfold cMul; simp [h]
theorem take_pos {h : MH} {i : Nat} {a s f n : Int} (hg : h.get i = some (.lst [.int a, .int s, .int f])) (ha : 0 < a) (hn : 0 < n) (hn2 : n < 1073741824) :
    mTake [.ref i, .int n] h = .ok (.int (a % n)) (h.set i (.lst [.int (a / n), .int s, .int f])) := by
  have x0 : atI [MV.int a, MV.int s, MV.int f] 0 = some (.int a) := rfl
  have x1 : ixN 3 0 = some 0 := rfl
  simp [mTake, bTake, gBody, gSeq, gIfS, gB, gBin, gVar, gC, mIx, isD, hg, mIxS, seqOf, x0, oV, mGtI, mI, Out.bind, Out.bindS, ha, gAsg, tgName, SO.only, SO.next, mMod, mIc, hn, mDiv, hn2, tgSub, putM, x1, gRet]
def onceV (s f : Int) : Int := (s + 48271 * (f + 1)) * (39373 + (f + 1)) % 2147483647
def takeV (s f n : Int) : Int := ((onceV s f + (f + 1) + s / 1000003) * (onceV s f % 40009 + 7) % 2147483629 * 48271 + onceV s f) % 2147483587 / 64 % n
theorem take_neg {h : MH} {i : Nat} {a s f n : Int} (hg : h.get i = some (.lst [.int a, .int s, .int f])) (ha : ¬ 0 < a) (hn : 0 < n) (hf : 0 ≤ f) (hf2 : f < 1000000000000) :
    mTake [.ref i, .int n] h = .ok (.int (takeV s f n)) (h.set i (.lst [.int a, .int s, .int (f + 1)])) := by
  have x0 : atI [MV.int a, MV.int s, MV.int f] 0 = some (.int a) := rfl
  have x1 : atI [MV.int a, MV.int s, MV.int f] 1 = some (.int s) := rfl
  have x2 : atI [MV.int a, MV.int s, MV.int f] 2 = some (.int f) := rfl
  have x3 : ixN 3 2 = some 2 := rfl
  have c1 : cMul 48271 (f + 1) = true := cm_l (by decide)
  have c2 : cMul (s + 48271 * (f + 1)) (39373 + (f + 1)) = true := cm_r (by omega)
  have c3 : ∀ y z : Int, cMul y (z % 40009 + 7) = true := fun y z => cm_r (by omega)
  have c4 : ∀ y : Int, cMul y 48271 = true := fun y => cm_r (by decide)
  simp [mTake, bTake, gBody, gSeq, gIfS, gB, gBin, gVar, gC, mIx, isD, hg, mIxS, seqOf, x0, x1, x2, oV, mGtI, mI, Out.bind, Out.bindS, ha, gAsg, tgName, SO.only, SO.next, mMod, mIc, hn, mDiv, tgSub, putM, x3, gRet, gNext, gPar, gCons, gNil, mAdd, mMulA, isTup, isStr, mMulV, isRep, mMul, c1, c2, c3, c4, takeV, onceV]
def Box (h : MH) (i : Nat) (f : Int) : Prop := ∃ a s e, h.get i = some (.lst [.int a, .int s, .int e]) ∧ 0 ≤ e ∧ e ≤ f
structure Keep (i : Nat) (h h' : MH) : Prop where
  n : h.n ≤ h'.n
  get : ∀ j, j < h.n → j ≠ i → h'.get j = h.get j
theorem Box.le {h : MH} {i : Nat} {f g : Int} (b : Box h i f) (k : f ≤ g) : Box h i g := by
  obtain ⟨a, s, e, h1, h2, h3⟩ := b
  exact ⟨a, s, e, h1, h2, by omega⟩
theorem Box.lt {h : MH} {i : Nat} {f : Int} (b : Box h i f) : i < h.n := by
  obtain ⟨a, s, e, h1, _⟩ := b
  exact MH.get_lt h1
theorem keep_set {h : MH} {i : Nat} {o : MO} (hi : i < h.n) : Keep i h (h.set i o) := ⟨Nat.le_refl _, fun j _ hn => by rw [MH.get_set hi, if_neg hn]⟩
theorem take_ok {h : MH} {i : Nat} {f n : Int} (b : Box h i f) (hn : 0 < n) (hn2 : n < 1073741824) (hf2 : f < 1000000000000) :
    ∃ r h', 0 ≤ r ∧ r < n ∧ mTake [.ref i, .int n] h = .ok (.int r) h' ∧ Box h' i (f + 1) ∧ Keep i h h' ∧ h'.n = h.n := by
  obtain ⟨a, s, e, h1, h2, h3⟩ := b
  have hi := MH.get_lt h1
  by_cases ha : 0 < a
  · exact ⟨a % n, _, Int.emod_nonneg _ (by omega), Int.emod_lt_of_pos _ hn, take_pos h1 ha hn hn2, ⟨a / n, s, e, by rw [MH.get_set hi, if_pos rfl], h2, by omega⟩, keep_set hi, rfl⟩
  · exact ⟨takeV s e n, _, Int.emod_nonneg _ (by omega), Int.emod_lt_of_pos _ hn, take_neg h1 ha hn h2 (by omega), ⟨a, s, e + 1, by rw [MH.get_set hi, if_pos rfl], by omega, by omega⟩, keep_set hi, rfl⟩
def bBox : MS := gSeq (gAsg (gBin mIx (gVar 0) (gVar 1)) (tgName 2)) (gRet (gLst (gCons (gBin mMulA (gCB (f1 mAbs) (gCons (gVar 2) (gNil))) (gCB (f1 mInt) (gCons (gBin mGeI (gCB (f1 mAbs) (gCons (gVar 2) (gNil))) (gBin mPow (gC (.int 10)) (gC (.int 18)))) (gNil)))) (gCons (gBin mAdd (gBin mAdd (gBin mMod (gVar 2) (gC (.int 2305843009213693951))) (gBin mMulA (gC (.int 7919)) (gVar 1))) (gC (.int 61))) (gCons (gC (.int 0)) (gNil))))))
def mBox : MF := gBody 3 bBox
def absV (x : Int) : Int := if x < 0 then -x else x
theorem at_map {cs : List Int} {k : Nat} {x : Int} (hk : cs[k]? = some x) : atI (cs.map MV.int) (k : Int) = some (.int x) := by
  have hl : k < cs.length := (List.getElem?_eq_some_iff.mp hk).1
  unfold atI ixN
  rw [List.length_map, if_pos (by omega), if_pos (by omega)]
  show (cs.map MV.int)[(k : Int).toNat]? = _
  rw [Int.toNat_natCast, List.getElem?_map, hk]; rfl
theorem box_eq {h : MH} {c : Nat} {cs : List Int} {k : Nat} {x : Int} (hg : h.get c = some (.lst (cs.map MV.int))) (hk : cs[k]? = some x) :
    mBox [.ref c, .int k] h = .ok (.ref h.n) (h.push (.lst [.int (absV x * if 1000000000000000000 ≤ absV x then 1 else 0), .int (x % 2305843009213693951 + 7919 * k + 61), .int 0])) := by
  have x0 := at_map hk
  have c1 : ∀ (y z : Int), cMul y (if z ≤ absV x then 1 else 0) = true := fun y z => cm_r (by split <;> decide)
  have c2 : cMul 7919 k = true := cm_l (by decide)
  have p1 : ∀ h, mPow (.int 10) (.int 18) h = .ok (.int 1000000000000000000) h := fun h => rfl
  have a1 : ∀ h, mAbs (.int x) h = .ok (.int (absV x)) h := fun h => rfl
  simp [mBox, bBox, gBody, gSeq, gBin, gVar, gC, mIx, isD, hg, mIxS, seqOf, x0, oV, mI, Out.bind, Out.bindS, gAsg, tgName, SO.only, SO.next, mMod, mIc, gRet, gLst, gCons, gNil, gCB, f1, a1, mInt, mGeI, p1, mAdd, mMulA, isTup, isStr, mMulV, isRep, mMul, c1, c2]
theorem box_ok {h : MH} {c : Nat} {cs : List Int} {k : Nat} {x : Int} (hg : h.get c = some (.lst (cs.map MV.int))) (hk : cs[k]? = some x) :
    ∃ h', mBox [.ref c, .int k] h = .ok (.ref h.n) h' ∧ Box h' h.n 0 ∧ h'.n = h.n + 1 ∧ ∀ j, j < h.n → h'.get j = h.get j :=
  ⟨_, box_eq hg hk, ⟨_, _, 0, by rw [MH.get_push, if_pos rfl], by decide, by decide⟩, rfl, fun j hj => by rw [MH.get_push, if_neg (by omega)]⟩
def bCells : MS := gSeq (gAsg (gOrT (gCB (f1 mList) (gCons (gSl (gVar 0) (gPn) (gPs (gVar 1))) (gNil))) (gLst (gCons (gC (.int 0)) (gNil)))) (tgName 3)) (gSeq (gFor (gEnumA (gSl (gVar 0) (gPs (gVar 1)) (gPs (gC (.int 63))))) (tgTup [4, 2]) (gAsg (gBin mAdd (gBin mIx (gVar 3) (gBin mMod (gVar 4) (gVar 1))) (gBin mMulA (gVar 2) (gBin mAdd (gVar 4) (gC (.int 2))))) (tgSub (gVar 3) (gBin mMod (gVar 4) (gVar 1))))) (gRet (gVar 3)))
def mCells : MF := gBody 5 bCells
theorem cut1 {ns : List Int} {m : Nat} : mcut (ns.map MV.int) none (some (m : Int)) = (ns.take m).map MV.int := by
  unfold mcut
  rw [HT.sIx_none, HT.sIx_nat, List.drop_zero, Nat.sub_zero, List.length_map, List.map_take]
  by_cases h : m ≤ ns.length
  · rw [Nat.min_eq_left h]
  · rw [Nat.min_eq_right (by omega), List.take_of_length_le (by simp), List.take_of_length_le (by simp; omega)]
theorem cut2 {ns : List Int} {m : Nat} : ∃ l2 : List Int, mcut (ns.map MV.int) (some (m : Int)) (some 63) = l2.map MV.int ∧ (l2 ≠ [] → m < ns.length) ∧ l2.length ≤ ns.length := by
  refine ⟨(ns.drop (min m ns.length)).take (min 63 ns.length - min m ns.length), ?_, fun h => ?_, ?_⟩
  · unfold mcut
    have e : HT.sIx (List.map MV.int ns).length (List.map MV.int ns).length (some 63) = min 63 (List.map MV.int ns).length := HT.sIx_nat _ _ 63
    rw [HT.sIx_nat, e, List.length_map, ← List.map_drop, ← List.map_take]
  · rcases Nat.lt_or_ge m ns.length with k | k
    · exact k
    · rw [Nat.min_eq_right k, List.drop_length] at h
      simp at h
  · simp; omega
def bCell1 : MS := gAsg (gBin mAdd (gBin mIx (gVar 3) (gBin mMod (gVar 4) (gVar 1))) (gBin mMulA (gVar 2) (gBin mAdd (gVar 4) (gC (.int 2))))) (tgSub (gVar 3) (gBin mMod (gVar 4) (gVar 1)))
theorem cell1_ok {h : MH} {c k mm : Nat} {A : Option MV} {v : Int} {cs : List Int} (hg : h.get c = some (.lst (cs.map MV.int))) (hm : 0 < mm) (hk : k < 1000) (hj : k % mm < cs.length) :
    ∃ cs' : List Int, cs'.length = cs.length ∧ bCell1 [A, some (.int mm), some (.int v), some (.ref c), some (.int k)] h = .nx [A, some (.int mm), some (.int v), some (.ref c), some (.int k)] (h.set c (.lst (cs'.map MV.int))) := by
  obtain ⟨j, ej⟩ : ∃ j, j = k % mm := ⟨_, rfl⟩
  rw [← ej] at hj
  have e1 : (k : Int) % (mm : Int) = (j : Int) := by rw [ej]; exact (Int.natCast_emod k mm).symm
  obtain ⟨x, hx⟩ : ∃ x, cs[j]? = some x := ⟨cs[j], List.getElem?_eq_getElem hj⟩
  have x0 := at_map hx
  have x1 : ixN cs.length (j : Int) = some j := by
    unfold ixN
    rw [if_pos (by omega), if_pos (by omega)]; rfl
  have m0 : (0 : Int) < (mm : Int) := by omega
  have c1 : cMul v ((k : Int) + 2) = true := cm_r (by omega)
  refine ⟨cs.set j (x + v * (k + 2)), List.length_set, ?_⟩
  rw [List.map_set]
  simp [bCell1, gAsg, gBin, gVar, gC, Out.bind, Out.bindS, mMod, mIc, hm, m0, e1, mIx, isD, hg, mIxS, seqOf, x0, oV, mAdd, mMulA, isTup, isStr, mMulV, isRep, mMul, c1, tgSub, putM, x1, SO.only]
theorem cells_loop {c q mm L : Nat} {l2 : List Int} {A : Option MV} (hcq : q ≠ c) (hm : 0 < mm) (hl : l2.length ≤ 63) (hL : ∀ k, k < l2.length → k % mm < L) : ∀ (n i : Nat) (cs : List Int) (h : MH) (o2 o4 : Option MV), i + n = l2.length + 1 → i ≤ l2.length → cs.length = L →
    h.get c = some (.lst (cs.map MV.int)) → h.get q = some (.lst (l2.map MV.int)) →
    ∃ (cs' : List Int) (h' : MH) (m' : ML), gForN (it1EL q) (tgTup [4, 2]) bCell1 n i [A, some (.int mm), o2, some (.ref c), o4] h = .nx m' h' ∧ cs'.length = L ∧ h'.get c = some (.lst (cs'.map MV.int)) ∧ m'[3]? = some (some (.ref c)) ∧ h'.n = h.n
  | 0, i, cs, h, o2, o4, e, hi, _, _, _ => by omega
  | n + 1, i, cs, h, o2, o4, e, hi, hc, hg, hq => by
    have a0 : (it1EL q).at_ i h = some ((l2.map MV.int)[i]?.map fun x => .tup [.int (i : Nat), x]) := by
      show (match h.get q with
        | some (.lst xs) => some (xs[i]?.map fun x => MV.tup [.int (i : Nat), x])
        | _ => none) = _
      rw [hq]
    unfold gForN
    rw [a0, List.getElem?_map]
    cases k : l2[i]? with
    | none => exact ⟨cs, h, _, rfl, hc, hg, rfl, rfl⟩
    | some v =>
      have hil : i < l2.length := (List.getElem?_eq_some_iff.mp k).1
      obtain ⟨cs', h1, h2⟩ := cell1_ok (A := A) (v := v) (k := i) hg hm (by omega) (by rw [hc]; exact hL i hil)
      have hcl := MH.get_lt hg
      obtain ⟨cs2, h', m', r1, r2, r3, r4, r5⟩ := cells_loop hcq hm hl hL n (i + 1) cs' (h.set c (.lst (cs'.map MV.int))) (some (.int v)) (some (.int (i : Nat))) (by omega) (by omega) (h1.trans hc) (by rw [MH.get_set hcl, if_pos rfl]) (by rw [MH.get_set hcl, if_neg hcq]; exact hq)
      refine ⟨cs2, h', m', ?_, r2, r3, r4, r5⟩
      simp only [Option.map, tgTup, seqOf, List.length_cons, List.length_nil, if_pos, setMany, List.set]
      rw [h2]
      exact r1
theorem cells_ok {ns : List Int} {mm : Nat} (hm : 0 < mm) (hl : ns.length ≤ 63) :
    ∃ (cs : List Int) (c : Nat) (h' : MH), cs.length ≤ 63 + mm ∧ mCells [.fls (ns.map MV.int), .int (mm : Int)] .empty = .ok (.ref c) h' ∧ h'.get c = some (.lst (cs.map MV.int)) := by
  obtain ⟨l2, d1, d2, d3⟩ := cut2 (ns := ns) (m := mm)
  have d0 := cut1 (ns := ns) (m := mm)
  have gp : ∀ (h : MH) (o : MO), (h.push o).get h.n = some o := fun h o => by rw [MH.get_push, if_pos rfl]
  -- behind the first statement the cells stand at c
  have first : ∃ (cs : List Int) (c : Nat) (h1 : MH), cs.length ≤ 63 + mm ∧ (ns.length > mm → cs.length = mm) ∧ h1.get c = some (.lst (cs.map MV.int)) ∧
      (gOrT (gCB (f1 mList) (gCons (gSl (gVar 0) (gPn) (gPs (gVar 1))) (gNil))) (gLst (gCons (gC (.int 0)) (gNil)))) [some (.fls (ns.map MV.int)), some (.int (mm : Int)), none, none, none] .empty = .ok (.ref c) h1 := by
    cases hn : (ns.take mm).map MV.int with
    | nil =>
      have e0 : ns = [] := by
        have : ns.take mm = [] := by simpa using hn
        cases ns with
        | nil => rfl
        | cons a l =>
          cases mm with
          | zero => omega
          | succ m => simp at this
      refine ⟨[0], 2, ((MH.empty.push (.lst [])).push (.lst [])).push (.lst [.int 0]), by simp; omega, fun h => by rw [e0] at h; simp at h, gp _ _, ?_⟩
      simp [gOrT, gCB, f1, gCons, gNil, gSl, gVar, gPn, gPs, gC, gLst, Out.bind, mSl, isL, seqOf, d0, hn, mList, gp, mTru]
      rfl
    | cons a l =>
      refine ⟨ns.take mm, 1, (MH.empty.push (.lst (a :: l))).push (.lst (a :: l)), by simp; omega, fun h => by simp; omega, by rw [hn]; exact gp _ _, ?_⟩
      simp [gOrT, gCB, f1, gCons, gNil, gSl, gVar, gPn, gPs, gC, gLst, Out.bind, mSl, isL, seqOf, d0, hn, mList, gp, mTru]
      rfl
  obtain ⟨cs, c, h1, f1', f2, f3, f4⟩ := first
  have hc := MH.get_lt f3
  have hcq : h1.n ≠ c := by omega
  have hL : ∀ k, k < l2.length → k % mm < cs.length := fun k hk => by
    have hne : l2 ≠ [] := by intro z; rw [z] at hk; simp at hk
    rw [f2 (d2 hne)]
    exact Nat.mod_lt _ hm
  obtain ⟨cs', h', m', r1, r2, r3, r4, r5⟩ := cells_loop (A := some (.fls (ns.map MV.int))) (c := c) (q := h1.n) (mm := mm) hcq hm (by omega) hL (l2.length + 1) 0 cs (h1.push (.lst (l2.map MV.int))) none none (by omega) (Nat.zero_le _) rfl
    (by rw [MH.get_push, if_neg (Ne.symm hcq)]; exact f3) (gp _ _)
  refine ⟨cs', c, h', by omega, ?_, r3⟩
  have sz : (it1EL h1.n).size (h1.push (.lst (l2.map MV.int))) = l2.length := by
    show (match (h1.push (.lst (l2.map MV.int))).get h1.n with
      | some (.lst xs) => xs.length
      | _ => 0) = _
    rw [gp]; simp
  have s1 : (gAsg (gOrT (gCB (f1 mList) (gCons (gSl (gVar 0) (gPn) (gPs (gVar 1))) (gNil))) (gLst (gCons (gC (.int 0)) (gNil)))) (tgName 3)) [some (.fls (ns.map MV.int)), some (.int (mm : Int)), none, none, none] .empty = .nx [some (.fls (ns.map MV.int)), some (.int (mm : Int)), none, some (.ref c), none] h1 := by
    unfold gAsg
    rw [f4]; rfl
  have s2 : (gFor (gEnumA (gSl (gVar 0) (gPs (gVar 1)) (gPs (gC (.int 63))))) (tgTup [4, 2]) bCell1) [some (.fls (ns.map MV.int)), some (.int (mm : Int)), none, some (.ref c), none] h1 = .nx m' h' := by
    have : (gEnumA (gSl (gVar 0) (gPs (gVar 1)) (gPs (gC (.int 63))))) [some (.fls (ns.map MV.int)), some (.int (mm : Int)), none, some (.ref c), none] h1 = .ok (it1EL h1.n) (h1.push (.lst (l2.map MV.int))) := by
      simp [gEnumA, gSl, gVar, gPs, gC, Out.bind, mSl, isL, seqOf, d1, gp]
    unfold gFor
    rw [this]
    show gForN _ _ _ ((it1EL h1.n).size _ + 1) 0 _ _ = _
    rw [sz]
    exact r1
  have : bCells [some (.fls (ns.map MV.int)), some (.int (mm : Int)), none, none, none] .empty = .rt (.ref c) h' := by
    show gSeq _ _ _ _ = _
    unfold gSeq
    rw [s1]
    show ((gFor _ _ bCell1) _ _).next _ = _
    rw [s2]
    simp [SO.next, gRet, gVar, r4, Out.bindS]
  simp [mCells, gBody, this]
end XG
set_option Elab.async false
set_option linter.all false
set_option maxRecDepth 100000
set_option maxHeartbeats 4000000
namespace XG
open MI
def eRight (right : MF) : ME := gCall right [] 1 (gCons (gVar 1) (gNil))
def bLaw1 (T : Int) (right : MF) : MS := gSeq (gAsg (gCall mBox [] 2 (gCons (gVar 2) (gCons (gVar 3) (gNil)))) (tgName 1)) (gIfS (gNot (gTru (gCB (f1 mAll) (gCons (gLc (gRng1 (gC (.int T))) (.one 4) (gYes) (eRight right) [4]) (gNil))))) (gRet (gC (.bl false))) (gNext))
def bLaw (M T : Int) (right : MF) : MS := gSeq (gAsg (gCall mCells [] 2 (gCons (gVar 0) (gCons (gC (.int M)) (gNil)))) (tgName 2)) (gSeq (gFor (gRng1 (gCB (f1 mLenV) (gCons (gVar 2) (gNil)))) (tgName 3) (bLaw1 T right)) (gRet (gC (.bl true))))
def mLaw (M T : Int) (right : MF) : MF := gBody 5 (bLaw M T right)
def Right (right : MF) (C : Nat) : Prop := ∀ (h : MH) (i : Nat) (f : Int), Box h i f → 0 ≤ f → f ≤ 1000000000 → ∃ h', right [.ref i] h = .ok (.bl true) h' ∧ Box h' i (f + C) ∧ Keep i h h'
section
variable {right : MF} {C : Nat}
theorem comp_loop (hR : Right right C) {T b D n0 : Nat} (hC : C * T ≤ 1000000000) (hb : n0 ≤ b) (hD : n0 ≤ D) (hbD : b ≠ D) (hT : T < 1000) {A c k : Option MV} : ∀ (n i : Nat) (h : MH), i + n = T + 1 → i ≤ T → Box h b ((C * i : Nat) : Int) → h.get D = some (.lst (List.replicate i (.bl true))) →
    ∃ h', gLcN (it1R 0 T) (.one 4) gYes (eRight right) D [A, some (.ref b), c, k, none] n i h = .ok (.ref D) h' ∧ h'.get D = some (.lst (List.replicate T (.bl true))) ∧ h.n ≤ h'.n ∧ ∀ j, j < n0 → h'.get j = h.get j
  | 0, i, h, e, hi, _, _ => by omega
  | n + 1, i, h, e, hi, hB, hg => by
    have hDl := MH.get_lt hg
    by_cases hiT : i < T
    · have hCi : C * i ≤ 1000000000 := Nat.le_trans (Nat.mul_le_mul_left C (Nat.le_of_lt hiT)) hC
      obtain ⟨h1, r1, r2, r3⟩ := hR h b _ hB (by omega) (by omega)
      have g1 : h1.get D = some (.lst (List.replicate i (.bl true))) := by rw [r3.get D hDl (Ne.symm hbD)]; exact hg
      have hDl1 := MH.get_lt g1
      have B1 : Box (h1.set D (.lst (List.replicate i (.bl true) ++ [.bl true]))) b ((C * (i + 1) : Nat) : Int) := by
        obtain ⟨a, s, e', q1, q2, q3⟩ := r2
        exact ⟨a, s, e', by rw [MH.get_set hDl1, if_neg hbD]; exact q1, q2, by rw [Nat.mul_add, Nat.mul_one]; omega⟩
      have g2 : (h1.set D (.lst (List.replicate i (.bl true) ++ [.bl true]))).get D = some (.lst (List.replicate (i + 1) (.bl true))) := by
        rw [MH.get_set hDl1, if_pos rfl, List.replicate_succ']
      obtain ⟨h', s1, s2, s3, s4⟩ := comp_loop hR hC hb hD hbD hT (A := A) (c := c) (k := k) n (i + 1) _ (by omega) (by omega) B1 g2
      refine ⟨h', ?_, s2, Nat.le_trans r3.n s3, fun j hj => ?_⟩
      · have a0 : (it1R 0 T).at_ i h = some (some (.int (0 + (i : Nat)))) := by
          show some (if i < T then some (MV.int (0 + (i : Nat))) else none) = _
          rw [if_pos hiT]
        have ev : eRight right [A, some (.ref b), c, k, some (.int (0 + (i : Nat)))] h = .ok (.bl true) h1 := by
          simp [eRight, gCall, gCons, gNil, gVar, Out.bind, r1]
        unfold gLcN
        rw [a0]
        simp only [CT.set, tgName, List.set, gYes]
        rw [ev]
        simp only [g1]
        rw [if_pos (by simp; omega)]
        exact s1
      · rw [s4 j hj, MH.get_set hDl1, if_neg (by omega)]
        exact r3.get j (by have := hB.lt; omega) (by omega)
    · have hiT' : i = T := by omega
      subst hiT'
      refine ⟨h, ?_, hg, Nat.le_refl _, fun _ _ => rfl⟩
      have a0 : (it1R 0 i).at_ i h = some none := by
        show some (if i < i then some (MV.int (0 + (i : Nat))) else none) = _
        rw [if_neg (Nat.lt_irrefl _)]
      unfold gLcN
      rw [a0]
theorem bools_rep : ∀ n : Nat, boolsOf (List.replicate n (.bl true)) = some (List.replicate n true)
  | 0 => rfl
  | n + 1 => by
    rw [List.replicate_succ]
    show (boolsOf (List.replicate n (.bl true))).map (fun l => true :: l) = _
    rw [bools_rep n]; rfl
theorem law1_ok (hR : Right right C) {T : Nat} (hC : C * T ≤ 1000000000) (hT : T < 1000) {A o1 o4 : Option MV} {c k : Nat} {cs : List Int} {h : MH} (hg : h.get c = some (.lst (cs.map MV.int))) (hk : k < cs.length) :
    ∃ h', bLaw1 T right [A, o1, some (.ref c), some (.int (k : Nat)), o4] h = .nx [A, some (.ref h.n), some (.ref c), some (.int (k : Nat)), o4] h' ∧ h'.get c = some (.lst (cs.map MV.int)) ∧ h.n ≤ h'.n := by
  obtain ⟨h1, b1, b2, b3, b4⟩ := box_ok (k := k) (x := cs[k]) hg (List.getElem?_eq_getElem hk)
  have hcl := MH.get_lt hg
  have B0 : Box (h1.push (.lst [])) h.n ((C * 0 : Nat) : Int) := by
    obtain ⟨a, s, e, q1, q2, q3⟩ := b2
    exact ⟨a, s, e, by rw [MH.get_push, if_neg (by omega)]; exact q1, q2, by simpa using q3⟩
  obtain ⟨h2, s1, s2, s3, s4⟩ := comp_loop hR (T := T) (b := h.n) (D := h1.n) (n0 := h.n) hC (Nat.le_refl _) (by omega) (by omega) hT (A := A) (c := some (.ref c)) (k := some (.int (k : Nat))) (T + 1) 0 (h1.push (.lst [])) (by omega) (Nat.zero_le _) B0 (by rw [MH.get_push, if_pos rfl]; rfl)
  have t1 : ((T : Int)).toNat = T := Int.toNat_natCast T
  have ev : gLc (gRng1 (gC (.int (T : Int)))) (.one 4) gYes (eRight right) [4] [A, some (.ref h.n), some (.ref c), some (.int (k : Nat)), o4] h1 = .ok (.ref h1.n) h2 := by
    have : gRng1 (gC (.int (T : Int))) [A, some (.ref h.n), some (.ref c), some (.int (k : Nat)), o4] h1 = .ok (it1R 0 T) h1 := by
      show (if -1000000000 ≤ (T : Int) ∧ (T : Int) ≤ 1000000000 then Out.ok (it1R 0 (T : Int).toNat) h1 else .bad) = _
      rw [if_pos (by omega), t1]
    unfold gLc
    rw [this]
    exact s1
  refine ⟨h2, ?_, ?_, ?_⟩
  · have e1 : (gAsg (gCall mBox [] 2 (gCons (gVar 2) (gCons (gVar 3) (gNil)))) (tgName 1)) [A, o1, some (.ref c), some (.int (k : Nat)), o4] h = .nx [A, some (.ref h.n), some (.ref c), some (.int (k : Nat)), o4] h1 := by
      simp [gAsg, gCall, gCons, gNil, gVar, Out.bind, Out.bindS, b1, tgName, SO.only]
    unfold bLaw1 gSeq
    rw [e1]
    simp [SO.next, gIfS, gNot, gTru, gCB, f1, gCons, gNil, Out.bind, Out.bindS, ev, mAll, s2, bools_rep, mTru, gNext]
  · rw [s4 c hcl, MH.get_push, if_neg (by omega), b4 c hcl]; exact hg
  · exact Nat.le_trans (by show h.n ≤ h1.n + 1; omega) s3
theorem law_loop (hR : Right right C) {T : Nat} (hC : C * T ≤ 1000000000) (hT : T < 1000) {A : Option MV} {c : Nat} {cs : List Int} : ∀ (n i : Nat) (h : MH) (o1 o3 o4 : Option MV), i + n = cs.length + 1 → i ≤ cs.length → h.get c = some (.lst (cs.map MV.int)) →
    ∃ (h' : MH) (m' : ML), gForN (it1R 0 cs.length) (tgName 3) (bLaw1 T right) n i [A, o1, some (.ref c), o3, o4] h = .nx m' h'
  | 0, i, h, o1, o3, o4, e, hi, _ => by omega
  | n + 1, i, h, o1, o3, o4, e, hi, hg => by
    by_cases hil : i < cs.length
    · obtain ⟨h1, r1, r2, r3⟩ := law1_ok hR hC hT (A := A) (o1 := o1) (o4 := o4) (k := i) hg hil
      obtain ⟨h', m', q⟩ := law_loop hR hC hT (A := A) n (i + 1) h1 (some (.ref h.n)) (some (.int (i : Nat))) o4 (by omega) (by omega) r2
      refine ⟨h', m', ?_⟩
      have a0 : (it1R 0 cs.length).at_ i h = some (some (.int (i : Nat))) := by
        show some (if i < cs.length then some (MV.int (0 + (i : Nat))) else none) = _
        rw [if_pos hil, Int.zero_add]
      unfold gForN
      rw [a0]
      simp only [tgName, List.set]
      rw [r1]
      exact q
    · have : i = cs.length := by omega
      subst this
      refine ⟨h, [A, o1, some (.ref c), o3, o4], ?_⟩
      have a0 : (it1R 0 cs.length).at_ cs.length h = some none := by
        show some (if cs.length < cs.length then some (MV.int (0 + (cs.length : Nat))) else none) = _
        rw [if_neg (Nat.lt_irrefl _)]
      unfold gForN
      rw [a0]
theorem law_gen (hR : Right right C) {M T : Nat} (hM : 0 < M) (hM2 : M ≤ 1000) (hC : C * T ≤ 1000000000) (hT : T < 1000) {ns : List Int} (hl : ns.length ≤ 63) : ∃ h', mLaw M T right [.fls (ns.map MV.int)] .empty = .ok (.bl true) h' := by
  obtain ⟨cs, c, h1, k1, k2, k3⟩ := cells_ok (ns := ns) hM hl
  obtain ⟨h2, m2, q⟩ := law_loop hR hC hT (A := some (.fls (ns.map MV.int))) (c := c) (cs := cs) (cs.length + 1) 0 h1 none none none (by omega) (Nat.zero_le _) k3
  have e1 : (gAsg (gCall mCells [] 2 (gCons (gVar 0) (gCons (gC (.int M)) (gNil)))) (tgName 2)) [some (.fls (ns.map MV.int)), none, none, none, none] .empty = .nx [some (.fls (ns.map MV.int)), none, some (.ref c), none, none] h1 := by
    simp [gAsg, gCall, gCons, gNil, gVar, gC, Out.bind, Out.bindS, k2, tgName, SO.only]
  have e2 : (gFor (gRng1 (gCB (f1 mLenV) (gCons (gVar 2) (gNil)))) (tgName 3) (bLaw1 T right)) [some (.fls (ns.map MV.int)), none, some (.ref c), none, none] h1 = .nx m2 h2 := by
    have : (gRng1 (gCB (f1 mLenV) (gCons (gVar 2) (gNil)))) [some (.fls (ns.map MV.int)), none, some (.ref c), none, none] h1 = .ok (it1R 0 cs.length) h1 := by
      simp [gRng1, gCB, f1, gCons, gNil, gVar, Out.bind, mLenV, mLen, k3]
      omega
    unfold gFor
    rw [this]
    exact q
  refine ⟨h2, ?_⟩
  have : bLaw M T right [some (.fls (ns.map MV.int)), none, none, none, none] .empty = .rt (.bl true) h2 := by
    unfold bLaw gSeq
    rw [e1]
    show ((gFor _ _ (bLaw1 T right)) _ _).next _ = _
    rw [e2]
    rfl
  simp [mLaw, gBody, this]
end
end XG
set_option Elab.async false
set_option linter.all false
set_option maxRecDepth 100000
set_option maxHeartbeats 4000000
namespace XM
open MI XG
open L2 (atI ixN)
structure Up (h h' : MH) : Prop where
  n : h.n ≤ h'.n
  get : ∀ j, j < h.n → h'.get j = h.get j
theorem Up.refl {h : MH} : Up h h := ⟨Nat.le_refl _, fun _ _ => rfl⟩
theorem Up.trans {h h1 h2 : MH} (a : Up h h1) (b : Up h1 h2) : Up h h2 := ⟨Nat.le_trans a.n b.n, fun j hj => (b.get j (Nat.lt_of_lt_of_le hj a.n)).trans (a.get j hj)⟩
theorem get_top {h : MH} {o : MO} : (h.push o).get h.n = some o := by rw [MH.get_push, if_pos rfl]
theorem Up.push {h : MH} {o : MO} : Up h (h.push o) := ⟨Nat.le_succ _, fun j hj => by rw [MH.get_push, if_neg (by omega)]⟩
theorem Up.at {h h' : MH} (u : Up h h') {i : Nat} {o : MO} (e : h.get i = some o) : h'.get i = some o := (u.get i (MH.get_lt e)).trans e
structure Kp (F : List Nat) (h h' : MH) : Prop where
  n : h.n ≤ h'.n
  get : ∀ j, j < h.n → j ∉ F → h'.get j = h.get j
theorem Kp.refl {F : List Nat} {h : MH} : Kp F h h := ⟨Nat.le_refl _, fun _ _ _ => rfl⟩
theorem Kp.trans {F : List Nat} {h h1 h2 : MH} (a : Kp F h h1) (b : Kp F h1 h2) : Kp F h h2 := ⟨Nat.le_trans a.n b.n, fun j hj hf => (b.get j (Nat.lt_of_lt_of_le hj a.n) hf).trans (a.get j hj hf)⟩
theorem Up.kp {F : List Nat} {h h' : MH} (u : Up h h') : Kp F h h' := ⟨u.n, fun j hj _ => u.get j hj⟩
theorem Kp.le {F G : List Nat} {h h' : MH} (k : Kp F h h') (s : ∀ j ∈ F, j < h.n → j ∈ G) : Kp G h h' := ⟨k.n, fun j hj hf => k.get j hj fun z => hf (s j z hj)⟩
theorem Kp.set {F : List Nat} {h : MH} {i : Nat} {o : MO} (hi : i < h.n) (m : i ∈ F) : Kp F h (h.set i o) := ⟨Nat.le_refl _, fun j _ hf => by rw [MH.get_set hi, if_neg (fun z => hf (by rw [z]; exact m))]⟩
theorem Kp.at {F : List Nat} {h h' : MH} (k : Kp F h h') {i : Nat} {o : MO} (e : h.get i = some o) (f : i ∉ F) : h'.get i = some o := (k.get i (MH.get_lt e) f).trans e
theorem set_get {h : MH} {i : Nat} {o o' : MO} (e : h.get i = some o') : (h.set i o).get i = some o := by rw [MH.get_set (MH.get_lt e), if_pos rfl]
theorem set_ne {h : MH} {i j : Nat} {o o' : MO} (e : h.get i = some o') (n : j ≠ i) : (h.set i o).get j = h.get j := by rw [MH.get_set (MH.get_lt e), if_neg n]
inductive Sq (h : MH) : MV → List MV → Prop where
  | tup (xs : List MV) : Sq h (.tup xs) xs
  | ref {q : Nat} {xs : List MV} (e : h.get q = some (.lst xs)) : Sq h (.ref q) xs
theorem Sq.up {h h' : MH} {v : MV} {xs : List MV} (s : Sq h v xs) (u : Up h h') : Sq h' v xs := by
  cases s with
  | tup => exact .tup _
  | ref e => exact .ref (u.at e)
theorem Sq.len {h : MH} {v : MV} {xs : List MV} (s : Sq h v xs) : mLenV v h = .ok (.int xs.length) h := by
  cases s with
  | tup => rfl
  | ref e => simp [mLenV, mLen, e]
theorem at_nat {α : Type} {xs : List α} {k : Nat} {x : α} (e : xs[k]? = some x) : atI xs (k : Int) = some x := by
  have hl : k < xs.length := (List.getElem?_eq_some_iff.mp e).1
  unfold atI ixN
  rw [if_pos (by omega), if_pos (by omega)]
  show xs[(k : Int).toNat]? = _
  rw [Int.toNat_natCast, e]
theorem Sq.ix {h : MH} {v : MV} {xs : List MV} {k : Nat} {x : MV} (s : Sq h v xs) (e : xs[k]? = some x) : mIx v (.int (k : Int)) h = .ok x h := by
  have a := at_nat e
  cases s with
  | tup => simp [mIx, isD, mIxS, seqOf, a, oV]
  | ref q => simp [mIx, isD, q, mIxS, seqOf, a, oV]
theorem cutT {xs : List MV} {m : Nat} (hm : m ≤ xs.length) : mcut xs none (some (m : Int)) = xs.take m := by
  unfold mcut
  rw [HT.sIx_none, HT.sIx_nat, List.drop_zero, Nat.sub_zero, Nat.min_eq_left hm]
theorem Sq.sl {h : MH} {v : MV} {xs : List MV} {m : Nat} (s : Sq h v xs) (hm : m ≤ xs.length) : ∃ v' h', mSl v none (some (m : Int)) h = .ok v' h' ∧ Up h h' ∧ Sq h' v' (xs.take m) := by
  cases s with
  | tup => exact ⟨_, h, by simp [mSl, cutT hm], .refl, .tup _⟩
  | ref e => exact ⟨_, _, by simp [mSl, isL, seqOf, e, cutT hm], Up.push, .ref get_top⟩
theorem Sq.tuple {h : MH} {v : MV} {xs : List MV} (s : Sq h v xs) : mTuple v h = .ok (.tup xs) h := by
  cases s with
  | tup => rfl
  | ref e => simp [mTuple, seqOf, e]
def tl (xs : List MV) : Nat → Nat
  | 0 => 0
  | n + 1 => match xs[n]? with
    | some x => if mIsN x = true then tl xs n else n + 1
    | none => tl xs n
theorem tl_le (xs : List MV) : ∀ n, tl xs n ≤ n
  | 0 => Nat.le_refl _
  | n + 1 => by
    have := tl_le xs n
    unfold tl
    split
    · split <;> omega
    · omega
def trim (xs : List MV) : List MV := xs.take (tl xs xs.length)
def cWE : MT := gAnd (gB (gBin mGtI (gVar 1) (gC (.int 0)))) (gB (gIsN (gBin mIx (gVar 0) (gBin mSub (gVar 1) (gC (.int 1))))))
theorem cWE0 {h : MH} {v : MV} : cWE [some v, some (.int ((0 : Nat) : Int))] h = .ok false h := by
  simp [cWE, gAnd, gB, gBin, gVar, gC, mGtI, mI, Out.bind]
theorem cWE1 {h : MH} {v : MV} {xs : List MV} {k : Nat} {x : MV} (s : Sq h v xs) (e : xs[k]? = some x) : cWE [some v, some (.int ((k + 1 : Nat) : Int))] h = .ok (mIsN x) h := by
  have a := s.ix e
  have b : ((k + 1 : Nat) : Int) - 1 = (k : Int) := by omega
  have c : (0 : Int) < ((k + 1 : Nat) : Int) := by omega
  simp only [cWE, gAnd, gB, gBin, gVar, gC, mGtI, mI, Out.bind, gIsN, gUn, mSub, b, a, List.getElem?_cons_succ, List.getElem?_cons_zero, decide_eq_true c, if_pos]
theorem while_ok {h : MH} {v : MV} {xs : List MV} {b : MS} (s : Sq h v xs) (hb : ∀ k : Nat, b [some v, some (.int ((k + 1 : Nat) : Int))] h = .nx [some v, some (.int (k : Int))] h) : ∀ (n f : Nat), n < f → n ≤ xs.length →
    gWhile cWE b f [some v, some (.int (n : Int))] h = .nx [some v, some (.int (tl xs n : Nat))] h
  | 0, f + 1, _, _ => by
    unfold gWhile
    rw [cWE0]; rfl
  | n + 1, f + 1, hf, hn => by
    obtain ⟨x, hx⟩ : ∃ x, xs[n]? = some x := ⟨xs[n], List.getElem?_eq_getElem (by omega)⟩
    unfold gWhile
    rw [cWE1 s hx]
    unfold tl
    rw [hx]
    simp only [Out.bindS]
    cases hN : mIsN x with
    | true =>
      simp only [if_pos, hb n]
      exact while_ok s hb n f (by omega) (by omega)
    | false => rfl
  | _, 0, hf, _ => by omega
def bWE (B : MS) : MS := gSeq (gAsg (gCB (f1 mLenV) (gCons (gVar 0) (gNil))) (tgName 1)) (gSeq (gWhile cWE B 100000) (gRet (gCB (f1 mTuple) (gCons (gSl (gVar 0) (gPn) (gPs (gVar 1))) (gNil)))))
theorem bWE_ok {h : MH} {v : MV} {xs : List MV} {B : MS} (s : Sq h v xs) (hl : xs.length < 100000) (hb : ∀ k : Nat, B [some v, some (.int ((k + 1 : Nat) : Int))] h = .nx [some v, some (.int (k : Int))] h) :
    ∃ h', gBody 2 (bWE B) [v] h = .ok (.tup (trim xs)) h' ∧ Up h h' := by
  have hw := while_ok s hb xs.length 100000 hl (Nat.le_refl _)
  obtain ⟨v', h', a, u, s'⟩ := s.sl (tl_le xs xs.length)
  refine ⟨h', ?_, u⟩
  have l := s.len
  simp only [gBody, bWE, gSeq, gAsg, gCB, f1, gCons, gNil, gVar, Out.bind, Out.bindS, List.map, List.length_cons, List.length_nil, List.replicate, List.cons_append, List.nil_append, List.append_nil, List.getElem?_cons_zero, l, tgName, SO.only, SO.next, List.set, hw, gRet, gSl, gPn, gPs, List.getElem?_cons_succ]
  simp only [a, s'.tuple]
  rfl
def mWE : MF := gBody 2 (bWE (gAug 1 (fun i j => i - j) (gC (.int 1))))
theorem we_ok {h : MH} {v : MV} {xs : List MV} (s : Sq h v xs) (hl : xs.length < 100000) : ∃ h', mWE [v] h = .ok (.tup (trim xs)) h' ∧ Up h h' :=
  bWE_ok s hl fun k => by
    have b : ((k : Int) + 1) - 1 = (k : Int) := by omega
    simp [gAug, gC, Out.bindS, b]
theorem tl_zero (xs : List MV) : ∀ n, n ≤ xs.length → (tl xs n = 0 ↔ ∀ k, k < n → xs[k]? = some .non)
  | 0, _ => by simp [tl]
  | n + 1, hn => by
    obtain ⟨x, hx⟩ : ∃ x, xs[n]? = some x := ⟨xs[n], List.getElem?_eq_getElem (by omega)⟩
    have ih := tl_zero xs n (by omega)
    unfold tl
    rw [hx]
    dsimp only
    by_cases c : mIsN x = true
    · rw [if_pos c, ih]
      have ex : x = .non := by cases x <;> first | rfl | cases c
      subst ex
      constructor
      · intro h k hk
        by_cases e : k = n
        · rw [e, hx]
        · exact h k (by omega)
      · intro h k hk
        exact h k (by omega)
    · rw [if_neg c]
      constructor
      · intro h; omega
      · intro h
        have := h n (by omega)
        rw [hx] at this
        cases this
        exact absurd rfl c
theorem trim_nil {xs : List MV} : trim xs = [] ↔ ∀ x ∈ xs, x = .non := by
  have a := tl_zero xs xs.length (Nat.le_refl _)
  have b := tl_le xs xs.length
  unfold trim
  rw [List.take_eq_nil_iff]
  constructor
  · intro h x hx
    obtain ⟨k, hk, rfl⟩ := List.getElem_of_mem hx
    rcases h with h | h
    · have := a.mp h k hk
      rw [List.getElem?_eq_getElem hk] at this
      exact Option.some.inj this
    · rw [h] at hk; simp at hk
  · intro h
    left
    refine a.mpr fun k hk => ?_
    rw [List.getElem?_eq_getElem hk, h _ (List.getElem_mem hk)]
end XM
set_option Elab.async false
set_option linter.all false
set_option maxRecDepth 100000
set_option maxHeartbeats 4000000
namespace XM
open MI XG
open L2 (atI ixN)
abbrev fR : Nat := 2224424605672678250579492959
abbrev fB : Nat := 1953625185185451595341496415
abbrev fK : Nat := 2243767354222864078911570015
abbrev fM : Nat := 94941204903626959178789249757594317142006096203679912689759
abbrev fP : Nat := 2224424578002588528290037855
abbrev nGet : Nat := 510173607100519
abbrev nPage : Nat := 931561028721326424176
abbrev nKeep : Nat := 2166396000310435406327840863
abbrev nPut : Nat := 510173640654960
def mInit (C : Nat) : MF := gBody 4 (gSeq (gFldS [C] fR (gDic) (gVar 0)) (gSeq (gFor (gEnumA (gVar 1)) (tgTup [2, 3]) (gIfS (gTru (gCall mWE [] 1 (gCons (gVar 3) (gNil)))) (gAsg (gBin mAdd (gCB (f1 mList) (gCons (gVar 3) (gNil))) (gBin mMulA (gLst (gCons (gC .non) (gNil))) (gBin mSub (gC (.int 8)) (gCB (f1 mLenV) (gCons (gVar 3) (gNil)))))) (tgSub (gFld [C] fR (gVar 0)) (gVar 2))) (gNext))) (gSeq (gFldS [C] fB (gDic) (gVar 0)) (gSeq (gFldS [C] fK (gC .non) (gVar 0)) (gSeq (gFldS [C] fM (gC (.int 0)) (gVar 0)) (gFldS [C] fP (gC (.int 0)) (gVar 0)))))))
def mPage (C : Nat) : MF := gBody 2 (gRet (gCall mWE [] 1 (gCons (gDget2 (gFld [C] fR (gVar 0)) (gVar 1) (gLst (gNil))) (gNil))))
def mKeep (C : Nat) : MF := gBody 2 (gSeq (gIfS (gB (gBin (mIn fun b => !b) (gVar 1) (gFld [C] fB (gVar 0)))) (gAsg (gMeth C nPage (mPage C) [] 2 (gVar 0) (gCons (gVar 1) (gNil))) (tgSub (gFld [C] fB (gVar 0)) (gVar 1))) (gNext)) (gIfS (gAnd (gB (gNotN (gFld [C] fK (gVar 0)))) (gB (gBin (mIn fun b => !b) (gVar 1) (gFld [C] fK (gVar 0))))) (gAsg (gMeth C nPage (mPage C) [] 2 (gVar 0) (gCons (gVar 1) (gNil))) (tgSub (gFld [C] fK (gVar 0)) (gVar 1))) (gNext)))
def mGet (C : Nat) : MF := gBody 2 (gSeq (gIfS (gB (gBin (mIn fun b => !b) (gBin mDiv (gVar 1) (gC (.int 8))) (gFld [C] fR (gVar 0)))) (gRet (gC .non)) (gNext)) (gRet (gBin mIx (gBin mIx (gFld [C] fR (gVar 0)) (gBin mDiv (gVar 1) (gC (.int 8)))) (gBin mMod (gVar 1) (gC (.int 8))))))
def atB : MV → Bool
  | .non => true
  | .int i => decide (i.natAbs < 100000000000000000000000000000000000000000000000000)
  | .str s => decide (s.length ≤ 20) && s.all fun c => decide (c < 1114112)
  | _ => false
theorem at_eq {x y : MV} (a : atB x = true) (b : atB y = true) : ∃ c, mEq x y = some c ∧ (c = true ↔ x = y) := by
  cases x <;> cases y <;> first
    | (cases a; done)
    | (cases b; done)
    | exact ⟨true, rfl, by simp⟩
    | exact ⟨false, rfl, by simp⟩
    | exact ⟨_, rfl, by simp [leq_iff]⟩
theorem at_row {x : MV} (a : atB x = true) : isRow x = false := by cases x <;> first | rfl | cases a
abbrev Rows := List (Int × Nat × List MV)
def look : Rows → Int → Option (Nat × List MV)
  | [], _ => none
  | p :: r, n => if p.1 = n then some p.2 else look r n
def rKv (R : Rows) : List (MK × MV) := R.map fun p => (.inl p.1, .ref p.2.1)
theorem keq_int {a b : Int} : keq (.inl a) (.inl b) = decide (a = b) := rfl
theorem dval_rKv (n : Int) : ∀ R : Rows, dval keq (rKv R) (.inl n) = (look R n).map fun q => .ref q.1
  | [] => rfl
  | p :: r => by
    show (if keq (.inl p.1) (.inl n) = true then some (MV.ref p.2.1) else dval keq (rKv r) (.inl n)) = _
    unfold look
    rw [keq_int, dval_rKv n r]
    by_cases c : p.1 = n
    · rw [if_pos (decide_eq_true c), if_pos c]; rfl
    · rw [if_neg (by simpa using c), if_neg c]
theorem look_mem {n : Int} {q : Nat × List MV} : ∀ {R : Rows}, look R n = some q → (n, q) ∈ R
  | p :: r, h => by
    unfold look at h
    by_cases c : p.1 = n
    · rw [if_pos c] at h
      cases h
      rw [← c]; exact List.mem_cons_self
    · rw [if_neg c] at h
      exact List.mem_cons_of_mem _ (look_mem h)
def cellOf (xs : List MV) (c : Int) : MV := (xs[(c % 8).toNat]?).getD .non
def rget (R : Rows) (c : Int) : MV := match look R (c / 8) with
  | some q => cellOf q.2 c
  | none => .non
def pageOf (R : Rows) (n : Int) : List MV := match look R n with
  | some q => trim q.2
  | none => []
abbrev fp (s r b : Nat) (R : Rows) : List Nat := s :: r :: b :: R.map fun p => p.2.1
section
variable {C : Nat} {h : MH} {s r b L : Nat} {R : Rows}
end
end XM
set_option Elab.async false
set_option linter.all false
set_option maxRecDepth 100000
set_option maxHeartbeats 4000000
namespace XM
open MI XG
open L2 (atI ixN)
theorem seq_nx {a b : MS} {m m' : ML} {h h' : MH} (e : a m h = .nx m' h') : gSeq a b m h = b m' h' := by unfold gSeq; rw [e]; rfl
theorem seq_rt {a b : MS} {m : ML} {v : MV} {h h' : MH} (e : a m h = .rt v h') : gSeq a b m h = .rt v h' := by unfold gSeq; rw [e]; rfl
theorem body_rt {N : Nat} {b : MS} {as : List MV} {v : MV} {h h' : MH} (e : b (as.map some ++ List.replicate (N - as.length) none) h = .rt v h') : gBody N b as h = .ok v h' := by unfold gBody; rw [e]
theorem body_nx {N : Nat} {b : MS} {as : List MV} {m : ML} {h h' : MH} (e : b (as.map some ++ List.replicate (N - as.length) none) h = .nx m h') : gBody N b as h = .ok .non h' := by unfold gBody; rw [e]
theorem ifS_t {c : MT} {a b : MS} {m : ML} {h h1 : MH} (e : c m h = .ok true h1) : gIfS c a b m h = a m h1 := by unfold gIfS; rw [e]; rfl
theorem ifS_f {c : MT} {a b : MS} {m : ML} {h h1 : MH} (e : c m h = .ok false h1) : gIfS c a b m h = b m h1 := by unfold gIfS; rw [e]; rfl
theorem asg_nx {a : ME} {i : Nat} {m : ML} {v : MV} {h h' : MH} (e : a m h = .ok v h') : gAsg a (tgName i) m h = .nx (m.set i (some v)) h' := by unfold gAsg; rw [e]; rfl
theorem expr_nx {a : ME} {m : ML} {v : MV} {h h' : MH} (e : a m h = .ok v h') : gExpr a m h = .nx m h' := by unfold gExpr; rw [e]; rfl
theorem var_at {i : Nat} {m : ML} {v : MV} {h : MH} (e : m[i]? = some (some v)) : gVar i m h = .ok v h := by unfold gVar; rw [e]
theorem meth1 {c f n : Nat} {g : MF} {o a : ME} {m : ML} {h h1 h2 : MH} {i : Nat} {fs : List (Nat × MV)} {x : MV} (eo : o m h = .ok (.ref i) h1) (hi : h1.get i = some (.ins c fs)) (l : fs.lookup f = none) (ea : a m h1 = .ok x h2) (hn : n = 2) : gMeth c f g [] n o (gCons a gNil) m h = g [.ref i, x] h2 := by
  subst hn
  simp [gMeth, eo, Out.bind, hi, l, gCons, gNil, ea]
theorem meth0 {c f n : Nat} {g : MF} {o : ME} {m : ML} {h h1 : MH} {i : Nat} {fs : List (Nat × MV)} (eo : o m h = .ok (.ref i) h1) (hi : h1.get i = some (.ins c fs)) (l : fs.lookup f = none) (hn : n = 1) : gMeth c f g [] n o gNil m h = g [.ref i] h1 := by
  subst hn
  simp [gMeth, eo, Out.bind, hi, l, gNil]
theorem call1 {n : Nat} {g : MF} {a : ME} {m : ML} {h h2 : MH} {x : MV} (ea : a m h = .ok x h2) (hn : n = 1) : gCall g [] n (gCons a gNil) m h = g [x] h2 := by
  subst hn
  simp [gCall, Out.bind, gCons, gNil, ea]
theorem call2 {n : Nat} {g : MF} {a b : ME} {m : ML} {h h1 h2 : MH} {x y : MV} (ea : a m h = .ok x h1) (eb : b m h1 = .ok y h2) (hn : n = 2) : gCall g [] n (gCons a (gCons b gNil)) m h = g [x, y] h2 := by
  subst hn
  simp [gCall, Out.bind, gCons, gNil, ea, eb]
def iKv (B : List (Int × MV)) : List (MK × MV) := B.map fun p => (.inl p.1, p.2)
def kfind : List (Int × MV) → Int → Option MV
  | [], _ => none
  | p :: r, n => if p.1 = n then some p.2 else kfind r n
theorem dval_iKv (n : Int) : ∀ B : List (Int × MV), dval keq (iKv B) (.inl n) = kfind B n
  | [] => rfl
  | p :: r => by
    show (if keq (.inl p.1) (.inl n) = true then some p.2 else dval keq (iKv r) (.inl n)) = _
    unfold kfind
    rw [keq_int, dval_iKv n r]
    by_cases c : p.1 = n
    · rw [if_pos (decide_eq_true c), if_pos c]
    · rw [if_neg (by simpa using c), if_neg c]
theorem dhas_dval {n : MK} : ∀ kvs : List (MK × MV), dhas keq kvs n = (dval keq kvs n).isSome
  | [] => rfl
  | p :: r => by
    obtain ⟨g, x⟩ := p
    show (if keq g n = true then true else dhas keq r n) = (if keq g n = true then some x else dval keq r n).isSome
    rw [dhas_dval r]
    split <;> rfl
theorem dput_new {kvs : List (MK × MV)} {n : MK} {v : MV} (e : dval keq kvs n = none) : dput keq kvs n v = kvs ++ [(n, v)] := by
  unfold dput
  rw [dhas_dval, e]; rfl
section
variable {C : Nat} {h : MH} {s r b L : Nat} {R : Rows}
end
end XM
set_option Elab.async false
set_option linter.all false
set_option maxRecDepth 100000
set_option maxHeartbeats 4000000
namespace XM
open MI XG
open L2 (atI ixN)
theorem inj_map {α β : Type} {f : α → β} : ∀ {l : List α}, (l.map f).Nodup → ∀ {x y : α}, x ∈ l → y ∈ l → f x = f y → x = y
  | a :: l, nd, x, y, hx, hy, e => by
    rw [List.map_cons, List.nodup_cons] at nd
    rcases List.mem_cons.mp hx with k1 | k1
    · rcases List.mem_cons.mp hy with k2 | k2
      · rw [k1, k2]
      · exact (nd.1 (List.mem_map.mpr ⟨y, k2, by rw [← e, k1]⟩)).elim
    · rcases List.mem_cons.mp hy with k2 | k2
      · exact (nd.1 (List.mem_map.mpr ⟨x, k1, by rw [e, k2]⟩)).elim
      · exact inj_map nd.2 k1 k2 e
theorem look_none {n : Int} : ∀ {R : Rows}, look R n = none → n ∉ R.map fun p => p.1
  | [], _ => by simp
  | p :: r, h => by
    unfold look at h
    by_cases c : p.1 = n
    · rw [if_pos c] at h; cases h
    · rw [if_neg c] at h
      have := look_none h
      simp only [List.map_cons, List.mem_cons, not_or]
      exact ⟨Ne.symm c, this⟩
theorem look_of_mem {R : Rows} {p : Int × Nat × List MV} (nd : (R.map fun p => p.1).Nodup) (hp : p ∈ R) : look R p.1 = some p.2 := by
  cases k : look R p.1 with
  | none => exact absurd (List.mem_map.mpr ⟨p, hp, rfl⟩) (look_none k)
  | some q => rw [inj_map nd hp (look_mem k) rfl]
def setc (n : Int) (xs : List MV) (R : Rows) : Rows := R.map fun p => if p.1 = n then (p.1, p.2.1, xs) else p
theorem setc_refs {n : Int} {xs : List MV} {R : Rows} : (setc n xs R).map (fun p => p.2.1) = R.map fun p => p.2.1 := by
  unfold setc
  rw [List.map_map]
  refine List.map_congr_left fun p _ => ?_
  simp only [Function.comp]
  split <;> rfl
theorem setc_keys {n : Int} {xs : List MV} {R : Rows} : (setc n xs R).map (fun p => p.1) = R.map fun p => p.1 := by
  unfold setc
  rw [List.map_map]
  refine List.map_congr_left fun p _ => ?_
  simp only [Function.comp]
  split <;> rfl
theorem setc_kv {n : Int} {xs : List MV} {R : Rows} : rKv (setc n xs R) = rKv R := by
  unfold rKv setc
  rw [List.map_map]
  refine List.map_congr_left fun p _ => ?_
  simp only [Function.comp]
  split <;> rfl
theorem look_setc {n : Int} {xs : List MV} (m : Int) : ∀ R : Rows, look (setc n xs R) m = if m = n then (look R n).map (fun q => (q.1, xs)) else look R m
  | [] => by simp [setc, look]
  | p :: r => by
    have ih := look_setc (n := n) (xs := xs) m r
    show look ((if p.1 = n then (p.1, p.2.1, xs) else p) :: setc n xs r) m = _
    unfold look
    by_cases c : p.1 = n
    · rw [if_pos c, if_pos c]
      dsimp only
      by_cases d : m = n
      · subst d
        rw [if_pos c, if_pos rfl]; rfl
      · rw [if_neg d, if_neg (fun z => d (by rw [← z, c])), if_neg (fun z => d (by rw [← z, c])), ih, if_neg d]
    · rw [if_neg c, if_neg c]
      by_cases d : m = n
      · subst d
        rw [if_neg c, if_pos rfl, ih, if_pos rfl]
      · rw [if_neg d]
        by_cases e : p.1 = m
        · rw [if_pos e, if_pos e]
        · rw [if_neg e, if_neg e, ih, if_neg d]
theorem look_snoc {n : Int} {z : Nat × List MV} (m : Int) : ∀ R : Rows, look (R ++ [(n, z)]) m = match look R m with
    | some y => some y
    | none => if n = m then some z else none
  | [] => rfl
  | p :: r => by
    have ih := look_snoc (n := n) (z := z) m r
    show look (p :: (r ++ [(n, z)])) m = _
    unfold look
    by_cases c : p.1 = m
    · rw [if_pos c, if_pos c]
    · rw [if_neg c, if_neg c]; exact ih
def drp (n : Int) (R : Rows) : Rows := R.filter fun p => !decide (p.1 = n)
theorem look_drp {n : Int} (m : Int) : ∀ R : Rows, look (drp n R) m = if m = n then none else look R m
  | [] => by simp [drp, look]
  | p :: r => by
    have ih := look_drp (n := n) m r
    unfold drp
    rw [List.filter_cons]
    by_cases c : p.1 = n
    · rw [if_neg (by simpa using c)]
      refine ih.trans ?_
      by_cases d : m = n
      · rw [if_pos d, if_pos d]
      · rw [if_neg d, if_neg d]
        show _ = look (p :: r) m
        unfold look
        rw [if_neg (fun z => d (by rw [← z, c]))]
        cases r <;> rfl
    · rw [if_pos (by simpa using c)]
      show look (p :: drp n r) m = _
      unfold look
      by_cases e : p.1 = m
      · rw [if_pos e, if_pos e, if_neg (fun z => c (by rw [e, z]))]
      · rw [if_neg e, if_neg e]; exact ih
theorem ddrop_rKv {n : Int} : ∀ R : Rows, ddrop keq (.inl n) (rKv R) = rKv (drp n R)
  | [] => rfl
  | p :: r => by
    have ih := ddrop_rKv (n := n) r
    show (if keq (.inl p.1) (.inl n) = true then ddrop keq (.inl n) (rKv r) else (.inl p.1, .ref p.2.1) :: ddrop keq (.inl n) (rKv r)) = _
    unfold drp
    rw [List.filter_cons, keq_int]
    by_cases c : p.1 = n
    · rw [if_pos (decide_eq_true c), if_neg (by simpa using c)]; exact ih
    · rw [if_neg (by simpa using c), if_pos (by simpa using c), ih]; rfl
theorem rget_setc {R : Rows} {c : Int} {q : Nat} {xs : List MV} {a : MV} (l : look R (c / 8) = some (q, xs)) (hl : xs.length = 8) (x : Int) : rget (setc (c / 8) (xs.set (c % 8).toNat a) R) x = if x = c then a else rget R x := by
  unfold rget
  rw [look_setc]
  by_cases d : x / 8 = c / 8
  · rw [if_pos d, l, d, l]
    dsimp only [Option.map]
    unfold cellOf
    by_cases e : x = c
    · subst e
      rw [if_pos rfl, List.getElem?_set, if_pos rfl, if_pos (by omega)]; rfl
    · rw [if_neg e, List.getElem?_set, if_neg (by omega)]
  · rw [if_neg d, if_neg (fun e => d (by rw [e]))]
theorem rget_drp {R : Rows} {n : Int} {q : Nat × List MV} (l : look R n = some q) (t : trim q.2 = []) (x : Int) : rget (drp n R) x = rget R x := by
  unfold rget
  rw [look_drp]
  by_cases d : x / 8 = n
  · rw [if_pos d, d, l]
    dsimp only
    unfold cellOf
    cases e : q.2[(x % 8).toNat]? with
    | none => rfl
    | some y => exact (trim_nil.mp t y (List.mem_of_getElem? e)).symm
  · rw [if_neg d]
def nons : List MV := [.non, .non, .non, .non, .non, .non, .non, .non]
theorem nons_all : ∀ x ∈ nons, x = .non := by
  intro x hx
  simpa [nons] using hx
end XM
set_option Elab.async false
set_option linter.all false
set_option maxRecDepth 100000
set_option maxHeartbeats 4000000
namespace XM
open MI XG
open L2 (atI ixN)
def Ne (R : Rows) : Prop := ∀ p ∈ R, trim p.2.2 ≠ []
section
variable {C : Nat} {h : MH} {s r b L : Nat} {R : Rows}
end
end XM
set_option Elab.async false
set_option linter.all false
set_option maxRecDepth 100000
set_option maxHeartbeats 4000000
namespace XM
open MI XG
open L2 (atI ixN)
section
variable {C : Nat} {h : MH} {s r b L : Nat} {R : Rows}
end
end XM
set_option Elab.async false
set_option linter.all false
set_option maxRecDepth 100000
set_option maxHeartbeats 4000000
namespace XM
open MI XG
open L2 (atI ixN)
theorem lc_loop {it : It1} {c : CT} {t : MT} {e : ME} {D : Nat} {mw : ML} {N : Nat} (hN : N < 1000000) (P : Nat → List MV → MH → Prop) (hend : ∀ acc h, P N acc h → it.at_ N h = some none)
    (hstep : ∀ i acc h, i < N → P i acc h → h.get D = some (.lst acc) → ∃ x m1 h1 b h2, it.at_ i h = some (some x) ∧ c.set x mw h = .nx m1 h1 ∧ t m1 h1 = .ok b h2 ∧
      (b = false → P (i + 1) acc h2 ∧ h2.get D = some (.lst acc)) ∧ (b = true → ∃ y h3, e m1 h2 = .ok y h3 ∧ h3.get D = some (.lst acc) ∧ P (i + 1) (acc ++ [y]) (h3.set D (.lst (acc ++ [y]))))) :
    ∀ (n i : Nat) (acc : List MV) (h : MH), i + n = N + 1 → i ≤ N → acc.length ≤ i → P i acc h → h.get D = some (.lst acc) → ∃ acc' h', gLcN it c t e D mw n i h = .ok (.ref D) h' ∧ P N acc' h' ∧ h'.get D = some (.lst acc')
  | 0, i, acc, h, e0, hi, _, _, _ => by omega
  | n + 1, i, acc, h, e0, hi, la, p, g => by
    unfold gLcN
    by_cases hiN : i = N
    · subst hiN
      rw [hend acc h p]
      exact ⟨acc, h, rfl, p, g⟩
    · obtain ⟨x, m1, h1, b, h2, a1, a2, a3, a4, a5⟩ := hstep i acc h (by omega) p g
      rw [a1]
      simp only [a2, a3]
      cases b with
      | false =>
        obtain ⟨p2, g2⟩ := a4 rfl
        exact lc_loop hN P hend hstep n (i + 1) acc h2 (by omega) (by omega) (by omega) p2 g2
      | true =>
        obtain ⟨y, h3, b1, b2, b3⟩ := a5 rfl
        simp only [b1, b2]
        rw [if_pos (by omega)]
        exact lc_loop hN P hend hstep n (i + 1) (acc ++ [y]) _ (by omega) (by omega) (by simp; omega) b3 (set_get b2)
theorem for_loop {it : It1} {t : MG} {b : MS} {N : Nat} (Q : Nat → ML → MH → Prop) (hend : ∀ m h, Q N m h → it.at_ N h = some none)
    (hstep : ∀ i m h, i < N → Q i m h → ∃ x m1 h1 m2 h2, it.at_ i h = some (some x) ∧ t x m h = .nx m1 h1 ∧ b m1 h1 = .nx m2 h2 ∧ Q (i + 1) m2 h2) :
    ∀ (n i : Nat) (m : ML) (h : MH), i + n = N + 1 → i ≤ N → Q i m h → ∃ m' h', gForN it t b n i m h = .nx m' h' ∧ Q N m' h'
  | 0, i, m, h, e0, hi, _ => by omega
  | n + 1, i, m, h, e0, hi, q => by
    unfold gForN
    by_cases hiN : i = N
    · subst hiN
      rw [hend m h q]
      exact ⟨m, h, rfl, q⟩
    · obtain ⟨x, m1, h1, m2, h2, a1, a2, a3, a4⟩ := hstep i m h (by omega) q
      rw [a1]
      simp only [a2, a3]
      exact for_loop Q hend hstep n (i + 1) m2 h2 (by omega) (by omega) a4
theorem rng_at {lo : Int} {n i : Nat} {h : MH} (hi : i < n) : (it1R lo n).at_ i h = some (some (.int (lo + (i : Nat)))) := by
  show some (if i < n then some (MV.int (lo + (i : Nat))) else none) = _
  rw [if_pos hi]
theorem rng_at0 {n i : Nat} {h : MH} (hi : i < n) : (it1R 0 n).at_ i h = some (some (.int (i : Nat))) := by rw [rng_at hi, Int.zero_add]
theorem rng_end {lo : Int} {n : Nat} {h : MH} : (it1R lo n).at_ n h = some none := by
  show some (if n < n then some (MV.int (lo + (n : Nat))) else none) = _
  rw [if_neg (Nat.lt_irrefl _)]
end XM
set_option Elab.async false
set_option linter.all false
set_option maxRecDepth 100000
set_option maxHeartbeats 4000000
namespace XM
open MI XG
open L2 (atI ixN)
theorem Up.set {h h' : MH} (u : Up h h') {D : Nat} {o o' : MO} (hD : h.n ≤ D) (g : h'.get D = some o') : Up h (h'.set D o) :=
  ⟨u.n, fun j hj => by rw [set_ne g (by omega)]; exact u.get j hj⟩
theorem keys_rKv : ∀ R : Rows, keysOf (rKv R) = some (R.map fun p => p.1)
  | [] => rfl
  | p :: r => by
    show (keysOf (rKv r)).map (fun l => p.1 :: l) = _
    rw [keys_rKv r]; rfl
end XM
set_option Elab.async false
set_option linter.all false
set_option maxRecDepth 100000
set_option maxHeartbeats 4000000
namespace XM
open MI XG
open L2 (atI ixN)
theorem enum_it {h : MH} {pv : MV} {vs : List MV} (sq : Sq h pv vs) : ∃ it, (∀ m a, a m h = .ok pv h → gEnumA a m h = .ok it h) ∧ it.size h = vs.length ∧ ∀ h', Sq h' pv vs → ∀ i : Nat, it.at_ i h' = some (vs[i]?.map fun x => .tup [.int (i : Nat), x]) := by
  cases sq with
  | tup => exact ⟨it1E vs, fun m a e => by simp [gEnumA, e, Out.bind], rfl, fun h' _ i => rfl⟩
  | @ref q _ e0 =>
    refine ⟨it1EL q, fun m a e => by simp [gEnumA, e, Out.bind, e0], by simp [it1EL, e0], fun h' s i => ?_⟩
    cases s with
    | ref e1 => simp [it1EL, e1]
theorem iter_it {h : MH} {pv : MV} {vs : List MV} (sq : Sq h pv vs) : ∃ it, (∀ m a, a m h = .ok pv h → gIter a m h = .ok it h) ∧ it.size h = vs.length ∧ ∀ h', Sq h' pv vs → ∀ i : Nat, it.at_ i h' = some vs[i]? := by
  cases sq with
  | tup => exact ⟨it1 vs, fun m a e => by simp [gIter, e, Out.bind, mIter], rfl, fun h' _ i => rfl⟩
  | @ref q _ e0 =>
    refine ⟨it1L q, fun m a e => by simp [gIter, e, Out.bind, mIter, e0], by simp [it1L, e0], fun h' s i => ?_⟩
    cases s with
    | ref e1 => simp [it1L, e1]
def initBody (C : Nat) : MS := gIfS (gTru (gCall mWE [] 1 (gCons (gVar 3) (gNil)))) (gAsg (gBin mAdd (gCB (f1 mList) (gCons (gVar 3) (gNil))) (gBin mMulA (gLst (gCons (gC .non) (gNil))) (gBin mSub (gC (.int 8)) (gCB (f1 mLenV) (gCons (gVar 3) (gNil)))))) (tgSub (gFld [C] fR (gVar 0)) (gVar 2))) (gNext)
end XM
set_option Elab.async false
set_option linter.all false
set_option maxRecDepth 100000
set_option maxHeartbeats 4000000
namespace XM
open MI XG
open L2 (atI ixN)
theorem fldS_ok {C f s : Nat} {v : ME} {m : ML} {h h1 : MH} {y : MV} {fs : List (Nat × MV)} (ev : v m h = .ok y h1) (e0 : m[0]? = some (some (.ref s))) (g : h1.get s = some (.ins C fs)) (l : fs.length < 900) :
    gFldS [C] f v (gVar 0) m h = .nx m (h1.set s (.ins C (mput f y fs))) := by
  have v0 : gVar 0 m h1 = .ok (.ref s) h1 := var_at e0
  simp [gFldS, ev, Out.bindS, v0, g, l]
end XM
set_option Elab.async false
set_option linter.all false
set_option maxRecDepth 100000
set_option maxHeartbeats 4000000
namespace XM
open MI XG
open L2 (atI ixN)
theorem kp_of {i : Nat} {h h' : MH} (k : Keep i h h') : Kp [i] h h' := ⟨k.n, fun j hj hf => k.get j hj (by simpa using hf)⟩
theorem keep_of {i : Nat} {h h' : MH} (k : Kp [i] h h') : Keep i h h' := ⟨k.n, fun j hj hf => k.get j hj (by simpa using hf)⟩
theorem _root_.XG.Box.up {h h' : MH} {i : Nat} {f : Int} (b : Box h i f) (u : Up h h') : Box h' i f := by
  obtain ⟨a, s, e, h1, h2, h3⟩ := b
  exact ⟨a, s, e, u.at h1, h2, h3⟩
theorem tk_ok {h : MH} {i : Nat} {f : Int} (n : Int) (b : Box h i f) (hn : 0 < n) (hn2 : n < 1073741824) (hf2 : f < 1000000000000) :
    ∃ (r : Nat) (h' : MH), (r : Int) < n ∧ mTake [.ref i, .int n] h = .ok (.int (r : Nat)) h' ∧ Box h' i (f + 1) ∧ Kp [i] h h' ∧ h'.n = h.n := by
  obtain ⟨r, h', h1, h2, h3, h4, h5, h6⟩ := take_ok b hn hn2 hf2
  have e : ((r.toNat : Nat) : Int) = r := by omega
  exact ⟨r.toNat, h', by rw [e]; exact h2, by rw [e]; exact h3, h4, kp_of h5, h6⟩
def mOf : MF := gBody 2 (gRet (gBin mIx (gVar 1) (gCall mTake [] 2 (gCons (gVar 0) (gCons (gCB (f1 mLenV) (gCons (gVar 1) (gNil))) (gNil))))))
theorem Sq.kp {h h' : MH} {v : MV} {xs : List MV} {F : List Nat} (q : Sq h v xs) (k : Kp F h h') (n : ∀ q, v = .ref q → q ∉ F) : Sq h' v xs := by
  cases q with
  | tup => exact .tup _
  | ref e => exact .ref (k.at e (n _ rfl))
theorem of_ok {h : MH} {i : Nat} {f : Int} {v : MV} {xs : List MV} (b : Box h i f) (s : Sq h v xs) (n : ∀ q, v = .ref q → q ≠ i) (h0 : 0 < xs.length) (h1 : xs.length < 1000000) (hf : f < 1000000000000) :
    ∃ x h', mOf [.ref i, v] h = .ok x h' ∧ x ∈ xs ∧ Box h' i (f + 1) ∧ Kp [i] h h' ∧ h'.n = h.n := by
  obtain ⟨r, h', a1, a2, a3, a4, a5⟩ := tk_ok (xs.length : Int) b (by omega) (by omega) hf
  have hr : r < xs.length := by omega
  have hx : xs[r]? = some xs[r] := List.getElem?_eq_getElem hr
  have s' := s.kp a4 (fun q e => by have := n q e; simpa using this)
  have ix := s'.ix hx
  have l := s.len
  have v0 : ∀ h, gVar 0 [some (.ref i), some v] h = .ok (.ref i) h := fun h => rfl
  have v1 : ∀ h, gVar 1 [some (.ref i), some v] h = .ok v h := fun h => rfl
  have cl : gCall mTake [] 2 (gCons (gVar 0) (gCons (gCB (f1 mLenV) (gCons (gVar 1) (gNil))) (gNil))) [some (.ref i), some v] h = .ok (.int (r : Nat)) h' := by
    refine (call2 (n := 2) (v0 h) (y := .int xs.length) (h2 := h) ?_ rfl).trans a2
    simp [gCB, gCons, gNil, v1, Out.bind, f1, l]
  refine ⟨xs[r], h', body_rt ?_, List.getElem_mem hr, a3, a4, a5⟩
  show gRet _ [some (.ref i), some v] h = _
  simp only [gRet, gBin, v1, Out.bind, cl, ix, Out.bindS]
end XM
set_option Elab.async false
set_option linter.all false
set_option maxRecDepth 100000
set_option maxHeartbeats 4000000
namespace XM
open MI XG
open L2 (atI ixN)
end XM
set_option Elab.async false
set_option linter.all false
set_option maxRecDepth 100000
set_option maxHeartbeats 4000000
namespace XM
open MI XG
open L2 (atI ixN)
end XM
set_option Elab.async false
set_option linter.all false
set_option maxRecDepth 100000
set_option maxHeartbeats 4000000
namespace XM
open MI XG PySem
open L2 (atI ixN)
structure Dk (k B : Nat) (d : PyData) : Prop where
  s : d.showable = true
  nd : d.hasDict = false
  dp : d.depth ≤ k
  ls : d.leavesShort 60 = true
  bk : d.bulk ≤ B
  eq : ∀ n, k < n → dEq n d d = true
theorem Dk.le {k k' B B' : Nat} {d : PyData} (a : Dk k B d) (h1 : k ≤ k') (h2 : B ≤ B') : Dk k' B' d := ⟨a.s, a.nd, Nat.le_trans a.dp h1, a.ls, Nat.le_trans a.bk h2, fun n hn => a.eq n (by omega)⟩
theorem Dk.okA {k B : Nat} {d : PyData} (a : Dk k B d) (h1 : k ≤ 60) (h2 : B ≤ 262144) : dOkA d = true := by
  unfold dOkA
  rw [a.s, a.nd, a.ls, decide_eq_true (Nat.le_trans a.dp h1), decide_eq_true (Nat.le_trans a.bk h2)]
  rfl
def aD : MV → PyData
  | .non => .none
  | .int i => .int i
  | .str s => .str ⟨s.toArray⟩
  | _ => .none
theorem leq_refl : ∀ l : List Nat, leq l l = true := fun l => leq_iff.mpr rfl
theorem aD_ok {x : MV} (a : atB x = true) : Dk 0 20 (aD x) := by
  cases x with
  | non => exact ⟨rfl, rfl, Nat.le_refl _, rfl, Nat.zero_le _, fun n hn => by cases n with | zero => omega | succ n => rfl⟩
  | int i =>
    have hi : i.natAbs < 100000000000000000000000000000000000000000000000000 := of_decide_eq_true a
    refine ⟨?_, rfl, Nat.le_refl _, ?_, Nat.zero_le _, fun n hn => by cases n with | zero => omega | succ n => exact decide_eq_true rfl⟩
    · show decide (i.natAbs.log2 < 1920) = true
      refine decide_eq_true (iSmall_ok ?_)
      unfold iSmall
      exact decide_eq_true (by omega)
    · show decide ((PyData.shown (.int i)).length ≤ 60) = true
      refine decide_eq_true ?_
      have e : PyData.shown (.int i) = Str.ofString (toString i) := by simp only [PyData.shown]
      rw [e]
      have a := int_text_length_le10 (a := i) (k := 50) (by decide) (by have : (10 : Nat) ^ 50 = 100000000000000000000000000000000000000000000000000 := by decide +kernel
                                                                        omega)
      have b : (Str.ofString (toString i)).length = (toString i).length := by
        rw [ofS]
        show ((toString i).toList.map Char.toNat).toArray.size = _
        simp only [List.size_toArray, List.length_map]
        first | rfl | exact String.length_toList | exact (toString i).length_toList
      omega
  | str s =>
    have a' : (decide (s.length ≤ 20) && s.all fun c => decide (c < 1114112)) = true := a
    simp only [Bool.and_eq_true, decide_eq_true_eq, List.all_eq_true] at a'
    refine ⟨rfl, rfl, Nat.le_refl _, ?_, ?_, fun n hn => by cases n with | zero => omega | succ n => exact leq_refl _⟩
    · show (s.toArray.toList.all fun c => decide (c < 16 ^ 8)) = true
      simp only [List.all_eq_true, decide_eq_true_eq]
      intro c hc
      have := a'.2 c (by simpa using hc)
      have e : (16 : Nat) ^ 8 = 4294967296 := by decide
      omega
    · show s.toArray.size ≤ 20
      simpa using a'.1
  | _ => cases a
theorem all_ok {k B : Nat} : ∀ {ds : List PyData}, (∀ d ∈ ds, Dk k B d) → PyData.showableAll ds = true ∧ PyData.hasDictAll ds = false ∧ PyData.depthAll ds ≤ k ∧ PyData.leavesShortAll 60 ds = true ∧ PyData.bulkAll ds ≤ ds.length * (B + 1) ∧ ∀ n, k < n → allEq (dEq n) ds ds = true
  | [], _ => ⟨rfl, rfl, Nat.zero_le _, rfl, Nat.zero_le _, fun _ _ => rfl⟩
  | d :: ds, h => by
    have a := h d List.mem_cons_self
    obtain ⟨h1, h2, h3, h4, h5, h6⟩ := all_ok fun d hd => h d (List.mem_cons_of_mem _ hd)
    refine ⟨?_, ?_, ?_, ?_, ?_, fun n hn => ?_⟩
    · simp only [PyData.showableAll, a.s, h1, Bool.and_self]
    · simp only [PyData.hasDictAll, a.nd, h2, Bool.or_self]
    · simp only [PyData.depthAll]; exact Nat.max_le.mpr ⟨a.dp, h3⟩
    · simp only [PyData.leavesShortAll, a.ls, h4, Bool.and_self]
    · simp only [PyData.bulkAll, List.length_cons, Nat.add_mul]
      have := a.bk
      omega
    · show (dEq n d d && allEq (dEq n) ds ds) = true
      rw [a.eq n hn, h6 n hn]; rfl
theorem Dk.list {k B n : Nat} {ds : List PyData} (h : ∀ d ∈ ds, Dk k B d) (hn : ds.length ≤ n) : Dk (k + 1) (n * (B + 1)) (.list ds) := by
  obtain ⟨h1, h2, h3, h4, h5, h6⟩ := all_ok h
  refine ⟨by simpa only [PyData.showable] using h1, by simpa only [PyData.hasDict] using h2, by simp only [PyData.depth]; omega, by simpa only [PyData.leavesShort] using h4, by simp only [PyData.bulk]; exact Nat.le_trans h5 (Nat.mul_le_mul_right _ hn), fun m hm => ?_⟩
  cases m with
  | zero => omega
  | succ m => exact h6 m (by omega)
theorem Dk.tuple {k B n : Nat} {ds : List PyData} (h : ∀ d ∈ ds, Dk k B d) (hn : ds.length ≤ n) : Dk (k + 1) (n * (B + 1)) (.tuple ds) := by
  obtain ⟨h1, h2, h3, h4, h5, h6⟩ := all_ok h
  refine ⟨by simpa only [PyData.showable] using h1, by simpa only [PyData.hasDict] using h2, by simp only [PyData.depth]; omega, by simpa only [PyData.leavesShort] using h4, by simp only [PyData.bulk]; exact Nat.le_trans h5 (Nat.mul_le_mul_right _ hn), fun m hm => ?_⟩
  cases m with
  | zero => omega
  | succ m => exact h6 m (by omega)
theorem toD_at {h : MH} {x : MV} {n : Nat} (a : atB x = true) : toD h (n + 1) x = some (aD x) := by cases x <;> first | rfl | cases a
theorem allD_map {f : MV → Option PyData} {g : MV → PyData} : ∀ {xs : List MV}, (∀ x ∈ xs, f x = some (g x)) → allD f xs = some (xs.map g)
  | [], _ => rfl
  | x :: xs, h => by
    have e1 := h x List.mem_cons_self
    have e2 := allD_map fun y hy => h y (List.mem_cons_of_mem _ hy)
    simp only [allD, e1, e2, List.map_cons]
theorem toD_lst {h : MH} {q : Nat} {xs : List MV} {g : MV → PyData} {n : Nat} (e : h.get q = some (.lst xs)) (k : ∀ x ∈ xs, toD h n x = some (g x)) : toD h (n + 1) (.ref q) = some (.list (xs.map g)) := by
  show (match h.get q with
      | some (.lst xs) => (allD (toD h n) xs).map PyData.list
      | _ => none) = _
  rw [e]
  dsimp only
  rw [allD_map k]; rfl
def mSame : MF := gBody 2 (gRet (gSameA (gVar 0) (gVar 1)))
theorem same_ok {h : MH} {x y : MV} {d : PyData} {k B : Nat} (rx : isRow x = true) (ry : isRow y = true) (ex : toD h 61 x = some d) (ey : toD h 61 y = some d) (a : Dk k B d) (h1 : k ≤ 60) (h2 : B ≤ 262144) : mSame [x, y] h = .ok (.bl true) h := by
  have o := a.okA h1 h2
  have v0 : ∀ h, gVar 0 [some x, some y] h = .ok x h := fun h => rfl
  have v1 : ∀ h, gVar 1 [some x, some y] h = .ok y h := fun h => rfl
  refine body_rt (v := .bl true) (h' := h) ?_
  show gRet (gSameA (gVar 0) (gVar 1)) [some x, some y] h = _
  simp only [gRet, gSameA, v0, v1, Out.bind, rx, ry, ex, ey, if_pos, o, a.eq 61 (by omega), and_self, Out.bindS]
end XM
set_option Elab.async false
set_option linter.all false
set_option maxRecDepth 100000
set_option maxHeartbeats 4000000
namespace XM
open MI XG PySem
open L2 (atI ixN)
theorem comp_up {gi : MI1} {it : It1} {ws : List MV} {m : ML} {h : MH} {sl : Nat} {e : ME} {F : MV → MV} (ev : gi m h = .ok it h) (hsz : it.size h = ws.length) (hw : ws.length < 1000) (hat : ∀ h', Up h h' → ∀ j : Nat, it.at_ j h' = some ws[j]?)
    (he : ∀ x ∈ ws, ∀ h', Up h h' → ∃ h2, e ((m.set sl none).set sl (some x)) h' = .ok (F x) h2 ∧ Up h' h2) :
    ∃ h', gLc gi (.one sl) gYes e [sl] m h = .ok (.ref h.n) h' ∧ h'.get h.n = some (.lst (ws.map F)) ∧ Up h h' := by
  obtain ⟨acc, h1, e1, ⟨u1, rfl⟩, g1⟩ := lc_loop (it := it) (c := .one sl) (t := gYes) (e := e) (D := h.n) (mw := m.set sl none) (N := ws.length) (by omega)
    (fun j acc h' => Up h h' ∧ acc = (ws.take j).map F) (fun acc h' p => by rw [hat h' p.1, List.getElem?_eq_none (Nat.le_refl _)]) (fun j acc h' hj p g => by
      obtain ⟨u, rfl⟩ := p
      have hx : ws[j]? = some ws[j] := List.getElem?_eq_getElem hj
      obtain ⟨h2, a1, a2⟩ := he _ (List.getElem_mem hj) h' u
      have g2 := a2.at g
      refine ⟨ws[j], (m.set sl none).set sl (some ws[j]), h', true, h', by rw [hat h' u, hx], rfl, rfl, (fun z => nomatch z), fun _ => ⟨F ws[j], h2, a1, g2, (u.trans a2).set (Nat.le_refl _) g2, ?_⟩⟩
      rw [List.take_succ, hx, List.map_append]; rfl)
    (ws.length + 1) 0 [] (h.push (.lst [])) (by omega) (Nat.zero_le _) (by simp) ⟨Up.push, rfl⟩ get_top
  rw [List.take_of_length_le (Nat.le_refl _)] at g1
  refine ⟨h1, ?_, g1, u1⟩
  unfold gLc
  rw [ev]
  simp only [Out.bind]
  rw [hsz]
  exact e1
section
variable {C : Nat} {h0 h : MH} {i s r b k L : Nat} {R : Rows} {K : List (Int × MV)} {f : Int}
end
end XM
set_option Elab.async false
set_option linter.all false
set_option maxRecDepth 100000
set_option maxHeartbeats 4000000
namespace XM
open MI XG PySem
open L2 (atI ixN)
section
variable {C : Nat} {h0 h : MH} {i s r b k L : Nat} {R : Rows} {K : List (Int × MV)} {f : Int}
end
end XM
set_option Elab.async false
set_option linter.all false
set_option maxRecDepth 100000
set_option maxHeartbeats 4000000
namespace XM
open MI XG PySem
open L2 (atI ixN)
end XM
set_option Elab.async false
set_option linter.all false
set_option maxRecDepth 100000
set_option maxHeartbeats 4000000
namespace XM
open MI XG PySem
open L2 (atI ixN)
section
variable {C : Nat} {h0 h : MH} {i s r b k L : Nat} {R : Rows} {K : List (Int × MV)} {f : Int}
end
end XM
set_option Elab.async false
set_option linter.all false
set_option maxRecDepth 100000
set_option maxHeartbeats 4000000
namespace XK
open MI XG XM
open L2 (atI ixN)
def flds (r b : Nat) (q : MV × Int) (p : Int) : List (Nat × MV) := [(fR, .ref r), (fB, .ref b), (fK, q.1), (fM, .int q.2), (fP, .int p)]
structure MemW (C : Nat) (h : MH) (s r b : Nat) (R : Rows) (L : Nat) (B : List (Int × MV)) (q : MV × Int) : Prop where
  ins : ∃ p, h.get s = some (.ins C (flds r b q p))
  dr : h.get r = some (.dic (rKv R))
  db : B.length ≤ L ∧ h.get b = some (.dic (iKv B))
  row : ∀ p ∈ R, h.get p.2.1 = some (.lst p.2.2) ∧ p.2.2.length = 8 ∧ ∀ x ∈ p.2.2, atB x = true
  nd : (s :: r :: b :: R.map fun p => p.2.1).Nodup
  keys : (R.map fun p => p.1).Nodup
  len : R.length ≤ L
theorem MemW.frame {C : Nat} {h h' : MH} {s r b L : Nat} {R : Rows} {B : List (Int × MV)} {q : MV × Int} (m : MemW C h s r b R L B q) (e : ∀ j ∈ fp s r b R, j < h.n → h'.get j = h.get j) : MemW C h' s r b R L B q := by
  have g : ∀ {j : Nat} {o : MO}, j ∈ fp s r b R → h.get j = some o → h'.get j = some o := fun hj q => (e _ hj (MH.get_lt q)).trans q
  obtain ⟨p, hp⟩ := m.ins
  obtain ⟨hB, hb⟩ := m.db
  exact ⟨⟨p, g (by simp) hp⟩, g (by simp) m.dr, ⟨hB, g (by simp) hb⟩, fun p hp => ⟨g (by simp; exact .inr (.inr (.inr ⟨_, _, hp⟩))) (m.row p hp).1, (m.row p hp).2⟩, m.nd, m.keys, m.len⟩
theorem MemW.up {C : Nat} {h h' : MH} {s r b L : Nat} {R : Rows} {B : List (Int × MV)} {q : MV × Int} (m : MemW C h s r b R L B q) (u : Up h h') : MemW C h' s r b R L B q := m.frame fun j _ hj => u.get j hj
theorem MemW.lt {C : Nat} {h : MH} {s r b L : Nat} {R : Rows} {B : List (Int × MV)} {q : MV × Int} (m : MemW C h s r b R L B q) : ∀ j ∈ fp s r b R, j < h.n := by
  intro j hj
  obtain ⟨p, hp⟩ := m.ins
  obtain ⟨hB, hb⟩ := m.db
  simp only [fp, List.mem_cons, List.mem_map] at hj
  rcases hj with rfl | rfl | rfl | ⟨p, hp, rfl⟩
  · exact MH.get_lt hp
  · exact MH.get_lt m.dr
  · exact MH.get_lt hb
  · exact MH.get_lt (m.row p hp).1
theorem MemW.le {C : Nat} {h : MH} {s r b L L' : Nat} {R : Rows} {B : List (Int × MV)} {q : MV × Int} (m : MemW C h s r b R L B q) (k : L ≤ L') : MemW C h s r b R L' B q :=
  ⟨m.ins, m.dr, ⟨Nat.le_trans m.db.1 k, m.db.2⟩, m.row, m.nd, m.keys, Nat.le_trans m.len k⟩
theorem MemW.at {C : Nat} {h : MH} {s r b L : Nat} {R : Rows} {B : List (Int × MV)} {q : MV × Int} (m : MemW C h s r b R L B q) (c : Int) : atB (rget R c) = true := by
  unfold rget
  cases k : look R (c / 8) with
  | none => rfl
  | some q =>
    dsimp only
    unfold cellOf
    cases e : q.2[(c % 8).toNat]? with
    | none => rfl
    | some x => exact (m.row _ (look_mem k)).2.2 x (List.mem_of_getElem? e)
section
variable {C : Nat} {h : MH} {s r b L : Nat} {R : Rows} {B : List (Int × MV)} {q : MV × Int}
theorem fldR {m : ML} (M : MemW C h s r b R L B q) (e : m[0]? = some (some (.ref s))) : gFld [C] fR (gVar 0) m h = .ok (.ref r) h := by
  obtain ⟨p, hp⟩ := M.ins
  have l : (flds r b q p).lookup fR = some (.ref r) := rfl
  simp [gFld, gUn, gVar, e, Out.bind, mFld, hp, l]
theorem fldB {m : ML} (M : MemW C h s r b R L B q) (e : m[0]? = some (some (.ref s))) : gFld [C] fB (gVar 0) m h = .ok (.ref b) h := by
  obtain ⟨p, hp⟩ := M.ins
  have l : (flds r b q p).lookup fB = some (.ref b) := rfl
  simp [gFld, gUn, gVar, e, Out.bind, mFld, hp, l]
theorem fldK {m : ML} (M : MemW C h s r b R L B q) (e : m[0]? = some (some (.ref s))) : gFld [C] fK (gVar 0) m h = .ok q.1 h := by
  obtain ⟨p, hp⟩ := M.ins
  have l : (flds r b q p).lookup fK = some q.1 := rfl
  simp [gFld, gUn, gVar, e, Out.bind, mFld, hp, l]
theorem isD_r (M : MemW C h s r b R L B q) : isD h (.ref r) = true := by simp [isD, M.dr]
theorem dGet_r (M : MemW C h s r b R L B q) (n : Int) : dGet h (.ref r) (.int n) = some ((look R n).map fun q => .ref q.1) := by simp [dGet, M.dr, mkey, dval_rKv]
theorem get_ok (M : MemW C h s r b R L B q) (c : Int) : mGet C [.ref s, .int c] h = .ok (rget R c) h := by
  have f := fldR (m := [some (.ref s), some (.int c)]) M rfl
  have d := isD_r M
  have g := dGet_r M (c / 8)
  have e1 : ∀ h, mDiv (.int c) (.int 8) h = .ok (.int (c / 8)) h := fun h => rfl
  have e2 : ∀ h, mMod (.int c) (.int 8) h = .ok (.int (c % 8)) h := fun h => rfl
  have v1 : ∀ h, gVar 1 [some (.ref s), some (.int c)] h = .ok (.int c) h := fun h => rfl
  unfold rget
  cases k : look R (c / 8) with
  | none =>
    rw [k] at g
    simp [mGet, gBody, gSeq, gIfS, gB, gBin, gC, v1, Out.bind, Out.bindS, e1, f, mIn, d, mInD, g, gRet, SO.next]
  | some q =>
    rw [k] at g
    obtain ⟨m1, m2, m3⟩ := M.row _ (look_mem k)
    dsimp only at m1 m2
    have hb : (c % 8).toNat < q.2.length := by omega
    have hx : q.2[(c % 8).toNat]? = some (q.2[(c % 8).toNat]) := List.getElem?_eq_getElem hb
    have ix := (Sq.ref m1).ix hx
    have ec : ((c % 8).toNat : Int) = c % 8 := by omega
    rw [ec] at ix
    have i1 : mIx (.ref r) (.int (c / 8)) h = .ok (.ref q.1) h := by simp [mIx, d, mIxD, g, oV]
    simp [mGet, gBody, gSeq, gIfS, gB, gBin, gC, v1, Out.bind, Out.bindS, e1, e2, f, mIn, d, mInD, g, gRet, gNext, SO.next, i1, ix, cellOf, hx]
theorem page_ok (M : MemW C h s r b R L B q) (n : Int) : ∃ h', mPage C [.ref s, .int n] h = .ok (.tup (pageOf R n)) h' ∧ Up h h' := by
  have f := fldR (m := [some (.ref s), some (.int n)]) M rfl
  have d := isD_r M
  have M1 := M.up (Up.push (o := .lst []))
  have g := dGet_r M1 n
  have v1 : ∀ h, gVar 1 [some (.ref s), some (.int n)] h = .ok (.int n) h := fun h => rfl
  unfold pageOf
  cases k : look R n with
  | none =>
    rw [k] at g
    obtain ⟨h', e, u⟩ := we_ok (h := h.push (.lst [])) (v := .ref h.n) (xs := []) (.ref get_top) (by decide)
    refine ⟨h', ?_, Up.push.trans u⟩
    have t : trim [] = [] := rfl
    rw [t] at e
    simp [mPage, gBody, gRet, gCall, gCons, gNil, gDget2, f, d, v1, gLst, Out.bind, Out.bindS, g, e]
  | some q =>
    rw [k] at g
    obtain ⟨m1, m2, m3⟩ := M1.row _ (look_mem k)
    dsimp only at m1 m2
    obtain ⟨h', e, u⟩ := we_ok (h := h.push (.lst [])) (v := .ref q.1) (xs := q.2) (.ref m1) (by omega)
    refine ⟨h', ?_, Up.push.trans u⟩
    simp [mPage, gBody, gRet, gCall, gCons, gNil, gDget2, f, d, v1, gLst, Out.bind, Out.bindS, g, e]
end
end XK
set_option Elab.async false
set_option linter.all false
set_option maxRecDepth 100000
set_option maxHeartbeats 4000000
namespace XK
open MI XG XM
open L2 (atI ixN)
def addk (n : Int) (v : MV) (B : List (Int × MV)) : List (Int × MV) := match kfind B n with
  | some _ => B
  | none => B ++ [(n, v)]
abbrev KO := Option (Nat × List (Int × MV))
def kv : KO → MV
  | none => .non
  | some p => .ref p.1
def kr : KO → List Nat
  | none => []
  | some p => [p.1]
structure MemK (C : Nat) (h : MH) (s r b : Nat) (R : Rows) (L : Nat) (B : List (Int × MV)) (ko : KO) (km : Int) : Prop where
  w : MemW C h s r b R L B (kv ko, km)
  k : ∀ kf KB, ko = some (kf, KB) → h.get kf = some (.dic (iKv KB)) ∧ KB.length ≤ L ∧ kf ∉ fp s r b R
section
variable {C : Nat} {h : MH} {s r b L : Nat} {R : Rows} {B : List (Int × MV)} {ko : KO} {km : Int}
theorem MemW.ne {q : MV × Int} (M : MemW C h s r b R L B q) : s ≠ r ∧ s ≠ b ∧ r ≠ b ∧ (∀ p ∈ R, p.2.1 ≠ s ∧ p.2.1 ≠ r ∧ p.2.1 ≠ b) := by
  have nd := M.nd
  simp only [List.nodup_cons, List.mem_cons, List.mem_map, not_or, not_exists, not_and] at nd
  obtain ⟨⟨a1, a2, a3⟩, ⟨b1, b2⟩, c1, _⟩ := nd
  exact ⟨a1, a2, b1, fun p hp => ⟨a3 p hp, b2 p hp, c1 p hp⟩⟩
theorem MemK.frame {h' : MH} (m : MemK C h s r b R L B ko km) (e : ∀ j ∈ fp s r b R ++ kr ko, j < h.n → h'.get j = h.get j) : MemK C h' s r b R L B ko km :=
  ⟨m.w.frame fun j hj => e j (List.mem_append.mpr (.inl hj)), fun kf KB ek => by
    obtain ⟨a1, a2, a3⟩ := m.k kf KB ek
    exact ⟨(e kf (List.mem_append.mpr (.inr (by rw [ek]; simp [kr]))) (MH.get_lt a1)).trans a1, a2, a3⟩⟩
theorem MemK.up {h' : MH} (m : MemK C h s r b R L B ko km) (u : Up h h') : MemK C h' s r b R L B ko km := m.frame fun j _ hj => u.get j hj
theorem MemK.le {L' : Nat} (m : MemK C h s r b R L B ko km) (k : L ≤ L') : MemK C h s r b R L' B ko km :=
  ⟨m.w.le k, fun kf KB ek => by obtain ⟨a1, a2, a3⟩ := m.k kf KB ek; exact ⟨a1, Nat.le_trans a2 k, a3⟩⟩
theorem keep_ok (M : MemK C h s r b R L B ko km) (hL : L < 1000000) (n : Int) :
    ∃ h', mKeep C [.ref s, .int n] h = .ok .non h' ∧ MemK C h' s r b R (L + 1) (addk n (.tup (pageOf R n)) B) (ko.map fun p => (p.1, addk n (.tup (pageOf R n)) p.2)) km ∧ Kp (b :: kr ko) h h' := by
  obtain ⟨n1, n2, n3, n4⟩ := M.w.ne
  have v0 : ∀ h, gVar 0 [some (.ref s), some (.int n)] h = .ok (.ref s) h := fun h => rfl
  have v1 : ∀ h, gVar 1 [some (.ref s), some (.int n)] h = .ok (.int n) h := fun h => rfl
  have lpg : ∀ p, (flds r b (kv ko, km) p).lookup nPage = none := fun p => rfl
  -- the base
  have one : ∃ h1, gIfS (gB (gBin (mIn fun b => !b) (gVar 1) (gFld [C] fB (gVar 0)))) (gAsg (gMeth C nPage (mPage C) [] 2 (gVar 0) (gCons (gVar 1) (gNil))) (tgSub (gFld [C] fB (gVar 0)) (gVar 1))) (gNext) [some (.ref s), some (.int n)] h = .nx [some (.ref s), some (.int n)] h1 ∧
      MemK C h1 s r b R (L + 1) (addk n (.tup (pageOf R n)) B) ko km ∧ Kp [b] h h1 := by
    have fb := fldB (m := [some (.ref s), some (.int n)]) M.w rfl
    obtain ⟨hB, hb⟩ := M.w.db
    have db : isD h (.ref b) = true := by simp [isD, hb]
    have gb : dGet h (.ref b) (.int n) = some (kfind B n) := by simp [dGet, hb, mkey, dval_iKv]
    cases k : kfind B n with
    | some x =>
      rw [k] at gb
      have ea : addk n (.tup (pageOf R n)) B = B := by unfold addk; rw [k]
      rw [ea]
      refine ⟨h, (ifS_f (h1 := h) ?_).trans rfl, M.le (Nat.le_succ _), .refl⟩
      simp [gB, gBin, v1, fb, Out.bind, mIn, db, mInD, gb]
    | none =>
      rw [k] at gb
      have ea : addk n (.tup (pageOf R n)) B = B ++ [(n, .tup (pageOf R n))] := by unfold addk; rw [k]
      rw [ea]
      obtain ⟨h1, e1, u1⟩ := page_ok M.w n
      have M1 := M.up u1
      have fb1 := fldB (m := [some (.ref s), some (.int n)]) M1.w rfl
      have hb1 : h1.get b = some (.dic (iKv B)) := u1.at hb
      have db1 : isD h1 (.ref b) = true := by simp [isD, hb1]
      obtain ⟨p, hp⟩ := M.w.ins
      have pg := meth1 (c := C) (f := nPage) (g := mPage C) (n := 2) (v0 h) hp (lpg p) (v1 h) rfl
      have nw : dval keq (iKv B) (.inl n) = none := by rw [dval_iKv, k]
      have ln : (iKv B).length < 1000000 := by unfold iKv; rw [List.length_map]; omega
      have kv1 : iKv B ++ [(.inl n, .tup (pageOf R n))] = iKv (B ++ [(n, .tup (pageOf R n))]) := by simp [iKv]
      refine ⟨h1.set b (.dic (iKv (B ++ [(n, .tup (pageOf R n))]))), (ifS_t (h1 := h) ?_).trans ?_, ⟨⟨?_, ?_, ⟨by simp; omega, set_get hb1⟩, fun p hp => ⟨?_, (M1.w.row p hp).2⟩, M1.w.nd, M1.w.keys, Nat.le_trans M1.w.len (Nat.le_succ _)⟩, fun kf KB ek => ?_⟩, u1.kp.trans (Kp.set (MH.get_lt hb1) (by simp))⟩
      · simp [gB, gBin, v1, fb, Out.bind, mIn, db, mInD, gb]
      · unfold gAsg
        rw [pg, e1]
        simp [Out.bindS, tgSub, fb1, v1, putM, db1, dPutM, hb1, mkey, ln, dput_new nw, SO.only, kv1]
      · obtain ⟨p, hp⟩ := M1.w.ins
        exact ⟨p, by rw [set_ne hb1 n2]; exact hp⟩
      · rw [set_ne hb1 n3]; exact M1.w.dr
      · rw [set_ne hb1 (n4 p hp).2.2]; exact (M1.w.row p hp).1
      · obtain ⟨a1, a2, a3⟩ := M1.k kf KB ek
        exact ⟨by rw [set_ne hb1 (fun z => a3 (by rw [z]; simp))]; exact a1, by omega, a3⟩
  obtain ⟨h1, s1, M1, K1⟩ := one
  have fk := fldK (m := [some (.ref s), some (.int n)]) M1.w rfl
  -- the frozen state
  cases ko with
  | none =>
    refine ⟨h1, body_nx (m := [some (.ref s), some (.int n)]) ((seq_nx s1).trans ((ifS_f (h1 := h1) ?_).trans rfl)), M1, K1⟩
    have fk' : gFld [C] fK (gVar 0) [some (.ref s), some (.int n)] h1 = .ok .non h1 := fk
    simp [gAnd, gB, gNotN, gUn, fk', Out.bind, mIsN]
  | some kk =>
    obtain ⟨kf, KB⟩ := kk
    obtain ⟨a1, a2, a3⟩ := M1.k kf KB rfl
    have fk' : ∀ {h2 : MH} {B' : List (Int × MV)} {L' : Nat} {R' : Rows}, MemW C h2 s r b R' L' B' (kv (some (kf, KB)), km) → gFld [C] fK (gVar 0) [some (.ref s), some (.int n)] h2 = .ok (.ref kf) h2 := fun M => fldK (m := [some (.ref s), some (.int n)]) M rfl
    have dk : isD h1 (.ref kf) = true := by simp [isD, a1]
    have gk : dGet h1 (.ref kf) (.int n) = some (kfind KB n) := by simp [dGet, a1, mkey, dval_iKv]
    cases k : kfind KB n with
    | some x =>
      rw [k] at gk
      have ea : addk n (.tup (pageOf R n)) KB = KB := by unfold addk; rw [k]
      refine ⟨h1, body_nx (m := [some (.ref s), some (.int n)]) ((seq_nx s1).trans ((ifS_f (h1 := h1) ?_).trans rfl)), ?_, K1.le (by simp)⟩
      · have f := fk' M1.w
        simp [gAnd, gB, gNotN, gUn, f, Out.bind, mIsN, gBin, v1, mIn, dk, mInD, gk]
      · have e2 : (Option.map (fun p : Nat × List (Int × MV) => (p.1, addk n (.tup (pageOf R n)) p.2)) (some (kf, KB))) = some (kf, KB) := by show some (kf, addk n _ KB) = _; rw [ea]
        rw [e2]; exact M1
    | none =>
      rw [k] at gk
      have ea : addk n (.tup (pageOf R n)) KB = KB ++ [(n, .tup (pageOf R n))] := by unfold addk; rw [k]
      have e2 : (Option.map (fun p : Nat × List (Int × MV) => (p.1, addk n (.tup (pageOf R n)) p.2)) (some (kf, KB))) = some (kf, KB ++ [(n, .tup (pageOf R n))]) := by show some (kf, addk n _ KB) = _; rw [ea]
      rw [e2]
      obtain ⟨h2, e3, u2⟩ := page_ok M1.w n
      have M2 := M1.up u2
      obtain ⟨p, hp⟩ := M1.w.ins
      have pg := meth1 (c := C) (f := nPage) (g := mPage C) (n := 2) (v0 h1) hp rfl (v1 h1) rfl
      have nw : dval keq (iKv KB) (.inl n) = none := by rw [dval_iKv, k]
      have ln : (iKv KB).length < 1000000 := by unfold iKv; rw [List.length_map]; have := (M.k kf KB rfl).2.1; omega
      have kv1 : iKv KB ++ [(.inl n, .tup (pageOf R n))] = iKv (KB ++ [(n, .tup (pageOf R n))]) := by simp [iKv]
      have b1 := u2.at a1
      have d1 : isD h2 (.ref kf) = true := by simp [isD, b1]
      refine ⟨h2.set kf (.dic (iKv (KB ++ [(n, .tup (pageOf R n))]))), body_nx (m := [some (.ref s), some (.int n)]) ((seq_nx s1).trans ((ifS_t (h1 := h1) ?_).trans ?_)), ⟨M2.w.frame fun j hj _ => set_ne b1 (fun z => a3 (by rw [← z]; exact hj)), fun kf' KB' ek => ?_⟩, (K1.le (by simp)).trans (u2.kp.trans (Kp.set (MH.get_lt b1) (by simp [kr])))⟩
      · have f := fk' M1.w
        simp [gAnd, gB, gNotN, gUn, f, Out.bind, mIsN, gBin, v1, mIn, dk, mInD, gk]
      · unfold gAsg
        rw [pg, e3]
        have f := fk' M2.w
        simp [Out.bindS, tgSub, f, v1, putM, d1, dPutM, b1, mkey, ln, dput_new nw, SO.only, kv1]
      · cases ek
        exact ⟨set_get b1, by simp; have := (M.k kf KB rfl).2.1; omega, a3⟩
end
end XK
set_option Elab.async false
set_option linter.all false
set_option maxRecDepth 100000
set_option maxHeartbeats 4000000
namespace XK
open MI XG XM
open L2 (atI ixN)
section
variable {C : Nat} {h : MH} {s r b L : Nat} {R : Rows} {B : List (Int × MV)} {kq : MV × Int}
theorem setd_okR (M : MemW C h s r b R L B kq) (hL : L + 1 < 1000000) {n : Int} {m : ML} (e0 : m[0]? = some (some (.ref s))) (e3 : m[3]? = some (some (.int n))) :
    ∃ h' R1 q xs, gSetd (gFld [C] fR (gVar 0)) (gVar 3) (gBin mMulA (gLst (gCons (gC .non) (gNil))) (gC (.int 8))) m h = .ok (.ref q) h' ∧ MemW C h' s r b R1 (L + 1) B kq ∧ look R1 n = some (q, xs) ∧ xs.length = 8 ∧ Kp [r] h h' ∧
      (∀ c, rget R1 c = rget R c) ∧ (∀ j ∈ fp s r b R1, j ∈ fp s r b R ∨ h.n ≤ j) ∧ ∀ p ∈ R1, p.1 ≠ n → p ∈ R := by
  obtain ⟨n1, n2, n3, n4⟩ := M.ne
  have f := fldR M e0
  have v3 : gVar 3 m h = .ok (.int n) h := var_at e3
  have d := isD_r M
  have u2 : Up h ((h.push (.lst [.non])).push (.lst nons)) := Up.push.trans Up.push
  have M2 := M.up u2
  have mk : gBin mMulA (gLst (gCons (gC .non) (gNil))) (gC (.int 8)) m h = .ok (.ref (h.n + 1)) ((h.push (.lst [.non])).push (.lst nons)) := by
    have g1 : (h.push (.lst [.non])).get h.n = some (.lst [.non]) := get_top
    simp [gBin, gLst, gCons, gC, gNil, Out.bind, mMulA, isTup, isStr, mMulV, isRep, mRepL, g1]
    exact ⟨rfl, rfl⟩
  cases k : look R n with
  | some q =>
    have mr := M.row _ (look_mem k)
    have g : dval keq (rKv R) (.inl n) = some (.ref q.1) := by rw [dval_rKv, k]; rfl
    refine ⟨_, R, q.1, q.2, ?_, M2.le (Nat.le_succ _), k, mr.2.1, u2.kp, fun _ => rfl, fun j hj => .inl hj, fun p hp _ => hp⟩
    have ln : (rKv R).length < 1000000 := by unfold rKv; rw [List.length_map]; have := M.len; omega
    simp only [gSetd, f, Out.bind, d, if_pos, v3, mk, mkey, M2.dr, ln, g]
  | none =>
    have g : dval keq (rKv R) (.inl n) = none := by rw [dval_rKv, k]; rfl
    have ln : (rKv R).length < 1000000 := by unfold rKv; rw [List.length_map]; have := M.len; omega
    have gq : ((h.push (.lst [.non])).push (.lst nons)).get (h.n + 1) = some (.lst nons) := get_top
    have lt := M.lt
    have ltr : r < h.n := lt r (by simp)
    have old : ∀ j ∈ fp s r b R, j ≠ h.n + 1 := fun j hj => by have := lt j hj; omega
    have kv : rKv R ++ [(.inl n, .ref (h.n + 1))] = rKv (R ++ [(n, h.n + 1, nons)]) := by simp [rKv]
    refine ⟨((h.push (.lst [.non])).push (.lst nons)).set r (.dic (rKv (R ++ [(n, h.n + 1, nons)]))), R ++ [(n, h.n + 1, nons)], h.n + 1, nons, ?_, ⟨?_, ?_, ?_, fun p hp => ?_, ?_, ?_, ?_⟩, ?_, rfl, ?_, fun c => ?_, fun j hj => ?_, fun p hp hn => ?_⟩
    · simp only [gSetd, f, Out.bind, d, if_pos, v3, mk, mkey, M2.dr, ln, g, dput_new g, kv]
    · obtain ⟨p, hp⟩ := M2.ins
      exact ⟨p, by rw [set_ne M2.dr n1]; exact hp⟩
    · exact set_get M2.dr
    · obtain ⟨hB, hb⟩ := M2.db
      exact ⟨by omega, by rw [set_ne M2.dr (Ne.symm n3)]; exact hb⟩
    · rcases List.mem_append.mp hp with hp | hp
      · have := M2.row p hp
        exact ⟨by rw [set_ne M2.dr (n4 p hp).2.1]; exact this.1, this.2⟩
      · cases List.mem_singleton.mp hp
        exact ⟨by rw [set_ne M2.dr (by dsimp only; omega)]; exact gq, rfl, fun x hx => by rw [nons_all x hx]; rfl⟩
    · have e : (R ++ [(n, h.n + 1, nons)]).map (fun p => p.2.1) = (R.map fun p => p.2.1) ++ [h.n + 1] := by simp
      rw [e]
      show ((fp s r b R) ++ [h.n + 1]).Nodup
      exact List.nodup_append.mpr ⟨M.nd, by simp, fun a ha c hc => by rw [List.mem_singleton.mp hc]; exact old a ha⟩
    · have e : (R ++ [(n, h.n + 1, nons)]).map (fun p => p.1) = (R.map fun p => p.1) ++ [n] := by simp
      rw [e]
      exact List.nodup_append.mpr ⟨M.keys, by simp, fun a ha c hc => by rw [List.mem_singleton.mp hc]; exact fun z => look_none k (by rw [← z]; exact ha)⟩
    · rw [List.length_append]; have := M.len; simp; omega
    · rw [look_snoc, k]; simp
    · exact u2.kp.trans (Kp.set (by show r < h.n + 1 + 1; omega) (by simp))
    · unfold rget
      rw [look_snoc]
      cases k2 : look R (c / 8) with
      | some y => rfl
      | none =>
        dsimp only
        by_cases z : n = c / 8
        · rw [if_pos z]
          dsimp only
          unfold cellOf
          cases e : nons[(c % 8).toNat]? with
          | none => rfl
          | some y => exact nons_all y (List.mem_of_getElem? e)
        · rw [if_neg z]
    · simp only [fp, List.map_append, List.map_cons, List.map_nil, List.mem_cons, List.mem_append, List.not_mem_nil, or_false] at hj ⊢
      rcases hj with z | z | z | z | z
      · exact .inl (.inl z)
      · exact .inl (.inr (.inl z))
      · exact .inl (.inr (.inr (.inl z)))
      · exact .inl (.inr (.inr (.inr z)))
      · exact .inr (by omega)
    · rcases List.mem_append.mp hp with hp | hp
      · exact hp
      · cases List.mem_singleton.mp hp
        exact absurd rfl hn
theorem cell_ok (M : MemW C h s r b R L B kq) {n : Int} {q : Nat} {xs : List MV} (l : look R n = some (q, xs)) {k : Nat} {a : MV} (ha : atB a = true) : MemW C (h.set q (.lst (xs.set k a))) s r b (setc n (xs.set k a) R) L B kq := by
  obtain ⟨n1, n2, n3, n4⟩ := M.ne
  have hm := look_mem l
  have hq := M.row _ hm
  dsimp only at hq
  have nq := n4 _ hm
  dsimp only at nq
  have nr : (R.map fun p => p.2.1).Nodup := by
    have := M.nd
    simp only [List.nodup_cons] at this
    exact this.2.2.2
  refine ⟨?_, ?_, ?_, fun p hp => ?_, ?_, ?_, ?_⟩
  · obtain ⟨p, hp⟩ := M.ins
    exact ⟨p, by rw [set_ne hq.1 (Ne.symm nq.1)]; exact hp⟩
  · rw [setc_kv, set_ne hq.1 (Ne.symm nq.2.1)]; exact M.dr
  · obtain ⟨hB, hb⟩ := M.db
    exact ⟨hB, by rw [set_ne hq.1 (Ne.symm nq.2.2)]; exact hb⟩
  · unfold setc at hp
    obtain ⟨p0, hp0, rfl⟩ := List.mem_map.mp hp
    by_cases c : p0.1 = n
    · rw [if_pos c]
      have e := look_of_mem M.keys hp0
      rw [c, l] at e
      have e2 : p0.2.1 = q := by rw [← Option.some.inj e]
      refine ⟨by dsimp only; rw [e2]; exact set_get hq.1, by dsimp only; rw [List.length_set]; exact hq.2.1, fun x hx => ?_⟩
      rcases List.mem_or_eq_of_mem_set hx with z | z
      · exact hq.2.2 x z
      · rw [z]; exact ha
    · rw [if_neg c]
      have := M.row p0 hp0
      refine ⟨?_, this.2⟩
      rw [set_ne hq.1]
      · exact this.1
      · intro z
        have := inj_map nr hp0 hm z
        rw [this] at c
        exact c rfl
  · rw [setc_refs]; exact M.nd
  · rw [setc_keys]; exact M.keys
  · unfold setc; rw [List.length_map]; exact M.len
theorem drop_ok (M : MemW C h s r b R L B kq) (n : Int) : MemW C (h.set r (.dic (rKv (drp n R)))) s r b (drp n R) L B kq := by
  obtain ⟨n1, n2, n3, n4⟩ := M.ne
  have sub : (drp n R).Sublist R := List.filter_sublist
  refine ⟨?_, set_get M.dr, ?_, fun p hp => ?_, ?_, ?_, ?_⟩
  · obtain ⟨p, hp⟩ := M.ins
    exact ⟨p, by rw [set_ne M.dr n1]; exact hp⟩
  · obtain ⟨hB, hb⟩ := M.db
    exact ⟨hB, by rw [set_ne M.dr (Ne.symm n3)]; exact hb⟩
  · have hp' := sub.subset hp
    have := M.row p hp'
    exact ⟨by rw [set_ne M.dr (n4 p hp').2.1]; exact this.1, this.2⟩
  · have := M.nd
    exact this.sublist (((((sub.map fun p => p.2.1).cons₂ b).cons₂ r).cons₂ s))
  · exact M.keys.sublist (sub.map _)
  · exact Nat.le_trans sub.length_le M.len
theorem puts_ok (M : MemW C h s r b R L B kq) {p : Int} : MemW C (h.set s (.ins C (flds r b kq p))) s r b R L B kq := by
  obtain ⟨n1, n2, n3, n4⟩ := M.ne
  obtain ⟨p0, hp0⟩ := M.ins
  refine ⟨⟨p, set_get hp0⟩, ?_, ?_, fun p hp => ?_, M.nd, M.keys, M.len⟩
  · rw [set_ne hp0 (Ne.symm n1)]; exact M.dr
  · obtain ⟨hB, hb⟩ := M.db
    exact ⟨hB, by rw [set_ne hp0 (Ne.symm n2)]; exact hb⟩
  · have := M.row p hp
    exact ⟨by rw [set_ne hp0 (n4 p hp).1]; exact this.1, this.2⟩
end
end XK
set_option Elab.async false
set_option linter.all false
set_option maxRecDepth 100000
set_option maxHeartbeats 4000000
namespace XK
open MI XG XM
open L2 (atI ixN)
def mPutX (C : Nat) : MF := gBody 5 (gSeq (gIfS (gB (gBin mEqX (gMeth C nGet (mGet C) [] 2 (gVar 0) (gCons (gVar 1) (gNil))) (gVar 2))) (gRetN) (gNext)) (gSeq (gAsg (gBin mDiv (gVar 1) (gC (.int 8))) (tgName 3)) (gSeq (gExpr (gMeth C nKeep (mKeep C) [] 2 (gVar 0) (gCons (gVar 3) (gNil)))) (gSeq (gAsg (gSetd (gFld [C] fR (gVar 0)) (gVar 3) (gBin mMulA (gLst (gCons (gC .non) (gNil))) (gC (.int 8)))) (tgName 4)) (gSeq (gAsg (gVar 2) (tgSub (gVar 4) (gBin mMod (gVar 1) (gC (.int 8))))) (gSeq (gIfS (gNot (gTru (gCall mWE [] 1 (gCons (gVar 4) (gNil))))) (gDel (gFld [C] fR (gVar 0)) (gVar 3)) (gNext)) (gFldAug [C] fP (fun i j => i + j) (gVar 0) (gC (.int 1)))))))))
section
variable {C : Nat} {h : MH} {s r b L : Nat} {R : Rows} {B : List (Int × MV)} {kq : MV × Int} {ko : KO} {km : Int}
theorem gDel_ok (M : MemW C h s r b R L B kq) {n : Int} {m : ML} (e0 : m[0]? = some (some (.ref s))) (e3 : m[3]? = some (some (.int n))) {q : Nat × List MV} (l : look R n = some q) :
    gDel (gFld [C] fR (gVar 0)) (gVar 3) m h = .nx m (h.set r (.dic (rKv (drp n R)))) := by
  have f := fldR M e0
  have v3 : gVar 3 m h = .ok (.int n) h := var_at e3
  have g : dval keq (rKv R) (.inl n) = some (.ref q.1) := by rw [dval_rKv, l]; rfl
  simp [gDel, f, Out.bindS, v3, mkey, M.dr, g, ddrop_rKv]
theorem gPuts_okP {m : ML} {p : Int} (hp : h.get s = some (.ins C (flds r b kq p))) (e0 : m[0]? = some (some (.ref s))) : gFldAug [C] fP (fun i j => i + j) (gVar 0) (gC (.int 1)) m h = .nx m (h.set s (.ins C (flds r b kq (p + 1)))) := by
  have v0 : gVar 0 m h = .ok (.ref s) h := var_at e0
  have l : (flds r b kq p).lookup fP = some (.int p) := rfl
  have l2 : (flds r b kq p).length < 900 := by simp [flds]
  have l3 : mput fP (.int (p + 1)) (flds r b kq p) = flds r b kq (p + 1) := rfl
  simp [gFldAug, v0, Out.bindS, mFld, hp, l, gC, l2, l3]
theorem put_okP (M : MemK C h s r b R L B ko km) (N : Ne R) (hL : L + 2 < 1000000) (c : Int) {a : MV} (ha : atB a = true) :
    ∃ h' R' B' ko', mPutX C [.ref s, .int c, a] h = .ok .non h' ∧ MemK C h' s r b R' (L + 2) B' ko' km ∧ Ne R' ∧ (∀ x, rget R' x = if x = c then a else rget R x) ∧ Kp (fp s r b R ++ kr ko) h h' ∧ (∀ j ∈ fp s r b R', j ∈ fp s r b R ∨ h.n ≤ j) ∧
      (((∀ x, rget R' x = rget R x) ∧ B' = B ∧ ko' = ko) ∨ (B' = addk (c / 8) (.tup (pageOf R (c / 8))) B ∧ ko' = ko.map fun p => (p.1, addk (c / 8) (.tup (pageOf R (c / 8))) p.2))) ∧ ∃ p p', h.get s = some (.ins C (flds r b (kv ko, km) p)) ∧ h'.get s = some (.ins C (flds r b (kv ko', km) p')) ∧ ((p' = p ∧ h' = h ∧ R' = R ∧ B' = B ∧ ko' = ko) ∨ p' = p + 1) := by
  obtain ⟨d, e1, e2⟩ := at_eq (M.w.at c) ha
  obtain ⟨p, hp⟩ := M.w.ins
  have lg : (flds r b (kv ko, km) p).lookup nGet = none := rfl
  have lk : (flds r b (kv ko, km) p).lookup nKeep = none := rfl
  have hc : gB (gBin mEqX (gMeth C nGet (mGet C) [] 2 (gVar 0) (gCons (gVar 1) (gNil))) (gVar 2)) [some (.ref s), some (.int c), some a, none, none] h = .ok d h := by
    have g : gMeth C nGet (mGet C) [] 2 (gVar 0) (gCons (gVar 1) (gNil)) [some (.ref s), some (.int c), some a, none, none] h = .ok (rget R c) h := (meth1 (h1 := h) (h2 := h) (x := .int c) rfl hp lg rfl rfl).trans (get_ok M.w c)
    have v2 : gVar 2 [some (.ref s), some (.int c), some a, none, none] h = .ok a h := rfl
    simp [gB, gBin, Out.bind, g, v2, mEqX, at_row (M.w.at c), mEqV, e1, oB]
  cases d with
  | true =>
    have eq := e2.mp rfl
    refine ⟨h, R, B, ko, body_rt (seq_rt ((ifS_t hc).trans rfl)), M.le (by omega), N, fun x => ?_, .refl, fun j hj => .inl hj, .inl ⟨fun _ => rfl, rfl, rfl⟩, p, p, hp, hp, .inl ⟨rfl, rfl, rfl, rfl, rfl⟩⟩
    by_cases z : x = c
    · rw [if_pos z, z, eq]
    · rw [if_neg z]
  | false =>
    obtain ⟨h1, k1, M1, K1⟩ := keep_ok M (by omega) (c / 8)
    obtain ⟨h2, R1, q, xs, d1, M2, l2, x8, K2r, g2, f2, o2⟩ := setd_okR (n := c / 8) (m := [some (.ref s), some (.int c), some a, some (.int (c / 8)), none]) M1.w (by omega) rfl rfl
    have K2 : Kp (fp s r b R) h1 h2 := K2r.le (fun j hj _ => by simp at hj; simp [hj])
    have M3 := cell_ok M2 l2 (k := (c % 8).toNat) ha
    have hq := (M2.row _ (look_mem l2)).1
    dsimp only at hq
    have hq3 : (h2.set q (.lst (xs.set (c % 8).toNat a))).get q = some (.lst (xs.set (c % 8).toNat a)) := set_get hq
    obtain ⟨h4, e4, u4⟩ := we_ok (.ref hq3) (by rw [List.length_set, x8]; decide)
    have M4 := M3.up u4
    have l4 : look (setc (c / 8) (xs.set (c % 8).toNat a) R1) (c / 8) = some (q, xs.set (c % 8).toNat a) := by rw [look_setc, if_pos rfl, l2]; rfl
    have rg3 := rget_setc l2 x8 (a := a)
    -- what is left of the rows
    have six : ∃ h5 R5, gIfS (gNot (gTru (gCall mWE [] 1 (gCons (gVar 4) (gNil))))) (gDel (gFld [C] fR (gVar 0)) (gVar 3)) (gNext) [some (.ref s), some (.int c), some a, some (.int (c / 8)), some (.ref q)] (h2.set q (.lst (xs.set (c % 8).toNat a))) = .nx [some (.ref s), some (.int c), some a, some (.int (c / 8)), some (.ref q)] h5 ∧
        MemW C h5 s r b R5 (L + 1 + 1) (addk (c / 8) (.tup (pageOf R (c / 8))) B) (kv (ko.map fun p => (p.1, addk (c / 8) (.tup (pageOf R (c / 8))) p.2)), km) ∧ Ne R5 ∧ (∀ x, rget R5 x = rget (setc (c / 8) (xs.set (c % 8).toNat a) R1) x) ∧ h4.n ≤ h5.n ∧ (∀ j, j ≠ r → h5.get j = h4.get j) ∧ (∀ j ∈ fp s r b R5, j ∈ fp s r b R1) := by
      have v4 : ∀ h, gVar 4 [some (.ref s), some (.int c), some a, some (.int (c / 8)), some (.ref q)] h = .ok (.ref q) h := fun h => rfl
      have cd : gNot (gTru (gCall mWE [] 1 (gCons (gVar 4) (gNil)))) [some (.ref s), some (.int c), some a, some (.int (c / 8)), some (.ref q)] (h2.set q (.lst (xs.set (c % 8).toNat a))) = .ok ((trim (xs.set (c % 8).toNat a)).isEmpty) h4 := by
        have := (call1 (n := 1) (v4 _) rfl).trans e4
        simp [gNot, gTru, this, Out.bind, mTru, seqOf]
      have oldm : ∀ p ∈ setc (c / 8) (xs.set (c % 8).toNat a) R1, p.1 ≠ c / 8 → p ∈ R := fun p hp hn => by
        unfold setc at hp
        obtain ⟨p0, hp0, rfl⟩ := List.mem_map.mp hp
        by_cases z : p0.1 = c / 8
        · rw [if_pos z] at hn; exact absurd z hn
        · rw [if_neg z]; exact o2 p0 hp0 z
      have refs : ∀ j ∈ fp s r b (setc (c / 8) (xs.set (c % 8).toNat a) R1), j ∈ fp s r b R1 := fun j hj => by
        unfold fp at hj ⊢
        rw [setc_refs] at hj; exact hj
      cases t : (trim (xs.set (c % 8).toNat a)).isEmpty with
      | true =>
        rw [t] at cd
        have t' : trim (xs.set (c % 8).toNat a) = [] := by simpa using t
        refine ⟨_, _, (ifS_t cd).trans (gDel_ok M4 rfl rfl l4), drop_ok M4 (c / 8), fun p hp => ?_, rget_drp l4 t', Nat.le_refl _, fun j hj => set_ne M4.dr hj, fun j hj => ?_⟩
        · unfold drp at hp
          obtain ⟨hp1, hp2⟩ := List.mem_filter.mp hp
          exact N p (oldm p hp1 (by simpa using hp2))
        · refine refs j ?_
          simp only [fp, List.mem_cons] at hj ⊢
          rcases hj with z | z | z | z
          · exact .inl z
          · exact .inr (.inl z)
          · exact .inr (.inr (.inl z))
          · refine .inr (.inr (.inr ?_))
            obtain ⟨p, hp, e⟩ := List.mem_map.mp z
            exact List.mem_map.mpr ⟨p, (List.mem_filter.mp hp).1, e⟩
      | false =>
        rw [t] at cd
        refine ⟨h4, _, (ifS_f cd).trans rfl, M4, fun p hp => ?_, fun _ => rfl, Nat.le_refl _, fun _ _ => rfl, refs⟩
        by_cases z : p.1 = c / 8
        · have e := look_of_mem M4.keys hp
          rw [z, l4] at e
          have e2 : p.2.2 = xs.set (c % 8).toNat a := by rw [← Option.some.inj e]
          rw [e2]
          intro y
          rw [y] at t
          cases t
        · exact N p (oldm p hp z)
    obtain ⟨h5, R5, s6, M5, N5, g5, n5, k5, f5⟩ := six
    obtain ⟨ms1, ms2, ms3, ms4⟩ := M.w.ne
    have sK : s ∉ b :: kr ko := fun z => by
      rcases List.mem_cons.mp z with z | z
      · exact ms2 z
      · cases ko with
        | none => cases z
        | some kk => exact (M.k kk.1 kk.2 rfl).2.2 (by rw [← List.mem_singleton.mp z]; simp)
    have sq : s ≠ q := Ne.symm (M2.ne.2.2.2 _ (look_mem l2)).1
    have hp5' : h5.get s = h.get s := by
      have b1 := K1.n
      have b2 := K2.n
      have sl := MH.get_lt hp
      rw [k5 s ms1, u4.get s (by show s < h2.n; omega), set_ne hq sq, K2r.get s (by omega) (by simpa using ms1), K1.get s sl sK]
    obtain ⟨p5, hp5⟩ := M5.ins
    have ep : p5 = p := by
      have := hp5'.symm.trans hp5
      rw [hp] at this
      have := Option.some.inj this
      simp only [MO.ins.injEq, flds, List.cons.injEq, Prod.mk.injEq, MV.int.injEq, true_and, and_true] at this
      exact this.2.symm
    have s7 := gPuts_okP (m := [some (.ref s), some (.int c), some a, some (.int (c / 8)), some (.ref q)]) hp5 rfl
    obtain ⟨p6, e6⟩ : ∃ p6, p6 = p5 + 1 := ⟨_, rfl⟩
    rw [← e6] at s7
    have M6 := puts_ok M5 (p := p6)
    have fq : q ∈ fp s r b R ∨ h1.n ≤ q := f2 q (by simp only [fp, List.mem_cons, List.mem_map]; exact .inr (.inr (.inr ⟨_, look_mem l2, rfl⟩)))
    have kept : ∀ kf KB, (ko.map fun p => (p.1, addk (c / 8) (.tup (pageOf R (c / 8))) p.2)) = some (kf, KB) → (h5.set s (.ins C (flds r b (kv (ko.map fun p => (p.1, addk (c / 8) (.tup (pageOf R (c / 8))) p.2)), km) p6))).get kf = some (.dic (iKv KB)) ∧ KB.length ≤ L + 2 ∧ kf ∉ fp s r b R5 := fun kf KB ek => by
      obtain ⟨w1, w2, w3⟩ := M1.k kf KB ek
      have wl := MH.get_lt w1
      have b2 := K2.n
      have ks : kf ≠ s := fun z => w3 (by simp [z])
      have kr' : kf ≠ r := fun z => w3 (by simp [z])
      have kq' : kf ≠ q := fun z => by
        rcases fq with y | y
        · exact w3 (by rw [z]; exact y)
        · omega
      refine ⟨?_, by omega, fun z => ?_⟩
      · rw [set_ne hp5 ks, k5 kf kr', u4.get kf (by show kf < h2.n; omega), set_ne hq kq', K2.get kf wl w3]; exact w1
      · rcases f2 kf (f5 kf z) with y | y
        · exact w3 y
        · omega
    refine ⟨_, R5, _, _, body_nx (m := [some (.ref s), some (.int c), some a, some (.int (c / 8)), some (.ref q)]) ?_, ⟨M6, kept⟩, N5, fun x => ?_, ⟨?_, fun j hj hf => ?_⟩, fun j hj => ?_, .inr ⟨rfl, rfl⟩, p, p6, hp, set_get hp5, .inr (by rw [e6, ep])⟩
    · refine (seq_nx ((ifS_f hc).trans rfl)).trans ?_
      refine (seq_nx (asg_nx (v := .int (c / 8)) (h' := h) rfl)).trans ?_
      refine (seq_nx (expr_nx ((meth1 (h1 := h) (h2 := h) (x := .int (c / 8)) rfl hp lk rfl rfl).trans k1))).trans ?_
      refine (seq_nx (asg_nx d1)).trans ?_
      refine (seq_nx (m' := [some (.ref s), some (.int c), some a, some (.int (c / 8)), some (.ref q)]) (h' := h2.set q (.lst (xs.set (c % 8).toNat a))) ?_).trans ?_
      · have v1 : ∀ h, gVar 1 [some (.ref s), some (.int c), some a, some (.int (c / 8)), some (.ref q)] h = .ok (.int c) h := fun h => rfl
        have v2 : ∀ h, gVar 2 [some (.ref s), some (.int c), some a, some (.int (c / 8)), some (.ref q)] h = .ok a h := fun h => rfl
        have v4 : ∀ h, gVar 4 [some (.ref s), some (.int c), some a, some (.int (c / 8)), some (.ref q)] h = .ok (.ref q) h := fun h => rfl
        have e2 : ∀ h, mMod (.int c) (.int 8) h = .ok (.int (c % 8)) h := fun h => rfl
        have dq : isD h2 (.ref q) = false := by simp [isD, hq]
        have ix : ixN 8 (c % 8) = some (c % 8).toNat := by unfold ixN; rw [if_pos (by omega), if_pos (by omega)]
        show gAsg (gVar 2) (tgSub (gVar 4) (gBin mMod (gVar 1) (gC (.int 8)))) [some (.ref s), some (.int c), some a, some (.int (c / 8)), some (.ref q)] h2 = _
        simp [gAsg, v2, Out.bindS, tgSub, v4, gBin, v1, gC, Out.bind, e2, putM, dq, hq, x8, ix, SO.only]
      · exact (seq_nx s6).trans s7
    · rw [g5, rg3]
      by_cases z : x = c
      · rw [if_pos z, if_pos z]
      · rw [if_neg z, if_neg z, g2]
    · show h.n ≤ h5.n
      have a1 := K1.n
      have a2 := K2.n
      have a3 : h2.n ≤ h4.n := u4.n
      omega
    · have js : j ≠ s := fun z => hf (by simp [z])
      have jr : j ≠ r := fun z => hf (by simp [z])
      have jb : j ≠ b := fun z => hf (by simp [z])
      have b1 := K1.n
      have b2 := K2.n
      have jq : j ≠ q := fun z => by
        rcases fq with y | y
        · exact hf (List.mem_append.mpr (.inl (by rw [z]; exact y)))
        · omega
      rw [set_ne hp5 js, k5 j jr, u4.get j (by show j < h2.n; omega), set_ne hq jq, K2.get j (by omega) (fun z => hf (List.mem_append.mpr (.inl z))), K1.get j hj (fun z => by
        rcases List.mem_cons.mp z with z | z
        · exact jb z
        · exact hf (List.mem_append.mpr (.inr z)))]
    · rcases f2 j (f5 j hj) with y | y
      · exact .inl y
      · have := K1.n
        exact .inr (by omega)
end
end XK
set_option Elab.async false
set_option linter.all false
set_option maxRecDepth 100000
set_option maxHeartbeats 4000000
namespace XK
open MI XG XM PySem
open L2 (atI ixN)
theorem lay_all {xs : List MV} (a : ∀ x ∈ xs, atB x = true) : PyData.canLayAll0 (xs.map aD) = true := by
  induction xs with
  | nil => rfl
  | cons x xs ih =>
    have ax := a x List.mem_cons_self
    have h1 : (aD x).canLay0 = true := by
      cases x with
      | non => rfl
      | int i => rfl
      | str s =>
        have a' : (decide (s.length ≤ 20) && s.all fun c => decide (c < 1114112)) = true := ax
        simp only [Bool.and_eq_true, decide_eq_true_eq, List.all_eq_true] at a'
        show PyData.strOk ⟨s.toArray⟩ = true
        unfold PyData.strOk
        rw [Array.all_eq_true]
        intro i hi
        have := a'.2 (s.toArray[i]) (by
          have : s.toArray[i] ∈ s.toArray.toList := Array.getElem_mem_toList hi
          simpa using this)
        exact decide_eq_true (by omega)
      | _ => cases ax
    show ((aD x).canLay0 && PyData.canLayAll0 (xs.map aD)) = true
    rw [h1, ih fun y hy => a y (List.mem_cons_of_mem _ hy)]; rfl
theorem dep_all {xs : List MV} : PyData.depthAll (xs.map aD) = 0 := by
  induction xs with
  | nil => rfl
  | cons x xs ih =>
    show max (aD x).depth (PyData.depthAll (xs.map aD)) = 0
    rw [ih]
    cases x <;> rfl
end XK
set_option Elab.async false
set_option linter.all false
set_option maxRecDepth 100000
set_option maxHeartbeats 4000000
namespace XK
open MI XG XM PySem
open L2 (atI ixN)
section
variable {C : Nat} {h : MH} {s r b L : Nat} {R : Rows} {B : List (Int × MV)} {q : MV × Int} {ko : KO} {km : Int} {P : Int → List MV}
end
end XK
set_option Elab.async false
set_option linter.all false
set_option maxRecDepth 100000
set_option maxHeartbeats 4000000
namespace XK
open MI XG XM PySem
open L2 (atI ixN)
section
variable {C cb ci : Nat} {h : MH} {s r b L : Nat} {R : Rows} {B : List (Int × MV)} {ko : KO} {km : Int} {P : Int → List MV}
end
end XK
set_option Elab.async false
set_option linter.all false
set_option maxRecDepth 100000
set_option maxHeartbeats 4000000
namespace XK
open MI XG XM PySem
open L2 (atI ixN)
end XK
set_option Elab.async false
set_option linter.all false
set_option maxRecDepth 100000
set_option maxHeartbeats 4000000
namespace XK
open MI XG XM PySem
open L2 (atI ixN)
section
variable {C : Nat} {h0 h : MH} {i s r k b kb L : Nat} {R : Rows} {B K Kb : List (Int × MV)} {ko co : KO} {km : Int} {f : Int}
end
end XK
set_option Elab.async false
set_option linter.all false
set_option maxRecDepth 100000
set_option maxHeartbeats 4000000
namespace XK
open MI XG XM PySem
open L2 (atI ixN)
section
variable {C : Nat} {h0 h : MH} {i s r k b kb L : Nat} {R : Rows} {B K Kb : List (Int × MV)} {ko co : KO} {km : Int} {f : Int}
end
end XK
set_option Elab.async false
set_option linter.all false
set_option maxRecDepth 100000
set_option maxHeartbeats 4000000
namespace XK
open MI XG XM PySem
open L2 (atI ixN)
theorem meth2 {c f n : Nat} {g : MF} {o a b : ME} {m : ML} {h h1 h2 h3 : MH} {i : Nat} {fs : List (Nat × MV)} {x y : MV} (eo : o m h = .ok (.ref i) h1) (hi : h1.get i = some (.ins c fs)) (l : fs.lookup f = none) (ea : a m h1 = .ok x h2) (eb : b m h2 = .ok y h3) (hn : n = 3) : gMeth c f g [] n o (gCons a (gCons b gNil)) m h = g [.ref i, x, y] h3 := by
  subst hn
  simp [gMeth, eo, Out.bind, hi, l, gCons, gNil, ea, eb]
section
variable {C : Nat} {h0 h : MH} {i s r k b kb L : Nat} {R : Rows} {B K Kb : List (Int × MV)} {ko co : KO} {km : Int} {f : Int}
end
end XK
set_option Elab.async false
set_option linter.all false
set_option maxRecDepth 100000
set_option maxHeartbeats 4000000
namespace XK
open MI XG XM PySem
open L2 (atI ixN)
end XK
set_option Elab.async false
set_option linter.all false
set_option maxRecDepth 100000
set_option maxHeartbeats 4000000
namespace XK
open MI XG XM PySem
open L2 (atI ixN)
section
variable {C : Nat} {h h' : MH} {s r b L : Nat} {R : Rows} {B : List (Int × MV)} {ko : KO} {km w : Int} {P : Int → List MV} {v : MV}
end
end XK
set_option Elab.async false
set_option linter.all false
set_option maxRecDepth 100000
set_option maxHeartbeats 4000000
namespace XK
open MI XG XM PySem
open L2 (atI ixN)
section
variable {C : Nat} {h0 h : MH} {i s r k b L : Nat} {R : Rows} {B K : List (Int × MV)} {P : Int → List MV} {ko co : KO} {km : Int} {f : Int}
end
end XK
set_option Elab.async false
set_option linter.all false
set_option maxRecDepth 100000
set_option maxHeartbeats 4000000
namespace XK
open MI XG XM PySem
open L2 (atI ixN)
section
variable {C : Nat} {h0 h : MH} {i s r k b L : Nat} {R : Rows} {B K : List (Int × MV)} {P : Int → List MV} {ko co : KO} {km w : Int} {f : Int}
end
end XK
set_option Elab.async false
set_option linter.all false
set_option maxRecDepth 100000
set_option maxHeartbeats 4000000
namespace XK
open MI XG XM PySem
open L2 (atI ixN)
section
variable {C : Nat} {h0 h : MH} {i s r k b L : Nat} {R : Rows} {B K : List (Int × MV)} {P : Int → List MV} {ko co : KO} {km w : Int} {f : Int}
end
end XK
set_option Elab.async false
set_option linter.all false
set_option maxRecDepth 100000
set_option maxHeartbeats 4000000
namespace XK
open MI XG XM PySem
open L2 (atI ixN)
section
variable {C : Nat} {h0 h h1 h2 : MH} {i s r k b L : Nat} {R : Rows} {B K : List (Int × MV)} {P : Int → List MV} {ko co : KO} {km w : Int} {f : Int} {t v v' : MV} {m : ML}
end
end XK
set_option Elab.async false
set_option linter.all false
set_option maxRecDepth 100000
set_option maxHeartbeats 4000000
namespace XK
open MI XG XM PySem
open L2 (atI ixN)
section
variable {C : Nat} {h0 h : MH} {i s r k b L : Nat} {R : Rows} {B K : List (Int × MV)} {P : Int → List MV} {ko co : KO} {km w : Int} {f : Int} {t : MV}
end
end XK
set_option Elab.async false
set_option linter.all false
set_option maxRecDepth 100000
set_option maxHeartbeats 4000000
namespace XK
open MI XG XM PySem
open L2 (atI ixN)
def eTk (n : Int) : ME := gCall mTake [] 2 (gCons (gVar 0) (gCons (gC (.int n)) (gNil)))
section
variable {C : Nat} {h0 h : MH} {i s r k b L : Nat} {R : Rows} {B K : List (Int × MV)} {P : Int → List MV} {ko co : KO} {km : Int} {f : Int}
theorem eTk_ok (n : Int) {m : ML} (bx : Box h i f) (hn : 0 < n) (hn2 : n < 1073741824) (hf : f < 1000000000000) (m0 : m[0]? = some (some (.ref i))) :
    ∃ (c : Nat) (h1 : MH), (c : Int) < n ∧ eTk n m h = .ok (.int (c : Nat)) h1 ∧ Box h1 i (f + 1) ∧ Kp [i] h h1 := by
  obtain ⟨c, h1, a1, a2, a3, a4, a5⟩ := tk_ok n bx hn hn2 hf
  exact ⟨c, h1, by omega, (call2 (n := 2) (var_at m0) rfl rfl).trans a2, a3, a4⟩
end
end XK
set_option Elab.async false
set_option linter.all false
set_option maxRecDepth 100000
set_option maxHeartbeats 4000000
namespace XK
open MI XG XM PySem
open L2 (atI ixN)
end XK
set_option Elab.async false
set_option linter.all false
set_option maxRecDepth 100000
set_option maxHeartbeats 4000000
namespace XK
open MI XG XM PySem
open L2 (atI ixN)
end XK
set_option Elab.async false
set_option linter.all false
set_option maxRecDepth 100000
set_option maxHeartbeats 4000000
namespace DK
open MI XG XM XK PySem
open L2 (atI ixN)
structure Sd (h : MH) (x : MV) (d : PyData) (k B : Nat) : Prop where
  ts : ∀ n, k < n → toD h n x = some d
  dk : Dk k B d
inductive Sds (h : MH) (k B : Nat) : List MV → List PyData → Prop
  | nil : Sds h k B [] []
  | cons {x : MV} {d : PyData} {xs : List MV} {ds : List PyData} : Sd h x d k B → Sds h k B xs ds → Sds h k B (x :: xs) (d :: ds)
theorem Sd.le {h : MH} {x : MV} {d : PyData} {k B k' B' : Nat} (s : Sd h x d k B) (hk : k ≤ k') (hB : B ≤ B') : Sd h x d k' B' := ⟨fun n hn => s.ts n (by omega), s.dk.le hk hB⟩
theorem Sd.at {h : MH} {x : MV} (a : atB x = true) : Sd h x (aD x) 0 20 := ⟨fun n hn => by cases n with | zero => omega | succ n => exact toD_at a, aD_ok a⟩
theorem Sds.allD {h : MH} {k B n : Nat} (hn : k < n) : ∀ {xs : List MV} {ds : List PyData}, Sds h k B xs ds → allD (toD h n) xs = some ds
  | _, _, .nil => rfl
  | _, _, .cons a r => by simp only [MI.allD, a.ts n hn, r.allD hn]
theorem Sds.len {h : MH} {k B : Nat} : ∀ {xs : List MV} {ds : List PyData}, Sds h k B xs ds → ds.length = xs.length
  | _, _, .nil => rfl
  | _, _, .cons a r => by rw [List.length_cons, List.length_cons, r.len]
theorem Sds.dk {h : MH} {k B : Nat} : ∀ {xs : List MV} {ds : List PyData}, Sds h k B xs ds → ∀ d ∈ ds, Dk k B d
  | _, _, .nil, d, hd => by cases hd
  | _, _, .cons a r, d, hd => by
    rcases List.mem_cons.mp hd with rfl | hd
    · exact a.dk
    · exact r.dk d hd
theorem Sd.tup {h : MH} {xs : List MV} {ds : List PyData} {k B n : Nat} (s : Sds h k B xs ds) (hn : xs.length ≤ n) : Sd h (.tup xs) (.tuple ds) (k + 1) (n * (B + 1)) :=
  ⟨fun m hm => by
    cases m with
    | zero => omega
    | succ m =>
      show (MI.allD (toD h m) xs).map PyData.tuple = _
      rw [s.allD (by omega)]; rfl, Dk.tuple s.dk (by rw [s.len]; exact hn)⟩
theorem Sd.lst {h : MH} {q : Nat} {xs : List MV} {ds : List PyData} {k B n : Nat} (e : h.get q = some (.lst xs)) (s : Sds h k B xs ds) (hn : xs.length ≤ n) : Sd h (.ref q) (.list ds) (k + 1) (n * (B + 1)) :=
  ⟨fun m hm => by
    cases m with
    | zero => omega
    | succ m =>
      show (match h.get q with
        | some (.lst xs) => (MI.allD (toD h m) xs).map PyData.list
        | _ => none) = _
      rw [e]
      dsimp only
      rw [s.allD (by omega)]; rfl, Dk.list s.dk (by rw [s.len]; exact hn)⟩
theorem same_sd {h : MH} {x y : MV} {d : PyData} {k B k' B' : Nat} (a : Sd h x d k B) (b : Sd h y d k' B') (rx : isRow x = true) (ry : isRow y = true) (h1 : k ≤ 60) (h2 : k' ≤ 60) (h3 : B ≤ 262144) : mSame [x, y] h = .ok (.bl true) h :=
  same_ok rx ry (a.ts 61 (by omega)) (b.ts 61 (by omega)) a.dk h1 h3
theorem while_t {c : MT} {b : MS} {N : Nat} {m m2 : ML} {h h1 h2 : MH} (e : c m h = .ok true h1) (e2 : b m h1 = .nx m2 h2) : gWhile c b (N + 1) m h = gWhile c b N m2 h2 := by
  show (c m h).bindS _ = _
  rw [e]
  simp only [Out.bindS, if_pos, e2]
theorem while_f {c : MT} {b : MS} {N : Nat} {m : ML} {h h1 : MH} (e : c m h = .ok false h1) : gWhile c b (N + 1) m h = .nx m h1 := by
  show (c m h).bindS _ = _
  rw [e]; rfl
end DK
set_option Elab.async false
set_option linter.all false
set_option maxRecDepth 100000
set_option maxHeartbeats 4000000
namespace DK
open MI XG XM XK PySem
open L2 (atI ixN)
section
variable (C eL eS eB : Nat)
end
section
variable {C eL eS eB : Nat} {h h' : MH} {p a b c : Nat} {A B : List MV} {L : List (Nat × MV)} {n : Int} {lv : MV}
theorem fld_at {C f s : Nat} {m : ML} {fs : List (Nat × MV)} {y : MV} (e0 : m[0]? = some (some (.ref s))) (g : h.get s = some (.ins C fs)) (l : fs.lookup f = some y) : gFld [C] f (gVar 0) m h = .ok y h := by
  have v0 : gVar 0 m h = .ok (.ref s) h := var_at e0
  simp [gFld, gUn, mFld, v0, Out.bind, g, l]
theorem list_ok {h : MH} {v : MV} {xs : List MV} (s : Sq h v xs) : mList v h = .ok (.ref h.n) (h.push (.lst xs)) := by
  cases s with
  | tup => rfl
  | ref e => simp [mList, seqOf, e]
end
end DK
set_option Elab.async false
set_option linter.all false
set_option maxRecDepth 100000
set_option maxHeartbeats 4000000
namespace DK
open MI XG XM XK PySem
open L2 (atI ixN)
section
variable {C eL eS eB : Nat} {h h' : MH} {p a b c : Nat} {A B : List MV} {L : List (Nat × MV)} {n : Int} {lv : MV}
end
end DK
set_option Elab.async false
set_option linter.all false
set_option maxRecDepth 100000
set_option maxHeartbeats 4000000
namespace DK
open MI XG XM XK PySem
open L2 (atI ixN)
theorem iter_it {h : MH} {v : MV} {xs : List MV} {m : ML} {g : ME} (s : Sq h v xs) (e : g m h = .ok v h) : ∃ it, gIter g m h = .ok it h ∧ it.size h = xs.length ∧ ∀ h', Sq h' v xs → ∀ j : Nat, it.at_ j h' = some xs[j]? := by
  cases s with
  | tup => exact ⟨it1 xs, by simp [gIter, e, Out.bind, mIter], rfl, fun _ _ _ => rfl⟩
  | @ref q xs eq =>
    refine ⟨it1L q, by simp [gIter, e, Out.bind, mIter, eq], ?_, fun h' s' j => ?_⟩
    · show (match h.get q with
        | some (.lst xs) => xs.length
        | _ => 0) = _
      rw [eq]
    · cases s' with
      | ref eq' =>
        show (match h'.get q with
          | some (.lst xs) => some xs[j]?
          | _ => none) = _
        rw [eq']
section
variable {C eL eS eB : Nat} {h h' : MH} {p a b c : Nat} {A B : List MV} {L : List (Nat × MV)} {n : Int} {lv : MV}
theorem reps_one {x : MV} : ∀ k, reps [x] k = List.replicate k x
  | 0 => rfl
  | k + 1 => by
    show [x] ++ reps [x] k = _
    rw [reps_one k]; rfl
end
end DK
set_option Elab.async false
set_option linter.all false
set_option maxRecDepth 100000
set_option maxHeartbeats 4000000
namespace DK
open MI XG XM XK PySem
open L2 (atI ixN)
section
variable {t : Option MV} {r d : Nat} {h0 : MH}
end
end DK
set_option Elab.async false
set_option linter.all false
set_option maxRecDepth 100000
set_option maxHeartbeats 4000000
namespace DK
open MI XG XM XK PySem
open L2 (atI ixN)
theorem tk {h : MH} {i : Nat} {f : Int} {m : ML} (n : Int) (bx : Box h i f) (hn : 0 < n) (hn2 : n < 1073741824) (hf : f < 1000000000000) (m0 : m[0]? = some (some (.ref i))) :
    ∃ (c : Nat) (h1 : MH), (c : Int) < n ∧ gCall mTake [] 2 (gCons (gVar 0) (gCons (gC (.int n)) (gNil))) m h = .ok (.int (c : Nat)) h1 ∧ Box h1 i (f + 1) ∧ Kp [i] h h1 := eTk_ok n bx hn hn2 hf m0
theorem eq_int {c d : Int} {h : MH} : mEqX (.int c) (.int d) h = .ok (.bl (decide (c = d))) h := rfl
theorem add_ok {h : MH} {i j : Nat} {xs ys : List MV} (g1 : h.get i = some (.lst xs)) (g2 : h.get j = some (.lst ys)) (l : xs.length + ys.length ≤ 1000000) : mAdd (.ref i) (.ref j) h = .ok (.ref h.n) (h.push (.lst (xs ++ ys))) := by
  simp [mAdd, g1, g2, l]
theorem lst1 {a : ME} {m : ML} {h h1 : MH} {x : MV} (ea : a m h = .ok x h1) : gLst (gCons a gNil) m h = .ok (.ref h1.n) (h1.push (.lst [x])) := by
  simp only [gLst, gCons, gNil, ea, Out.bind]
  rfl
end DK
set_option Elab.async false
set_option linter.all false
set_option maxRecDepth 100000
set_option maxHeartbeats 4000000
namespace DK
open MI XG XM XK PySem
open L2 (atI ixN)
section
variable {C eL eS eB : Nat} {h h' : MH} {p a b c : Nat} {A B : List MV} {L : List (Nat × MV)} {n : Int} {lv : MV}
end
end DK
set_option Elab.async false
set_option linter.all false
set_option maxRecDepth 100000
set_option maxHeartbeats 4000000
namespace DK
open MI XG XM XK PySem
open L2 (atI ixN)
end DK
set_option Elab.async false
set_option linter.all false
set_option maxRecDepth 100000
set_option maxHeartbeats 400000
namespace HC
open MI XG XM XK DK PySem
open L2 (atI ixN)
def wd (c : Int) : List Nat := 64 :: itoa c
theorem itoaN_inj {a b : Nat} (e : itoaN a = itoaN b) : a = b := by
  unfold itoaN at e
  have h := (List.map_inj_right (f := Char.toNat) (fun x y z => Char.toNat_inj.mp z)).mp e
  have := congrArg (fun l => Nat.ofDigitChars 10 l 0) h
  simpa [Nat.ofDigitChars_ten_toDigits] using this
theorem leq_iff : ∀ {a b : List Nat}, leq a b = true ↔ a = b
  | [], [] => by simp [leq]
  | [], _ :: _ => by simp [leq]
  | _ :: _, [] => by simp [leq]
  | x :: a, y :: b => by
    unfold leq
    by_cases z : x = y
    · rw [if_pos z, leq_iff, z]; simp
    · rw [if_neg z]; simp [z]
theorem wd_inj {x c : Int} (h1 : 0 ≤ x) (h3 : 0 ≤ c) (e : wd x = wd c) : x = c := by
  obtain ⟨x', rfl⟩ := Int.eq_ofNat_of_zero_le h1
  obtain ⟨c', rfl⟩ := Int.eq_ofNat_of_zero_le h3
  have e' : itoaN x' = itoaN c' := (List.cons.inj e).2
  rw [itoaN_inj e']
theorem wk {x c : Int} (h1 : 0 ≤ x) (h3 : 0 ≤ c) : leq (wd x) (wd c) = decide (x = c) := by
  by_cases z : x = c
  · subst z; rw [leq_iff.mpr rfl]; simp
  · rw [decide_eq_false z]
    cases k : leq (wd x) (wd c) with
    | false => rfl
    | true => exact absurd (wd_inj h1 h3 (leq_iff.mp k)) z
theorem itoa_len {c : Int} (h1 : 0 ≤ c) (h2 : c < 10000000000000) : (itoa c).length ≤ 13 := by
  obtain ⟨c', rfl⟩ := Int.eq_ofNat_of_zero_le h1
  show ((Nat.toDigits 10 c').map Char.toNat).length ≤ 13
  rw [List.length_map]
  exact (Nat.length_toDigits_le_iff (by decide) (by decide)).mpr (by omega)
theorem itoa_small {c : Int} (h1 : 0 ≤ c) (h2 : c < 10000000000000) : iSmall c = true := by
  unfold iSmall
  rw [decide_eq_true_iff]
  omega
theorem itoa_chars {c : Int} (h1 : 0 ≤ c) : ∀ x ∈ itoa c, x < 1114112 := by
  obtain ⟨c', rfl⟩ := Int.eq_ofNat_of_zero_le h1
  intro x hx
  obtain ⟨d, hd, rfl⟩ := List.mem_map.mp hx
  have := d.valid
  have h := Nat.isDigit_of_mem_toDigits (by decide) (by decide) hd
  have h2 : d.toNat ≤ 57 := by
    simp only [Char.isDigit, Bool.and_eq_true, decide_eq_true_eq] at h
    exact h.2
  omega
theorem wd_at {c : Int} (h1 : 0 ≤ c) (h2 : c < 10000000000000) : atB (.str (wd c)) = true := by
  have l := itoa_len h1 h2
  simp only [atB, Bool.and_eq_true, decide_eq_true_eq, List.all_eq_true]
  refine ⟨by unfold wd; rw [List.length_cons]; omega, fun x hx => ?_⟩
  rcases List.mem_cons.mp hx with z | z
  · rw [z]; decide
  · exact itoa_chars h1 x z
theorem wd_ok {m : ML} {h : MH} {j : Nat} {c : Int} (h0 : 0 ≤ c) (h1 : c < 10000000000000) (mj : m[j]? = some (some (.int c))) : gFs [gC (.str [64]), gUn mFmt (gVar j)] [] m h = .ok (.str (wd c)) h := by
  have f1 := itoa_small h0 h1
  have f2 := itoa_len h0 h1
  have v1 : gVar j m h = .ok (.int c) h := var_at mj
  have e1 : gUn mFmt (gVar j) m h = .ok (.str (itoa c)) h := by simp only [gUn, v1, Out.bind, mFmt, f1, if_pos]
  show ((Out.ok (MV.str [64]) h).bind fun x h1 => match x with
    | .str s => if [].length + s.length ≤ 1000000 then gFs [gUn mFmt (gVar j)] ([] ++ s) m h1 else .bad
    | _ => .bad) = _
  simp only [Out.bind, gFs, e1, List.length_nil, List.length_cons, List.nil_append, List.cons_append]
  rw [if_pos (by omega), if_pos (by omega)]
  rfl
abbrev Ob := List (Int × Int)
def cKv (O : Ob) : List (MK × MV) := O.map fun o => (.inr (wd o.1), .int o.1)
def zKv (O : Ob) : List (MK × MV) := O.map fun o => (.inl o.1, .int o.2)
def Fine (O : Ob) : Prop := (O.map (·.1)).Nodup ∧ ∀ o ∈ O, 0 ≤ o.1 ∧ 2 ≤ o.2
theorem find_c {w : List Nat} : ∀ O : Ob, dval keq (cKv O) (.inr w) = (O.find? fun o => leq (wd o.1) w).map fun o => .int o.1
  | [] => rfl
  | o :: O => by
    show (if leq (wd o.1) w = true then some (MV.int o.1) else dval keq (cKv O) (.inr w)) = _
    rw [List.find?_cons, find_c O]
    cases leq (wd o.1) w <;> rfl
theorem find_z {c : Int} : ∀ O : Ob, dval keq (zKv O) (.inl c) = (O.find? fun o => decide (o.1 = c)).map fun o => .int o.2
  | [] => rfl
  | o :: O => by
    show (if decide (o.1 = c) = true then some (MV.int o.2) else dval keq (zKv O) (.inl c)) = _
    rw [List.find?_cons, find_z O]
    cases decide (o.1 = c) <;> rfl
theorem Fine.tl {o : Int × Int} {O : Ob} (f : Fine (o :: O)) : Fine O ∧ (∀ p ∈ O, p.1 ≠ o.1) := by
  obtain ⟨h1, h2⟩ := f
  rw [List.map_cons, List.nodup_cons] at h1
  exact ⟨⟨h1.2, fun p hp => h2 p (List.mem_cons_of_mem _ hp)⟩, fun p hp z => h1.1 (by rw [← z]; exact List.mem_map_of_mem hp)⟩
theorem find_id {o : Int × Int} : ∀ {O : Ob}, Fine O → o ∈ O → O.find? (fun p => decide (p.1 = o.1)) = some o
  | [], _, h => by cases h
  | p :: O, f, h => by
    rw [List.find?_cons]
    obtain ⟨f1, f2⟩ := f.tl
    rcases List.mem_cons.mp h with rfl | h
    · rw [decide_eq_true rfl]
    · rw [decide_eq_false (fun z => f2 o h z.symm)]
      exact find_id f1 h
theorem find_wd {o : Int × Int} {O : Ob} (f : Fine O) (h : o ∈ O) : O.find? (fun p => leq (wd p.1) (wd o.1)) = some o := by
  have e : O.find? (fun p => leq (wd p.1) (wd o.1)) = O.find? (fun p => decide (p.1 = o.1)) := by
    clear h
    induction O with
    | nil => rfl
    | cons p O ih =>
      rw [List.find?_cons, List.find?_cons, ih f.tl.1]
      by_cases z : 0 ≤ o.1
      · rw [wk (f.2 p List.mem_cons_self).1 z]
      · have q := (f.2 p List.mem_cons_self).1
        have n1 : p.1 ≠ o.1 := by omega
        have n2 : leq (wd p.1) (wd o.1) = false := by
          cases k : leq (wd p.1) (wd o.1) with
          | false => rfl
          | true =>
            have e := leq_iff.mp k
            exfalso
            obtain ⟨x, hx⟩ := Int.eq_ofNat_of_zero_le q
            rw [hx] at e
            have e' : itoaN x = itoa o.1 := (List.cons.inj e).2
            obtain ⟨y, hy⟩ : ∃ y : Nat, o.1 = Int.negSucc y := ⟨(-o.1 - 1).toNat, by omega⟩
            rw [hy] at e'
            have : (45 : Nat) ∈ itoaN x := by rw [e']; exact List.mem_cons_self
            obtain ⟨d, hd, hd2⟩ := List.mem_map.mp this
            have h := Nat.isDigit_of_mem_toDigits (by decide) (by decide) hd
            simp only [Char.isDigit, Bool.and_eq_true, decide_eq_true_eq] at h
            have h1 : 48 ≤ d.toNat := h.1
            omega
        rw [n2, decide_eq_false n1]
  rw [e]; exact find_id f h
theorem has_c {c : Int} (h1 : 0 ≤ c) : ∀ {O : Ob}, (∀ o ∈ O, 0 ≤ o.1 ∧ o.1 ≠ c) → dhas keq (cKv O) (.inr (wd c)) = false
  | [], _ => rfl
  | o :: O, f => by
    have fo := f o List.mem_cons_self
    show (if leq (wd o.1) (wd c) = true then true else dhas keq (cKv O) (.inr (wd c))) = _
    rw [wk fo.1 h1, decide_eq_false fo.2, has_c h1 fun p hp => f p (List.mem_cons_of_mem _ hp)]
    rfl
theorem has_z {c : Int} : ∀ {O : Ob}, (∀ o ∈ O, o.1 ≠ c) → dhas keq (zKv O) (.inl c) = false
  | [], _ => rfl
  | o :: O, f => by
    show (if decide (o.1 = c) = true then true else dhas keq (zKv O) (.inl c)) = _
    rw [decide_eq_false (f o List.mem_cons_self), has_z fun p hp => f p (List.mem_cons_of_mem _ hp)]
    rfl
theorem keys_z : ∀ O : Ob, keysOf (zKv O) = some (O.map (·.1))
  | [] => rfl
  | o :: O => by
    show (keysOf (zKv O)).map (fun l => o.1 :: l) = _
    rw [keys_z O]; rfl
theorem cKv_app (O : Ob) (c z : Int) : cKv O ++ [(.inr (wd c), .int c)] = cKv (O ++ [(c, z)]) := by simp [cKv]
theorem zKv_app (O : Ob) (c z : Int) : zKv O ++ [(.inl c, .int z)] = zKv (O ++ [(c, z)]) := by simp [zKv]
theorem Fine.app {O : Ob} (f : Fine O) {c z : Int} (n : ∀ o ∈ O, o.1 ≠ c) (h1 : 0 ≤ c) (h3 : 2 ≤ z) : Fine (O ++ [(c, z)]) := by
  refine ⟨?_, fun o ho => ?_⟩
  · rw [List.map_append, List.nodup_append]
    refine ⟨f.1, by simp, fun a ha b hb => ?_⟩
    obtain ⟨o, ho, rfl⟩ := List.mem_map.mp ha
    simp only [List.map_cons, List.map_nil, List.mem_singleton] at hb
    rw [hb]
    exact n o ho
  · rcases List.mem_append.mp ho with ho | ho
    · exact f.2 o ho
    · rw [List.mem_singleton.mp ho]; exact ⟨h1, h3⟩
abbrev Obj3 := Int × MV × List MV
abbrev Obs := List Obj3
def sz (o : Obj3) : Int := 2 + o.2.2.length
def cl (o : Obj3) : List MV := o.2.1 :: .int o.2.2.length :: o.2.2
def szs (D : Obs) : Ob := D.map fun o => (o.1, sz o)
def spread : Obs → Int → MV
  | [], _ => .non
  | o :: D, c => if o.1 ≤ c ∧ c < o.1 + sz o then ((cl o)[(c - o.1).toNat]?).getD .non else spread D c
def OkO (o : Obj3) : Prop := 0 ≤ o.1 ∧ atB o.2.1 = true ∧ o.2.1 ≠ .non ∧ (∀ a ∈ o.2.2, atB a = true) ∧ o.2.2.length ≤ 20
def Apt (a b : Obj3) : Prop := a.1 + sz a ≤ b.1 ∨ b.1 + sz b ≤ a.1
structure Sep (D : Obs) : Prop where
  pw : D.Pairwise Apt
  ok : ∀ o ∈ D, OkO o
theorem sz_pos (o : Obj3) : 2 ≤ sz o := by unfold sz; omega
theorem Apt.symm {a b : Obj3} (h : Apt a b) : Apt b a := h.elim .inr .inl
theorem Sep.nil : Sep [] := ⟨.nil, fun o ho => by cases ho⟩
theorem Sep.tl {o : Obj3} {D : Obs} (s : Sep (o :: D)) : Sep D ∧ OkO o ∧ ∀ p ∈ D, Apt o p := by
  obtain ⟨h1, h2⟩ := s
  rw [List.pairwise_cons] at h1
  exact ⟨⟨h1.2, fun p hp => h2 p (List.mem_cons_of_mem _ hp)⟩, h2 o List.mem_cons_self, h1.1⟩
theorem Sep.apt {a b : Obj3} {D : Obs} (s : Sep D) (ha : a ∈ D) (hb : b ∈ D) : a = b ∨ Apt a b := by
  induction D with
  | nil => cases ha
  | cons o D ih =>
    obtain ⟨s1, s2, s3⟩ := s.tl
    rcases List.mem_cons.mp ha with za | ha
    · rcases List.mem_cons.mp hb with zb | hb
      · exact .inl (za.trans zb.symm)
      · exact .inr (za ▸ s3 b hb)
    · rcases List.mem_cons.mp hb with zb | hb
      · exact .inr (zb ▸ (s3 a ha).symm)
      · exact ih s1 ha hb
theorem Sep.same {a b : Obj3} {D : Obs} (s : Sep D) (ha : a ∈ D) (hb : b ∈ D) (e : a.1 = b.1) : a = b := by
  rcases s.apt ha hb with z | z
  · exact z
  · have := sz_pos a
    have := sz_pos b
    rcases z with z | z <;> omega
theorem Sep.perm {D D' : Obs} (s : Sep D) (p : D.Perm D') : Sep D' :=
  ⟨p.pairwise s.pw fun h => h.symm, fun o ho => s.ok o (p.mem_iff.mpr ho)⟩
theorem spread_none {D : Obs} {c : Int} (n : ∀ o ∈ D, c < o.1 ∨ o.1 + sz o ≤ c) : spread D c = .non := by
  induction D with
  | nil => rfl
  | cons o D ih =>
    unfold spread
    have := n o List.mem_cons_self
    rw [if_neg (by omega)]
    exact ih fun p hp => n p (List.mem_cons_of_mem _ hp)
theorem spread_at {D : Obs} (s : Sep D) {o : Obj3} (ho : o ∈ D) {c : Int} (h1 : o.1 ≤ c) (h2 : c < o.1 + sz o) : spread D c = ((cl o)[(c - o.1).toNat]?).getD .non := by
  induction D with
  | nil => cases ho
  | cons p D ih =>
    obtain ⟨s1, s2, s3⟩ := s.tl
    unfold spread
    rcases List.mem_cons.mp ho with rfl | ho
    · rw [if_pos ⟨h1, h2⟩]
    · rw [if_neg (by rcases s3 o ho with z | z <;> omega)]
      exact ih s1 ho
theorem spread_some {D : Obs} {c : Int} (n : spread D c ≠ .non) : ∃ o ∈ D, o.1 ≤ c ∧ c < o.1 + sz o := by
  by_cases z : ∃ o ∈ D, o.1 ≤ c ∧ c < o.1 + sz o
  · exact z
  · exact absurd (spread_none fun o ho => by
      by_cases y : o.1 ≤ c
      · exact .inr (by
          by_cases x : c < o.1 + sz o
          · exact absurd ⟨o, ho, y, x⟩ z
          · omega)
      · exact .inl (by omega)) n
theorem spread_first {D : Obs} (s : Sep D) {o : Obj3} (ho : o ∈ D) : spread D o.1 = o.2.1 := by
  have := sz_pos o
  rw [spread_at s ho (Int.le_refl _) (by omega)]
  simp [cl]
theorem spread_second {D : Obs} (s : Sep D) {o : Obj3} (ho : o ∈ D) : spread D (o.1 + 1) = .int o.2.2.length := by
  have := sz_pos o
  rw [spread_at s ho (by omega) (by omega)]
  have : (o.1 + 1 - o.1).toNat = 1 := by omega
  rw [this]
  simp [cl]
theorem spread_atom {D : Obs} (s : Sep D) {o : Obj3} (ho : o ∈ D) {k : Nat} (hk : k < o.2.2.length) : spread D (o.1 + 2 + (k : Nat)) = (o.2.2[k]?).getD .non := by
  rw [spread_at s ho (by omega) (by unfold sz; omega)]
  have : (o.1 + 2 + (k : Nat) - o.1).toNat = k + 2 := by omega
  rw [this]
  simp [cl]
def over (V : Int → MV) (c : Int) (xs : List MV) (x : Int) : MV := if c ≤ x ∧ x < c + xs.length then (xs[(x - c).toNat]?).getD .non else V x
theorem spread_app {D : Obs} (s : Sep D) {o : Obj3} (a : ∀ p ∈ D, Apt p o) (x : Int) : spread (D ++ [o]) x = over (spread D) o.1 (cl o) x := by
  have ln : ((cl o).length : Int) = sz o := by unfold cl sz; simp; omega
  unfold over
  rw [ln]
  induction D with
  | nil => simp [spread]
  | cons p D ih =>
    obtain ⟨s1, s2, s3⟩ := s.tl
    rw [List.cons_append]
    unfold spread
    have ap := a p List.mem_cons_self
    rw [ih s1 fun q hq => a q (List.mem_cons_of_mem _ hq)]
    by_cases z : p.1 ≤ x ∧ x < p.1 + sz p
    · rw [if_pos z, if_neg (by rcases ap with y | y <;> omega)]
      try rw [if_pos z]
    · rw [if_neg z]
      try rw [if_neg z]
theorem Sep.app {D : Obs} (s : Sep D) {o : Obj3} (ok : OkO o) (a : ∀ p ∈ D, Apt p o) : Sep (D ++ [o]) := by
  refine ⟨List.pairwise_append.mpr ⟨s.pw, by simp, fun p hp q hq => by rw [List.mem_singleton.mp hq]; exact a p hp⟩, fun p hp => ?_⟩
  rcases List.mem_append.mp hp with hp | hp
  · exact s.ok p hp
  · rw [List.mem_singleton.mp hp]; exact ok
def putD (c : Int) (k : Nat) (a : MV) (D : Obs) : Obs := D.map fun o => if o.1 = c then (o.1, o.2.1, o.2.2.set k a) else o
theorem szs_put (c : Int) (k : Nat) (a : MV) (D : Obs) : szs (putD c k a D) = szs D := by
  unfold szs putD
  rw [List.map_map]
  refine List.map_congr_left fun o _ => ?_
  show ((if o.1 = c then (o.1, o.2.1, o.2.2.set k a) else o).1, sz (if o.1 = c then (o.1, o.2.1, o.2.2.set k a) else o)) = _
  split
  · simp [sz]
  · rfl
def put1 (c : Int) (k : Nat) (a : MV) (o : Obj3) : Obj3 := if o.1 = c then (o.1, o.2.1, o.2.2.set k a) else o
theorem put1_fst {c : Int} {k : Nat} {a : MV} {o : Obj3} : (put1 c k a o).1 = o.1 ∧ sz (put1 c k a o) = sz o ∧ (put1 c k a o).2.1 = o.2.1 := by
  unfold put1
  split
  · simp [sz]
  · exact ⟨rfl, rfl, rfl⟩
theorem putD_eq {c : Int} {k : Nat} {a : MV} {D : Obs} : putD c k a D = D.map (put1 c k a) := rfl
theorem Sep.put {D : Obs} (s : Sep D) (c : Int) (k : Nat) {a : MV} (ha : atB a = true) : Sep (putD c k a D) := by
  rw [putD_eq]
  refine ⟨?_, fun o ho => ?_⟩
  · rw [List.pairwise_map]
    refine s.pw.imp fun {p q} h => ?_
    unfold Apt
    rw [put1_fst.1, put1_fst.2.1, put1_fst.1, put1_fst.2.1]
    exact h
  · obtain ⟨p, hp, rfl⟩ := List.mem_map.mp ho
    obtain ⟨a1, a2, a3, a4, a5⟩ := s.ok p hp
    refine ⟨by rw [put1_fst.1]; exact a1, by rw [put1_fst.2.2]; exact a2, by rw [put1_fst.2.2]; exact a3, ?_, ?_⟩
    · unfold put1
      split
      · intro x hx
        rcases List.mem_or_eq_of_mem_set hx with y | y
        · exact a4 x y
        · rw [y]; exact ha
      · exact a4
    · unfold put1
      split
      · simpa using a5
      · exact a5
theorem spread_put {D : Obs} (s : Sep D) {o : Obj3} (ho : o ∈ D) {k : Nat} (hk : k < o.2.2.length) {a : MV} (ha : atB a = true) (x : Int) : spread (putD o.1 k a D) x = if x = o.1 + 2 + (k : Nat) then a else spread D x := by
  have s' := s.put o.1 k ha
  by_cases y : ∃ q ∈ D, q.1 ≤ x ∧ x < q.1 + sz q
  · obtain ⟨q, hq, y1, y2⟩ := y
    have hq2 : put1 o.1 k a q ∈ putD o.1 k a D := List.mem_map_of_mem hq
    rw [spread_at s hq y1 y2, spread_at s' hq2 (by rw [put1_fst.1]; exact y1) (by rw [put1_fst.1, put1_fst.2.1]; exact y2), put1_fst.1]
    by_cases e : q.1 = o.1
    · have eq := s.same hq ho e
      subst eq
      unfold put1
      rw [if_pos rfl]
      obtain ⟨n, hn⟩ : ∃ n : Nat, x = q.1 + (n : Nat) := ⟨(x - q.1).toNat, by omega⟩
      have e1 : (x - q.1).toNat = n := by omega
      rw [e1]
      unfold cl
      simp only
      rcases n with _ | _ | n
      · rw [if_neg (by omega)]; rfl
      · rw [if_neg (by omega)]; simp
      · simp only [List.getElem?_cons_succ]
        by_cases w : n = k
        · subst w
          rw [if_pos (by omega), List.getElem?_set_self hk]; rfl
        · rw [if_neg (by omega), List.getElem?_set_ne (Ne.symm w)]
    · have e2 : put1 o.1 k a q = q := by unfold put1; rw [if_neg e]
      rw [e2]
      have : x ≠ o.1 + 2 + (k : Nat) := fun z => by
        rcases s.apt hq ho with w | w
        · exact e (by rw [w])
        · have : sz o = 2 + (o.2.2.length : Int) := rfl
          rcases w with w | w <;> omega
      rw [if_neg this]
  · have nn : ∀ q ∈ D, x < q.1 ∨ q.1 + sz q ≤ x := fun q hq => by
      by_cases a : q.1 ≤ x
      · exact .inr (by
          by_cases b : x < q.1 + sz q
          · exact absurd ⟨q, hq, a, b⟩ y
          · omega)
      · exact .inl (by omega)
    rw [spread_none nn, spread_none fun q hq => ?_, if_neg ?_]
    · intro z
      have := nn o ho
      have : sz o = 2 + (o.2.2.length : Int) := rfl
      omega
    · rw [putD_eq] at hq
      obtain ⟨p, hp, rfl⟩ := List.mem_map.mp hq
      rw [put1_fst.1, put1_fst.2.1]
      exact nn p hp
end HC
set_option Elab.async false
set_option linter.all false
set_option maxRecDepth 100000
set_option maxHeartbeats 400000
namespace HC
open MI XG XM XK DK PySem
open L2 (atI ixN)
abbrev nPuts : Nat := 1060688294411939872880
abbrev nFil : Nat := 4056483874355454706685166141571174
def mPutsM (C : Nat) : MF := gBody 1 (gRet (gFld [C] fP (gVar 0)))
def eFl : ME := gLc (gRng1 (gC (.int 8))) (.one 4) (gB (gNotN (gBin mIx (gVar 3) (gVar 4)))) (gBin mAdd (gBin mMulA (gVar 2) (gC (.int 8))) (gVar 4)) [4]
def bFl (C : Nat) : MS := gSeq (gAsg (gBin mIx (gFld [C] fR (gVar 0)) (gVar 2)) (tgName 3)) (gExpr (gBM "list" lExtA (gVar 1) (gCons eFl (gNil))))
def mFil (C : Nat) : MF := gBody 5 (gSeq (gAsg (gLst (gNil)) (tgName 1)) (gSeq (gFor (gIter (gCB (f1 mSortedA) (gCons (gFld [C] fR (gVar 0)) (gNil)))) (tgName 2) (bFl C)) (gRet (gVar 1))))
structure CM (C : Nat) (h : MH) (s r b : Nat) (R : Rows) (B : List (Int × MV)) (L : Nat) (p : Int) : Prop where
  im : MemK C h s r b R L B none 0
  ip : h.get s = some (.ins C (XK.flds r b (kv none, 0) p))
  ne : Ne R
section
variable {C : Nat} {h h' : MH} {s r b L : Nat} {R : Rows} {B : List (Int × MV)} {p : Int}
theorem CM.frame (M : CM C h s r b R B L p) (e : ∀ j ∈ fp s r b R, j < h.n → h'.get j = h.get j) : CM C h' s r b R B L p :=
  ⟨M.im.frame fun j hj hl => e j (by simpa [kr] using hj) hl, (e s (by simp) (MH.get_lt M.ip)).trans M.ip, M.ne⟩
theorem CM.up (M : CM C h s r b R B L p) (u : Up h h') : CM C h' s r b R B L p := M.frame fun j _ hl => u.get j hl
theorem CM.kp {F : List Nat} (M : CM C h s r b R B L p) (u : Kp F h h') (d : ∀ j ∈ fp s r b R, j ∉ F) : CM C h' s r b R B L p := M.frame fun j hj hl => u.get j hl (d j hj)
theorem CM.le {L' : Nat} (M : CM C h s r b R B L p) (l : L ≤ L') : CM C h s r b R B L' p := ⟨M.im.le l, M.ip, M.ne⟩
theorem CM.lt (M : CM C h s r b R B L p) : ∀ j ∈ fp s r b R, j < h.n := M.im.w.lt
theorem CM.put (M : CM C h s r b R B L p) (hL : L + 2 < 1000000) (c : Int) {a : MV} (ha : atB a = true) :
    ∃ h' R' B' p', mPutX C [.ref s, .int c, a] h = .ok .non h' ∧ CM C h' s r b R' B' (L + 2) p' ∧ (∀ x, rget R' x = if x = c then a else rget R x) ∧ Kp (fp s r b R) h h' ∧ (∀ j ∈ fp s r b R', j ∈ fp s r b R ∨ h.n ≤ j) ∧ p ≤ p' ∧ (p' = p → rget R c = a) := by
  obtain ⟨h', R', B', ko', e1, e2, e3, e4, e5, e6, e7, p0, p1, i0, i1, e8⟩ := put_okP M.im M.ne hL c ha
  have ep : p0 = p := by
    have := M.ip.symm.trans i0
    have := Option.some.inj this
    simp only [MO.ins.injEq, XK.flds, List.cons.injEq, Prod.mk.injEq, MV.int.injEq, true_and, and_true] at this
    exact this.symm
  have kn : ko' = none := by
    rcases e7 with ⟨_, _, z⟩ | ⟨_, z⟩
    · exact z
    · rw [z]; rfl
  subst kn ep
  refine ⟨h', R', B', p1, e1, ⟨e2, i1, e3⟩, e4, by simpa [kr] using e5, e6, ?_, fun z => ?_⟩
  · rcases e8 with ⟨z, _⟩ | z <;> omega
  · rcases e8 with ⟨_, _, z, _⟩ | z
    · have := e4 c
      rw [if_pos rfl, z] at this
      exact this
    · omega
theorem CM.get (M : CM C h s r b R B L p) (c : Int) : mGet C [.ref s, .int c] h = .ok (rget R c) h := get_ok M.im.w c
theorem CM.puts {o : ME} {m : ML} (M : CM C h s r b R B L p) (eo : o m h = .ok (.ref s) h) : gMeth C nPuts (mPutsM C) [] 1 o gNil m h = .ok (.int p) h := by
  have f := fld_at (C := C) (f := fP) (m := [some (.ref s)]) (y := .int p) rfl M.ip rfl
  refine (meth0 (n := 1) eo M.ip rfl rfl).trans (body_rt (v := .int p) ?_)
  show gRet _ [some (.ref s)] h = _
  simp only [gRet, f, Out.bindS]
def pgF (n : Int) (xs : List MV) (k : Nat) : List Int := ((List.range k).filter fun i => !mIsN ((xs[i]?).getD .non)).map fun i => n * 8 + (i : Nat)
theorem pgF_succ (n : Int) (xs : List MV) (k : Nat) : pgF n xs (k + 1) = pgF n xs k ++ if mIsN ((xs[k]?).getD .non) = true then [] else [n * 8 + (k : Nat)] := by
  unfold pgF
  rw [List.range_succ, List.filter_append, List.map_append]
  congr 1
  cases e : mIsN ((xs[k]?).getD .non) <;> simp [e]
theorem fl_ok {q : Nat} {xs : List MV} {n : Int} {o0 o1 o4 : Option MV} (g : h.get q = some (.lst xs)) (l8 : xs.length = 8) :
    ∃ h', eFl [o0, o1, some (.int n), some (.ref q), o4] h = .ok (.ref h.n) h' ∧ h'.get h.n = some (.lst ((pgF n xs 8).map MV.int)) ∧ Up h h' := by
  obtain ⟨acc, h1, l1, ⟨e1, u1⟩, g1⟩ := lc_loop (it := it1R 0 8) (c := .one 4) (t := gB (gNotN (gBin mIx (gVar 3) (gVar 4)))) (e := gBin mAdd (gBin mMulA (gVar 2) (gC (.int 8))) (gVar 4)) (D := h.n) (mw := [o0, o1, some (.int n), some (.ref q), none]) (N := 8) (by omega)
    (fun j acc h' => acc = (pgF n xs j).map MV.int ∧ Up h h')
    (fun _ _ _ => rng_end) (fun j acc h' hj ⟨ea, u⟩ gD => by
      have hx : xs[j]? = some xs[j] := List.getElem?_eq_getElem (by omega)
      have v3 : gVar 3 [o0, o1, some (.int n), some (.ref q), some (.int (j : Nat))] h' = .ok (.ref q) h' := rfl
      have v4 : gVar 4 [o0, o1, some (.int n), some (.ref q), some (.int (j : Nat))] h' = .ok (.int (j : Nat)) h' := rfl
      have ix : mIx (.ref q) (.int (j : Nat)) h' = .ok xs[j] h' := Sq.ix (.ref (u.at g)) hx
      have hs := pgF_succ n xs j
      rw [hx] at hs
      refine ⟨.int (j : Nat), [o0, o1, some (.int n), some (.ref q), some (.int (j : Nat))], h', !mIsN xs[j], h', rng_at0 hj, rfl, ?_, fun z => ?_, fun z => ?_⟩
      · simp only [MI.gB, gNotN, gUn, gBin, v3, v4, Out.bind, ix]
      · have z' : mIsN xs[j] = true := by simpa using z
        simp only [Option.getD_some, z', if_pos, List.append_nil] at hs
        exact ⟨⟨by rw [ea, hs], u⟩, gD⟩
      · have z' : mIsN xs[j] = false := by simpa using z
        simp only [Option.getD_some, z', Bool.false_eq_true, if_false] at hs
        refine ⟨.int (n * 8 + (j : Nat)), h', ?_, gD, ⟨?_, u.set (Nat.le_refl _) gD⟩⟩
        · have v2 : gVar 2 [o0, o1, some (.int n), some (.ref q), some (.int (j : Nat))] h' = .ok (.int n) h' := rfl
          have mm : mMulA (.int n) (.int 8) h' = .ok (.int (n * 8)) h' := by
            have c : cMul n 8 = true := by unfold cMul; rw [Bool.or_eq_true]; exact .inr (by decide)
            simp [mMulA, isTup, isStr, mMulV, isRep, mMul, mIc, c]
          simp only [gBin, v2, v4, Out.bind, gC, mm, mAdd]
        · rw [ea, hs]; simp)
    9 0 [] (h.push (.lst [])) (by omega) (by omega) (by simp) ⟨rfl, Up.push⟩ get_top
  subst e1
  exact ⟨h1, l1, g1, u1⟩
def fils (R : Rows) (ns : List Int) : List Int := ns.flatMap fun n => match look R n with
  | some q => pgF n q.2 8
  | none => []
theorem look_keys {n : Int} : ∀ {R : Rows}, n ∈ R.map (fun p => p.1) → ∃ q, look R n = some q
  | [], h => by cases h
  | p :: R, h => by
    unfold look
    by_cases z : p.1 = n
    · exact ⟨p.2, by rw [if_pos z]⟩
    · rw [if_neg z]
      rcases List.mem_cons.mp h with y | y
      · exact absurd y.symm z
      · exact look_keys y
theorem ext_ok {q d : Nat} {xs ys : List MV} {o e : ME} {m : ML} {h1 : MH} (eo : o m h = .ok (.ref q) h) (ee : e m h = .ok (.ref d) h1) (gq : h1.get q = some (.lst xs)) (gd : h1.get d = some (.lst ys)) (hq : h.get q = some (.lst xs)) (l : xs.length + ys.length < 1000000) :
    gExpr (gBM "list" lExtA o (gCons e gNil)) m h = .nx m (h1.set q (.lst (xs ++ ys))) := by
  have ty : isTy h "list" (.ref q) = true := by simp [isTy, hq]
  simp only [gExpr, gBM, eo, Out.bind, ty, if_pos, gCons, ee, gNil, lExtA, lExt, gq, gd, l, Out.bindS]
theorem pgF_len (n : Int) (xs : List MV) (k : Nat) : (pgF n xs k).length ≤ k := by
  unfold pgF
  rw [List.length_map]
  exact Nat.le_trans (List.length_filter_le _ _) (by simp)
theorem CM.fil (M : CM C h s r b R B L p) (hR : R.length < 60) :
    ∃ h' q, mFil C [.ref s] h = .ok (.ref q) h' ∧ h'.get q = some (.lst ((fils R (isort (R.map fun p => p.1))).map MV.int)) ∧ Up h h' ∧ h.n ≤ q := by
  obtain ⟨ns, ens⟩ : ∃ ns, ns = isort (R.map fun p => p.1) := ⟨_, rfl⟩
  have lns : ns.length = R.length := by rw [ens, (isort_perm _).length_eq, List.length_map]
  have M1 := M.up (Up.push (o := .lst []))
  have so : mSortedA (.ref r) (h.push (.lst [])) = .ok (.ref (h.push (.lst [])).n) ((h.push (.lst [])).push (.lst (ns.map MV.int))) := by
    have l : (R.map fun p => p.1).length < 64 := by rw [List.length_map]; omega
    simp only [mSortedA, M1.im.w.dr, keys_rKv, Option.isSome, if_pos, mSorted, l, ens]
  obtain ⟨h2, e2⟩ : ∃ h2, h2 = (h.push (.lst [])).push (.lst (ns.map MV.int)) := ⟨_, rfl⟩
  rw [← e2] at so
  have u2 : Up (h.push (.lst [])) h2 := by rw [e2]; exact Up.push
  have gn : h2.get (h.push (.lst [])).n = some (.lst (ns.map MV.int)) := by rw [e2]; exact get_top
  have gq : h2.get h.n = some (.lst []) := u2.at get_top
  have M2 := M1.up u2
  have n2 : h2.n = h.n + 2 := by rw [e2]; rfl
  have pn : (h.push (.lst [])).n = h.n + 1 := rfl
  obtain ⟨it, i1, i2, i3⟩ := DK.iter_it (m := [some (.ref s), some (.ref h.n), none, none, none]) (g := fun _ h' => .ok (.ref (h.push (.lst [])).n) h') (.ref gn) rfl
  obtain ⟨m', h', l1, o2, o3, o4, l2, l3, l4, _⟩ := for_loop (it := it) (t := tgName 2) (b := bFl C) (N := ns.length)
    (fun j m h' => ∃ o2 o3 o4, m = [some (.ref s), some (.ref h.n), o2, o3, o4] ∧ h'.get h.n = some (.lst ((fils R (ns.take j)).map MV.int)) ∧ Kp [h.n] h2 h' ∧ (fils R (ns.take j)).length ≤ 8 * j)
    (fun m h' ⟨o2, o3, o4, q1, q2, q3, _⟩ => by rw [i3 h' (.ref (q3.at gn (by simp [pn])))]; rw [List.getElem?_eq_none (by simp)])
    (fun j m h' hj ⟨o2, o3, o4, q1, q2, q3, q4⟩ => by
      subst q1
      have hx : ns[j]? = some ns[j] := List.getElem?_eq_getElem hj
      have mem : ns[j] ∈ R.map fun p => p.1 := by
        have := List.getElem_mem hj
        have := (isort_perm (R.map fun p => p.1)).mem_iff (a := ns[j])
        rw [← ens] at this
        exact this.mp (List.getElem_mem hj)
      obtain ⟨q, hq⟩ := look_keys mem
      have M3 : CM C h' s r b R B L p := M2.kp q3 fun j hj z => by
        have := M.lt j hj
        simp at z; omega
      obtain ⟨w1, w2, w3⟩ := M3.im.w.row _ (look_mem hq)
      dsimp only at w1 w2
      obtain ⟨h4, f1, f2, f3⟩ := fl_ok (n := ns[j]) (o0 := some (.ref s)) (o1 := some (.ref h.n)) (o4 := o4) w1 w2
      have hs : fils R (ns.take (j + 1)) = fils R (ns.take j) ++ pgF ns[j] q.2 8 := by
        unfold fils
        rw [List.take_add_one, hx, List.flatMap_append]
        simp [hq]
      have lp := pgF_len ns[j] q.2 8
      refine ⟨.int ns[j], [some (.ref s), some (.ref h.n), some (.int ns[j]), o3, o4], h', [some (.ref s), some (.ref h.n), some (.int ns[j]), some (.ref q.1), o4], h4.set h.n (.lst ((fils R (ns.take (j + 1))).map MV.int)), ?_, rfl, ?_, _, _, _, rfl, set_get (f3.at q2), ?_, ?_⟩
      · rw [i3 h' (.ref (q3.at gn (by simp [pn])))]
        rw [List.getElem?_map, hx]; rfl
      · refine (seq_nx (asg_nx (v := .ref q.1) (h' := h') ?_)).trans ?_
        · have f := fldR (m := [some (.ref s), some (.ref h.n), some (.int ns[j]), o3, o4]) M3.im.w rfl
          have v2 : gVar 2 [some (.ref s), some (.ref h.n), some (.int ns[j]), o3, o4] h' = .ok (.int ns[j]) h' := rfl
          have d := XK.isD_r M3.im.w
          simp only [gBin, f, v2, Out.bind, mIx, d, if_pos, mIxD, XK.dGet_r M3.im.w, hq, Option.map_some, oV]
        · have := ext_ok (o := gVar 1) (e := eFl) (m := [some (.ref s), some (.ref h.n), some (.int ns[j]), some (.ref q.1), o4]) (q := h.n) (h := h') rfl f1 (f3.at q2) f2 q2 (by simp; omega)
          rw [hs, List.map_append]
          exact this
      · exact (q3.trans f3.kp).trans (Kp.set (MH.get_lt (f3.at q2)) (by simp))
      · rw [hs, List.length_append]; omega)
    (ns.length + 1) 0 [some (.ref s), some (.ref h.n), none, none, none] h2 (by omega) (Nat.zero_le _) ⟨none, none, none, rfl, gq, .refl, by simp [fils]⟩
  subst l2
  rw [List.take_length] at l3
  have it0 : gIter (gCB (f1 mSortedA) (gCons (gFld [C] fR (gVar 0)) (gNil))) [some (.ref s), some (.ref h.n), none, none, none] (h.push (.lst [])) = .ok it h2 := by
    have f := fldR (m := [some (.ref s), some (.ref h.n), none, none, none]) M1.im.w rfl
    unfold gIter at i1 ⊢
    simp only [gCB, f1, gCons, gNil, f, Out.bind, so] at i1 ⊢
    exact i1
  refine ⟨h', h.n, body_rt (v := .ref h.n) ((seq_nx (m' := [some (.ref s), some (.ref h.n), none, none, none]) (h' := h.push (.lst [])) rfl).trans ((seq_nx (m' := [some (.ref s), some (.ref h.n), o2, o3, o4]) (h' := h') ?_).trans rfl)), by rw [← ens]; exact l3, ⟨by have := l4.n; omega, fun j hj => ?_⟩, Nat.le_refl _⟩
  · unfold gFor
    rw [it0]
    simp only [Out.bindS]
    rw [i2, List.length_map]
    exact l1
  · rw [l4.get j (by omega) (by simp; omega), u2.get j (by omega), (Up.push).get j hj]
end
end HC
set_option Elab.async false
set_option linter.all false
set_option maxRecDepth 100000
set_option maxHeartbeats 400000
namespace HC
open MI XG XM XK DK PySem
open L2 (atI ixN)
abbrev fMem : Nat := 10293546223749925205608922112418656551007
abbrev fCells : Nat := 4664956297864696616211264909082719
abbrev fSizes : Nat := 4664956162465133946598905528451167
abbrev fWat : Nat := 43026628541309995105828283364444002592150526583898207
abbrev nLook : Nat := 2069682026975029421366313055
abbrev nAdd : Nat := 922337643490332115039
abbrev nWrt : Nat := 4097048983704927084954340317724767
abbrev nCell : Nat := 2089024812418703397113299039
abbrev nLow : Nat := 9868193305663377905544140124704506642527
abbrev nPlc : Nat := 177714576931601468876924009604150707265706476241428550636844089439
section
variable (H C eO eP : Nat) (bP bF : MS)
def mHInit : MF := gBody 2 (gSeq (gFldS [H] fMem (gVar 1) (gVar 0)) (gSeq (gFldS [H] fCells (gDic) (gVar 0)) (gSeq (gFldS [H] fSizes (gDic) (gVar 0)) (gSeq (gFldS [H] fP (gC .non) (gVar 0)) (gFldS [H] fWat (gLst (gNil)) (gVar 0))))))
def eWd : ME := gFs [gC (.str [64]), gUn mFmt (gVar 1)] []
def mAdd' : MF := gBody 3 (gSeq (gAsg (gVar 1) (tgSub (gFld [H] fCells (gVar 0)) eWd)) (gAsg (gVar 2) (tgSub (gFld [H] fSizes (gVar 0)) (gVar 1))))
def eMem : ME := gFld [H] fMem (gVar 0)
def ePuts : ME := gMeth C nPuts (mPutsM C) [] 1 (eMem H) gNil
def mLook : MF := gBody 3 (gSeq (gIfS (gB (gBin mEqX (gFld [H] fP (gVar 0)) (ePuts H C))) (gRetN) (gNext)) (gSeq (gFldS [H] fCells (gDic) (gVar 0)) (gSeq (gFldS [H] fSizes (gDic) (gVar 0)) (gSeq (gAsg (gC (.int 0)) (tgName 2)) (gSeq (gFor (gIter (gMeth C nFil (mFil C) [] 1 (eMem H) gNil)) (tgName 1) (gIfS (gB (gBin mGeI (gVar 1) (gVar 2))) (gSeq (gExpr (gMeth H nAdd (mAdd' H) [] 3 (gVar 0) (gCons (gVar 1) (gCons (gBin MI.mAdd (gC (.int 2)) (gMeth C nGet (mGet C) [] 2 (eMem H) (gCons (gBin MI.mAdd (gVar 1) (gC (.int 1))) (gNil)))) (gNil))))) (gAsg (gBin MI.mAdd (gVar 1) (gBin mIx (gFld [H] fSizes (gVar 0)) (gVar 1))) (tgName 2))) (gNext))) (gFldS [H] fP (ePuts H C) (gVar 0)))))))
def mWrt : MF := gBody 5 (gSeq (gFor (gEnumA (gVar 2)) (tgTup [4, 3]) (gExpr (gMeth C nPut (mPutX C) [] 3 (eMem H) (gCons (gBin MI.mAdd (gVar 1) (gVar 4)) (gCons (gVar 3) (gNil)))))) (gFldS [H] fP (ePuts H C) (gVar 0)))
def mCell : MF := gBody 2 (gSeq (gExpr (gMeth H nLook (mLook H C) [] 1 (gVar 0) gNil)) (gSeq (gIfS (gB (gBin (mIn fun b => !b) (gVar 1) (gFld [H] fCells (gVar 0)))) (gRaise1 eO 448600955945074 (gVar 1)) (gNext)) (gRet (gBin mIx (gFld [H] fCells (gVar 0)) (gVar 1)))))
def mPlc : MF := gBody 4 (gSeq (gAsg (gMeth H nCell (mCell H C eO) [] 2 (gVar 0) (gCons (gVar 1) (gNil))) (tgName 3)) (gSeq (gIfS (gOr (gB (gBin mLtI (gVar 2) (gC (.int 0)))) (gB (gBin mGeI (gVar 2) (gBin mSub (gBin mIx (gFld [H] fSizes (gVar 0)) (gVar 3)) (gC (.int 2)))))) (gRaise1 eP 1953625037611499005686055024 (gVar 2)) (gNext)) (gRet (gBin MI.mAdd (gBin MI.mAdd (gVar 3) (gC (.int 2))) (gVar 2)))))
def bLow : MS := gSeq (gIfS (gB (gBin mGeI (gBin mSub (gVar 2) (gVar 3)) (gVar 1))) (gRet (gVar 3)) (gNext)) (gAsg (gBin MI.mAdd (gVar 2) (gBin mIx (gFld [H] fSizes (gVar 0)) (gVar 2))) (tgName 3))
def mLow : MF := gBody 4 (gSeq (gAsg (gC (.int 0)) (tgName 3)) (gSeq (gFor (gIter (gCB (f1 mSortedA) (gCons (gFld [H] fSizes (gVar 0)) (gNil)))) (tgName 2) (bLow H)) (gRet (gVar 3))))
def mMake : MF := gBody 5 (gSeq (gExpr (gMeth H nLook (mLook H C) [] 1 (gVar 0) gNil)) (gSeq (gAsg (gBin MI.mAdd (gC (.int 2)) (gCB (f1 mLenV) (gCons (gVar 2) (gNil)))) (tgName 4)) (gSeq (gAsg (gMeth H nLow (mLow H) [] 2 (gVar 0) (gCons (gVar 4) (gNil))) (tgName 3)) (gSeq (gExpr (gMeth H nAdd (mAdd' H) [] 3 (gVar 0) (gCons (gVar 3) (gCons (gVar 4) (gNil))))) (gSeq (gExpr (gMeth H nWrt (mWrt H C) [] 3 (gVar 0) (gCons (gVar 3) (gCons (gLst (gCons (gVar 1) (gCons (gCB (f1 mLenV) (gCons (gVar 2) (gNil))) (gStar (gVar 2) (gNil))))) (gNil))))) (gRet (gFs [gC (.str [64]), gUn mFmt (gVar 3)] [])))))))
def mAtoms : MF := gBody 4 (gSeq (gAsg (gMeth H nCell (mCell H C eO) [] 2 (gVar 0) (gCons (gVar 1) (gNil))) (tgName 2)) (gRet (gCB (f1 mTuple) (gCons (gLc (gRng2 (gBin MI.mAdd (gVar 2) (gC (.int 2))) (gBin MI.mAdd (gVar 2) (gBin mIx (gFld [H] fSizes (gVar 0)) (gVar 2)))) (.one 3) (gYes) (gMeth C nGet (mGet C) [] 2 (eMem H) (gCons (gVar 3) (gNil))) [3]) (gNil)))))
def mHPut : MF := gBody 6 (gSeq (gAsg (gMeth H nPlc (mPlc H C eO eP) [] 3 (gVar 0) (gCons (gVar 1) (gCons (gVar 2) (gNil)))) (tgName 4)) (gSeq (gFor (gIter (gFld [H] fWat (gVar 0))) (tgName 5) (bP)) (gExpr (gMeth H nWrt (mWrt H C) [] 3 (gVar 0) (gCons (gVar 4) (gCons (gLst (gCons (gVar 3) (gNil))) (gNil)))))))
def mRefs : MF := gBody 2 (gSeq (gExpr (gMeth H nLook (mLook H C) [] 1 (gVar 0) gNil)) (gRet (gLc (gIter (gCB (f1 mSortedA) (gCons (gFld [H] fSizes (gVar 0)) (gNil)))) (.one 1) (gYes) (gFs [gC (.str [64]), gUn mFmt (gVar 1)] []) [1])))
end
def hf (s dc ds : Nat) (pv : MV) (w : Nat) : List (Nat × MV) := [(fMem, .ref s), (fCells, .ref dc), (fSizes, .ref ds), (fP, pv), (fWat, .ref w)]
def bLk (H C : Nat) : MS := gIfS (gB (gBin mGeI (gVar 1) (gVar 2))) (gSeq (gExpr (gMeth H nAdd (mAdd' H) [] 3 (gVar 0) (gCons (gVar 1) (gCons (gBin MI.mAdd (gC (.int 2)) (gMeth C nGet (mGet C) [] 2 (eMem H) (gCons (gBin MI.mAdd (gVar 1) (gC (.int 1))) (gNil)))) (gNil))))) (gAsg (gBin MI.mAdd (gVar 1) (gBin mIx (gFld [H] fSizes (gVar 0)) (gVar 1))) (tgName 2))) (gNext)
theorem t_look {H C : Nat} : mLook H C = gBody 3 (gSeq (gIfS (gB (gBin mEqX (gFld [H] fP (gVar 0)) (ePuts H C))) (gRetN) (gNext)) (gSeq (gFldS [H] fCells (gDic) (gVar 0)) (gSeq (gFldS [H] fSizes (gDic) (gVar 0)) (gSeq (gAsg (gC (.int 0)) (tgName 2)) (gSeq (gFor (gIter (gMeth C nFil (mFil C) [] 1 (eMem H) gNil)) (tgName 1) (bLk H C)) (gFldS [H] fP (ePuts H C) (gVar 0))))))) := rfl
structure HH (H : Nat) (h : MH) (hp s dc ds w : Nat) (pv : MV) (W : List MV) (O : Ob) : Prop where
  ih : h.get hp = some (.ins H (hf s dc ds pv w))
  gc : h.get dc = some (.dic (cKv O))
  gz : h.get ds = some (.dic (zKv O))
  gw : h.get w = some (.lst W)
  cz : dc ≠ ds
  fo : Fine O
theorem tgSub_dic {h : MH} {o i : ME} {m : ML} {q : Nat} {k z : MV} {k' : MK} {kvs : List (MK × MV)} (eo : o m h = .ok (.ref q) h) (ei : i m h = .ok k h) (mk : mkey k = some k') (g : h.get q = some (.dic kvs)) (nh : dhas keq kvs k' = false) (ln : kvs.length < 1000000) :
    tgSub o i z m h = .nx m (h.set q (.dic (kvs ++ [(k', z)]))) := by
  have d : isD h (.ref q) = true := by simp [isD, g]
  simp only [tgSub, eo, Out.bindS, ei, putM, d, if_pos, dPutM, g, mk, ln, dput, nh]
  rfl
section
variable {H C eO eP : Nat} {h h' : MH} {hp s dc ds w : Nat} {pv : MV} {W : List MV} {O : Ob}
theorem HH.df (S : HH H h hp s dc ds w pv W O) : hp ≠ dc ∧ hp ≠ ds ∧ hp ≠ w ∧ dc ≠ w ∧ ds ≠ w := by
  refine ⟨fun z => ?_, fun z => ?_, fun z => ?_, fun z => ?_, fun z => ?_⟩
  · have := S.ih; rw [z, S.gc] at this; cases this
  · have := S.ih; rw [z, S.gz] at this; cases this
  · have := S.ih; rw [z, S.gw] at this; cases this
  · have := S.gc; rw [z, S.gw] at this; cases this
  · have := S.gz; rw [z, S.gw] at this; cases this
theorem HH.lt (S : HH H h hp s dc ds w pv W O) : ∀ j ∈ [hp, dc, ds, w], j < h.n := by
  intro j hj
  simp only [List.mem_cons, List.not_mem_nil, or_false] at hj
  rcases hj with rfl | rfl | rfl | rfl
  · exact MH.get_lt S.ih
  · exact MH.get_lt S.gc
  · exact MH.get_lt S.gz
  · exact MH.get_lt S.gw
theorem HH.frame (S : HH H h hp s dc ds w pv W O) (e : ∀ j ∈ [hp, dc, ds, w], j < h.n → h'.get j = h.get j) : HH H h' hp s dc ds w pv W O := by
  have l1 := S.lt
  have g : ∀ {j o}, j ∈ [hp, dc, ds, w] → h.get j = some o → h'.get j = some o := fun hj q => (e _ hj (l1 _ hj)).trans q
  exact ⟨g (by simp) S.ih, g (by simp) S.gc, g (by simp) S.gz, g (by simp) S.gw, S.cz, S.fo⟩
theorem HH.up (S : HH H h hp s dc ds w pv W O) (u : Up h h') : HH H h' hp s dc ds w pv W O := S.frame fun j _ hl => u.get j hl
theorem HH.kp {F : List Nat} (S : HH H h hp s dc ds w pv W O) (u : Kp F h h') (d : ∀ j ∈ [hp, dc, ds, w], j ∉ F) : HH H h' hp s dc ds w pv W O := S.frame fun j hj hl => u.get j hl (d j hj)
theorem lkf {nm : Nat} (hn : nm ∉ [fMem, fCells, fSizes, fP, fWat]) : (hf s dc ds pv w).lookup nm = none := by
  simp only [List.mem_cons, List.not_mem_nil, or_false, not_or] at hn
  obtain ⟨n1, n2, n3, n4, n5⟩ := hn
  have ne : ∀ {a c : Nat}, a ≠ c → (a == c) = false := fun k => by simpa using k
  simp only [hf, List.lookup, ne n1, ne n2, ne n3, ne n4, ne n5]
theorem HH.mem (S : HH H h hp s dc ds w pv W O) {m : ML} (m0 : m[0]? = some (some (.ref hp))) : eMem H m h = .ok (.ref s) h := fld_at m0 S.ih rfl
theorem HH.size_at (S : HH H h hp s dc ds w pv W O) {o : Int × Int} (ho : o ∈ O) : mIx (.ref ds) (.int o.1) h = .ok (.int o.2) h := by
  have d : isD h (.ref ds) = true := by simp [isD, S.gz]
  simp only [mIx, d, if_pos, mIxD, dGet, S.gz, mkey, Option.map_some, find_z, find_id S.fo ho, oV]
theorem HH.cell_at (S : HH H h hp s dc ds w pv W O) {o : Int × Int} (ho : o ∈ O) : mIx (.ref dc) (.str (wd o.1)) h = .ok (.int o.1) h := by
  have d : isD h (.ref dc) = true := by simp [isD, S.gc]
  simp only [mIx, d, if_pos, mIxD, dGet, S.gc, mkey, Option.map_some, find_c, find_wd S.fo ho, oV]
theorem add_ok (S : HH H h hp s dc ds w pv W O) (hO : O.length < 1000) {c z : Int} (n : ∀ o ∈ O, o.1 ≠ c) (h1 : 0 ≤ c) (h2 : c < 10000000000000) (h3 : 2 ≤ z) :
    ∃ h', mAdd' H [.ref hp, .int c, .int z] h = .ok .non h' ∧ HH H h' hp s dc ds w pv W (O ++ [(c, z)]) ∧ Kp [dc, ds] h h' := by
  obtain ⟨d1, d2, d3, d4, d5⟩ := S.df
  have fc := fld_at (C := H) (f := fCells) (m := [some (.ref hp), some (.int c), some (.int z)]) (y := .ref dc) rfl S.ih rfl
  have wl := wd_ok (m := [some (.ref hp), some (.int c), some (.int z)]) (h := h) (j := 1) h1 h2 rfl
  have t1 := tgSub_dic (z := .int c) fc wl rfl S.gc (has_c h1 fun o ho => ⟨(S.fo.2 o ho).1, n o ho⟩) (by simp [cKv]; omega)
  rw [cKv_app O c z] at t1
  obtain ⟨hA, eA⟩ : ∃ hA, hA = h.set dc (.dic (cKv (O ++ [(c, z)]))) := ⟨_, rfl⟩
  rw [← eA] at t1
  have kA : Kp [dc] h hA := by rw [eA]; exact Kp.set (MH.get_lt S.gc) (by simp)
  have iA := kA.at S.ih (by simpa using d1)
  have zA := kA.at S.gz (by simpa using Ne.symm S.cz)
  have fz := fld_at (C := H) (f := fSizes) (m := [some (.ref hp), some (.int c), some (.int z)]) (y := .ref ds) rfl iA rfl
  have t2 := tgSub_dic (z := .int z) (i := gVar 1) (m := [some (.ref hp), some (.int c), some (.int z)]) (k := .int c) fz rfl rfl zA (has_z n) (by simp [zKv]; omega)
  rw [zKv_app O c z] at t2
  have kB : Kp [ds] hA (hA.set ds (.dic (zKv (O ++ [(c, z)])))) := Kp.set (MH.get_lt zA) (by simp)
  have kk : Kp [dc, ds] h (hA.set ds (.dic (zKv (O ++ [(c, z)])))) := (kA.le (by simp)).trans (kB.le (by simp))
  refine ⟨_, body_nx (m := [some (.ref hp), some (.int c), some (.int z)]) ((seq_nx (m' := [some (.ref hp), some (.int c), some (.int z)]) (h' := hA) ?_).trans ?_), ⟨kk.at S.ih (by simpa using ⟨d1, d2⟩), kB.at (by rw [eA]; exact set_get S.gc) (by simpa using S.cz), set_get zA, kk.at S.gw (by simpa using ⟨Ne.symm d4, Ne.symm d5⟩), S.cz, S.fo.app n h1 h3⟩, kk⟩
  · show (gVar 1 [some (.ref hp), some (.int c), some (.int z)] h).bindS _ = _
    have v1 : gVar 1 [some (.ref hp), some (.int c), some (.int z)] h = .ok (.int c) h := rfl
    rw [v1]
    show ((tgSub (gFld [H] fCells (gVar 0)) eWd) (.int c) [some (.ref hp), some (.int c), some (.int z)] h).only = _
    unfold eWd
    rw [t1]; rfl
  · have v2 : gVar 2 [some (.ref hp), some (.int c), some (.int z)] hA = .ok (.int z) hA := rfl
    show (gVar 2 [some (.ref hp), some (.int c), some (.int z)] hA).bindS _ = _
    rw [v2]
    show ((tgSub (gFld [H] fSizes (gVar 0)) (gVar 1)) (.int z) [some (.ref hp), some (.int c), some (.int z)] hA).only = _
    rw [t2]; rfl
theorem isN_iff {x : MV} : mIsN x = true ↔ x = .non := by cases x <;> simp [mIsN]
theorem pgF_mem {n : Int} {xs : List MV} {x : Int} : x ∈ pgF n xs 8 ↔ x / 8 = n ∧ XM.cellOf xs x ≠ .non := by
  unfold pgF XM.cellOf
  rw [List.mem_map]
  constructor
  · rintro ⟨i, hi, rfl⟩
    rw [List.mem_filter, List.mem_range] at hi
    have e1 : (n * 8 + (i : Nat)) / 8 = n := by omega
    have e2 : ((n * 8 + (i : Nat)) % 8).toNat = i := by omega
    rw [e1, e2]
    refine ⟨rfl, fun z => ?_⟩
    have := hi.2
    rw [z] at this
    cases this
  · rintro ⟨e, z⟩
    refine ⟨(x % 8).toNat, List.mem_filter.mpr ⟨List.mem_range.mpr (by omega), ?_⟩, by omega⟩
    cases k : mIsN ((xs[(x % 8).toNat]?).getD .non) with
    | false => rfl
    | true => exact absurd (isN_iff.mp k) z
theorem fils_mem {R : Rows} {ns : List Int} (all : ∀ n, n ∈ ns ↔ n ∈ R.map fun p => p.1) {x : Int} : x ∈ fils R ns ↔ rget R x ≠ .non := by
  unfold fils rget
  rw [List.mem_flatMap]
  constructor
  · rintro ⟨n, hn, hx⟩
    cases k : look R n with
    | none => rw [k] at hx; cases hx
    | some q =>
      rw [k] at hx
      obtain ⟨e1, e2⟩ := pgF_mem.mp hx
      rw [e1, k]; exact e2
  · intro z
    cases k : look R (x / 8) with
    | none => rw [k] at z; exact absurd rfl z
    | some q =>
      rw [k] at z
      refine ⟨x / 8, (all _).mpr (List.mem_map.mpr ⟨_, look_mem k, rfl⟩), ?_⟩
      rw [k]
      exact pgF_mem.mpr ⟨rfl, z⟩
theorem pgF_pw (n : Int) (xs : List MV) (k : Nat) : (pgF n xs k).Pairwise (· < ·) := by
  unfold pgF
  rw [List.pairwise_map]
  refine List.Pairwise.filter _ ?_
  refine List.pairwise_lt_range.imp fun {a b} h => ?_
  omega
theorem fils_pw {R : Rows} {ns : List Int} (a : ns.Pairwise (· < ·)) : (fils R ns).Pairwise (· < ·) := by
  unfold fils
  rw [List.pairwise_flatMap]
  refine ⟨fun n _ => ?_, a.imp fun {m n} hmn x hx y hy => ?_⟩
  · cases look R n with
    | none => exact .nil
    | some q => exact pgF_pw _ _ _
  · cases k : look R m with
    | none => rw [k] at hx; cases hx
    | some q =>
      cases k2 : look R n with
      | none => rw [k2] at hy; cases hy
      | some q2 =>
        rw [k] at hx
        rw [k2] at hy
        have h1 := (pgF_mem.mp hx).1
        have h2 := (pgF_mem.mp hy).1
        omega
theorem isort_lt {l : List Int} (nd : l.Nodup) : (isort l).Pairwise (· < ·) := by
  have h1 := isort_pw l
  have h2 : (isort l).Nodup := (isort_perm l).nodup_iff.mpr nd
  refine (h1.and h2).imp fun {a b} h => ?_
  have := h.1
  have := h.2
  omega
def byC (D : Obs) : Obs := D.mergeSort fun a b => decide (a.1 ≤ b.1)
theorem byC_perm (D : Obs) : (byC D).Perm D := List.mergeSort_perm D _
theorem byC_pw {D : Obs} (s : Sep D) : (byC D).Pairwise fun a b => a.1 + sz a ≤ b.1 := by
  have h1 : (byC D).Pairwise fun a b => decide (a.1 ≤ b.1) = true := List.pairwise_mergeSort (fun a b c h1 h2 => by simp at *; omega) (fun a b => by simp; omega) D
  have h2 := (s.perm (byC_perm D).symm).pw
  refine (h1.and h2).imp fun {a b} h => ?_
  have k := of_decide_eq_true h.1
  have := sz_pos b
  rcases h.2 with z | z <;> omega
end
end HC
set_option Elab.async false
set_option linter.all false
set_option maxRecDepth 100000
set_option maxHeartbeats 400000
namespace HC
open MI XG XM XK DK PySem
open L2 (atI ixN)
section
variable {H C eO eP : Nat} {h h' : MH} {hp s r b dc ds w L : Nat} {pv : MV} {W : List MV} {O : Ob} {R : Rows} {B : List (Int × MV)} {p : Int} {D : Obs}
theorem look_same (S : HH H h hp s dc ds w (.int p) W O) (M : CM C h s r b R B L p) : mLook H C [.ref hp] h = .ok .non h := by
  have f := fld_at (C := H) (f := fP) (m := [some (.ref hp), none, none]) (y := .int p) rfl S.ih rfl
  have pu := M.puts (o := eMem H) (m := [some (.ref hp), none, none]) (S.mem rfl)
  refine body_rt (v := .non) (seq_rt ((ifS_t (h1 := h) ?_).trans rfl))
  have e : mEqX (.int p) (.int p) h = .ok (.bl true) h := by rw [eq_int, decide_eq_true rfl]
  have pu' : ePuts H C [some (.ref hp), none, none] h = .ok (.int p) h := pu
  show ((gBin mEqX (gFld [H] fP (gVar 0)) (ePuts H C) [some (.ref hp), none, none] h).bind _) = _
  simp only [gBin, f, Out.bind, pu', e]
theorem look_new (S : HH H h hp s dc ds w pv W O) (hpv : pv = .non ∨ ∃ q, pv = .int q ∧ q ≠ p) (M : CM C h s r b R B L p) (V : ∀ x, rget R x = spread D x) (sp : Sep D) (hR : R.length < 60) (hD : D.length < 60) (big : ∀ o ∈ D, o.1 < 10000000000000)
    (a1 : hp ∉ fp s r b R) (a2 : w ∉ fp s r b R) :
    ∃ h' dc' ds' O', mLook H C [.ref hp] h = .ok .non h' ∧ HH H h' hp s dc' ds' w (.int p) W O' ∧ O'.Perm (szs D) ∧ CM C h' s r b R B L p ∧ Kp [hp] h h' ∧ h.n ≤ dc' ∧ h.n ≤ ds' := by
  obtain ⟨d1, d2, d3, d4, d5⟩ := S.df
  have l1 := S.lt
  have l2 := M.lt
  have hpl := l1 hp (by simp)
  have wl := l1 w (by simp)
  have hps : hp ≠ s := fun z => a1 (by simp [z])
  -- it differs
  have c0 : gB (gBin mEqX (gFld [H] fP (gVar 0)) (ePuts H C)) [some (.ref hp), none, none] h = .ok false h := by
    have f := fld_at (C := H) (f := fP) (m := [some (.ref hp), none, none]) (y := pv) rfl S.ih rfl
    have pu : ePuts H C [some (.ref hp), none, none] h = .ok (.int p) h := M.puts (o := eMem H) (m := [some (.ref hp), none, none]) (S.mem rfl)
    have e : mEqX pv (.int p) h = .ok (.bl false) h := by
      rcases hpv with rfl | ⟨q, rfl, ne⟩
      · rfl
      · rw [eq_int, decide_eq_false ne]
    show ((gBin mEqX (gFld [H] fP (gVar 0)) (ePuts H C) [some (.ref hp), none, none] h).bind _) = _
    simp only [gBin, f, Out.bind, pu, e]
  -- new dicts
  have g1 : (h.push (.dic [])).get hp = some (.ins H (hf s dc ds pv w)) := Up.push.at S.ih
  have t1 := fldS_ok (C := H) (f := fCells) (v := gDic) (m := [some (.ref hp), none, none]) (h := h) (h1 := h.push (.dic [])) (y := .ref h.n) rfl rfl g1 (by show 5 < 900; decide)
  obtain ⟨hA, eA⟩ : ∃ hA, hA = (h.push (.dic [])).set hp (.ins H (hf s h.n ds pv w)) := ⟨_, rfl⟩
  have t1' : gFldS [H] fCells (gDic) (gVar 0) [some (.ref hp), none, none] h = .nx [some (.ref hp), none, none] hA := by rw [eA]; exact t1
  have nA : hA.n = h.n + 1 := by rw [eA]; rfl
  have kA : Kp [hp] h hA := by rw [eA]; exact Up.push.kp.trans (Kp.set (MH.get_lt g1) (by simp))
  have gA : hA.get hp = some (.ins H (hf s h.n ds pv w)) := by rw [eA]; exact set_get g1
  have gA1 : hA.get h.n = some (.dic []) := by rw [eA, set_ne g1 (by omega)]; exact get_top
  have g2 : (hA.push (.dic [])).get hp = some (.ins H (hf s h.n ds pv w)) := Up.push.at gA
  have t2 := fldS_ok (C := H) (f := fSizes) (v := gDic) (m := [some (.ref hp), none, none]) (h := hA) (h1 := hA.push (.dic [])) (y := .ref hA.n) rfl rfl g2 (by show 5 < 900; decide)
  obtain ⟨hB, eB⟩ : ∃ hB, hB = (hA.push (.dic [])).set hp (.ins H (hf s h.n hA.n pv w)) := ⟨_, rfl⟩
  have t2' : gFldS [H] fSizes (gDic) (gVar 0) [some (.ref hp), none, none] hA = .nx [some (.ref hp), none, none] hB := by rw [eB]; exact t2
  have nB : hB.n = h.n + 2 := by rw [eB]; show hA.n + 1 = _; omega
  have kB : Kp [hp] hA hB := by rw [eB]; exact Up.push.kp.trans (Kp.set (MH.get_lt g2) (by simp))
  have gB' : hB.get hp = some (.ins H (hf s h.n hA.n pv w)) := by rw [eB]; exact set_get g2
  have gB1 : hB.get h.n = some (.dic []) := kB.at gA1 (by simp; omega)
  have gB2 : hB.get hA.n = some (.dic []) := by rw [eB, set_ne g2 (by omega)]; exact get_top
  have kAB := kA.trans kB
  have SB : HH H hB hp s h.n hA.n w pv W [] := ⟨gB', gB1, gB2, kAB.at S.gw (by simpa using Ne.symm d3), by omega, ⟨by simp, fun o ho => by cases ho⟩⟩
  have MB : CM C hB s r b R B L p := M.kp kAB fun j hj z => by simp at z; subst z; exact a1 hj
  -- what is filled
  obtain ⟨hC, q, e3, gq, uC, nq⟩ := MB.fil hR
  obtain ⟨fl, efl⟩ : ∃ fl, fl = fils R (isort (R.map fun p => p.1)) := ⟨_, rfl⟩
  rw [← efl] at gq
  have fmem : ∀ x, x ∈ fl ↔ spread D x ≠ .non := fun x => by rw [efl, fils_mem fun n => (isort_perm _).mem_iff, V]
  have fpw : fl.Pairwise (· < ·) := by rw [efl]; exact fils_pw (isort_lt M.im.w.keys)
  have SC := SB.up uC
  have MC := MB.up uC
  have cl := uC.n
  have dl0 : h.n < hB.n := by omega
  have dl1 : hA.n < hB.n := by omega
  obtain ⟨E, eE⟩ : ∃ E, E = byC D := ⟨_, rfl⟩
  have Ep : E.Perm D := by rw [eE]; exact byC_perm D
  have Ew : E.Pairwise fun a b => a.1 + sz a ≤ b.1 := by rw [eE]; exact byC_pw sp
  have flen : ∀ {i j : Nat} {x y : Int}, fl[i]? = some x → fl[j]? = some y → i ≤ j → x ≤ y := fun {i j x y} hi hj ij => by
    rcases Nat.lt_or_eq_of_le ij with z | z
    · obtain ⟨a1, a2⟩ := List.getElem?_eq_some_iff.mp hi
      obtain ⟨b1, b2⟩ := List.getElem?_eq_some_iff.mp hj
      have := List.pairwise_iff_getElem.mp fpw i j a1 b1 z
      omega
    · subst z; rw [hi] at hj; cases hj; exact Int.le_refl _
  obtain ⟨it, i1, i2, i3⟩ := DK.iter_it (m := [some (.ref hp), none, some (.int 0)]) (g := fun _ h' => .ok (.ref q) h') (.ref gq) rfl
  obtain ⟨m', hD', lp, P, rest, o1, free, q1, q2, q3, q4, q5, q6, q7⟩ := for_loop (it := it) (t := tgName 1) (b := bLk H C) (N := fl.length)
    (fun j m h' => ∃ P rest o1 free, m = [some (.ref hp), o1, some (.int free)] ∧ P ++ rest = E ∧ HH H h' hp s h.n hA.n w pv W (szs P) ∧ Kp [h.n, hA.n] hC h' ∧ (∀ o ∈ P, o.1 + sz o ≤ free) ∧ (∀ o ∈ rest, free ≤ o.1) ∧ ∀ i x, i < j → fl[i]? = some x → x < free)
    (fun m h' ⟨P, rest, o1, free, q1, q2, q3, q4, _⟩ => by rw [i3 h' (.ref (q4.at gq (by simp; omega)))]; rw [List.getElem?_eq_none (by simp)])
    (fun j m h' hj ⟨P, rest, o1, free, q1, q2, q3, q4, q5, q6, q7⟩ => by
      subst q1
      have hx : fl[j]? = some fl[j] := List.getElem?_eq_getElem hj
      have MD : CM C h' s r b R B L p := MC.kp q4 fun j hj z => by
        have := l2 j hj
        simp at z; omega
      refine ⟨.int fl[j], [some (.ref hp), some (.int fl[j]), some (.int free)], h', ?_⟩
      have at1 : it.at_ j h' = some (some (.int fl[j])) := by
        rw [i3 h' (.ref (q4.at gq (by simp; omega))), List.getElem?_map, hx]; rfl
      by_cases k : free ≤ fl[j]
      · -- the next object
        have cc : gB (gBin mGeI (gVar 1) (gVar 2)) [some (.ref hp), some (.int fl[j]), some (.int free)] h' = .ok true h' := by
          show Out.ok (decide (free ≤ fl[j])) _ = _
          rw [decide_eq_true k]
        obtain ⟨o, hoD, ho1, ho2⟩ := spread_some ((fmem fl[j]).mp (List.getElem_mem hj))
        have hoE : o ∈ P ++ rest := by rw [q2]; exact Ep.mem_iff.mpr hoD
        have hoR : o ∈ rest := by
          rcases List.mem_append.mp hoE with z | z
          · have := q5 o z; omega
          · exact z
        have pw2 : (P ++ rest).Pairwise fun a b => a.1 + sz a ≤ b.1 := by rw [q2]; exact Ew
        cases rest with
        | nil => cases hoR
        | cons o' rest' =>
          have pw3 := List.pairwise_cons.mp (List.pairwise_append.mp pw2).2.1
          have ho'D : o' ∈ D := Ep.mem_iff.mp (by rw [← q2]; simp)
          have fill' : o'.1 ∈ fl := (fmem _).mpr (by rw [spread_first sp ho'D]; exact (sp.ok _ ho'D).2.2.1)
          obtain ⟨i, hi⟩ := List.getElem?_of_mem fill'
          have f' := q6 o' (by simp)
          have ij : j ≤ i := by
            by_cases z : i < j
            · have := q7 i _ z hi; omega
            · omega
          have le' := flen hx hi ij
          have oo : o = o' := by
            rcases List.mem_cons.mp hoR with z | z
            · exact z
            · have := pw3.1 o z
              have := sz_pos o'
              omega
          subst oo
          have ec : fl[j] = o.1 := by omega
          have ok := sp.ok o ho'D
          have fresh : ∀ p ∈ szs P, p.1 ≠ o.1 := fun p hp' z => by
            obtain ⟨p', hp2, rfl⟩ := List.mem_map.mp hp'
            have := q5 p' hp2
            have := sz_pos p'
            dsimp only at z
            omega
          have lP : P.length ≤ D.length := by
            rw [← Ep.length_eq, ← q2, List.length_append]; omega
          obtain ⟨h5, e5, S5, k5⟩ := add_ok q3 (by unfold szs; rw [List.length_map]; omega) fresh ok.1 (big o ho'D) (sz_pos o)
          have M5 : CM C h5 s r b R B L p := MD.kp k5 fun j hj z => by
            have := l2 j hj
            simp at z; omega
          have gt := MD.get (o.1 + 1)
          rw [V, spread_second sp ho'D] at gt
          have s1 : gExpr (gMeth H nAdd (mAdd' H) [] 3 (gVar 0) (gCons (gVar 1) (gCons (gBin MI.mAdd (gC (.int 2)) (gMeth C nGet (mGet C) [] 2 (eMem H) (gCons (gBin MI.mAdd (gVar 1) (gC (.int 1))) (gNil)))) (gNil)))) [some (.ref hp), some (.int fl[j]), some (.int free)] h' = .nx [some (.ref hp), some (.int fl[j]), some (.int free)] h5 := by
            refine expr_nx ((meth2 (n := 3) (x := .int fl[j]) (y := .int (sz o)) (h1 := h') (h2 := h') (h3 := h') rfl q3.ih (lkf (by decide)) rfl ?_ rfl).trans (by rw [ec]; exact e5))
            have g := (meth1 (c := C) (f := nGet) (g := mGet C) (o := eMem H) (a := gBin MI.mAdd (gVar 1) (gC (.int 1))) (m := [some (.ref hp), some (.int fl[j]), some (.int free)]) (n := 2) (x := .int (o.1 + 1)) (h1 := h') (h2 := h') (q3.mem rfl) MD.ip rfl (by rw [ec]; rfl) rfl).trans gt
            simp only [gBin, gC, Out.bind, g]
            rfl
          have s2 : gAsg (gBin MI.mAdd (gVar 1) (gBin mIx (gFld [H] fSizes (gVar 0)) (gVar 1))) (tgName 2) [some (.ref hp), some (.int fl[j]), some (.int free)] h5 = .nx [some (.ref hp), some (.int fl[j]), some (.int (o.1 + sz o))] h5 := by
            refine asg_nx (v := .int (o.1 + sz o)) ?_
            have f := fld_at (C := H) (f := fSizes) (m := [some (.ref hp), some (.int fl[j]), some (.int free)]) (y := .ref hA.n) rfl S5.ih rfl
            have v1 : gVar 1 [some (.ref hp), some (.int fl[j]), some (.int free)] h5 = .ok (.int o.1) h5 := by rw [ec]; rfl
            have sa := S5.size_at (o := (o.1, sz o)) (by simp)
            simp only [gBin, f, v1, Out.bind, sa, MI.mAdd]
          refine ⟨[some (.ref hp), some (.int fl[j]), some (.int (o.1 + sz o))], h5, at1, rfl, (ifS_t cc).trans ((seq_nx s1).trans s2), P ++ [o], rest', some (.int fl[j]), o.1 + sz o, rfl, by rw [← q2]; simp, ?_, q4.trans k5, fun p hp' => ?_, fun p hp' => pw3.1 p hp', fun i x hi hx' => ?_⟩
          · have : szs (P ++ [o]) = szs P ++ [(o.1, sz o)] := by simp [szs]
            rw [this]; exact S5
          · have := sz_pos o
            rcases List.mem_append.mp hp' with z | z
            · have := q5 p z; omega
            · rw [List.mem_singleton.mp z]; exact Int.le_refl _
          · have := flen hx' hx (by omega)
            have := sz_pos o
            omega
      · have cc : gB (gBin mGeI (gVar 1) (gVar 2)) [some (.ref hp), some (.int fl[j]), some (.int free)] h' = .ok false h' := by
          show Out.ok (decide (free ≤ fl[j])) _ = _
          rw [decide_eq_false k]
        refine ⟨[some (.ref hp), some (.int fl[j]), some (.int free)], h', at1, rfl, (ifS_f cc).trans rfl, P, rest, some (.int fl[j]), free, rfl, q2, q3, q4, q5, q6, fun i x hi hx' => ?_⟩
        by_cases z : i < j
        · exact q7 i x z hx'
        · have : i = j := by omega
          subst this
          rw [hx] at hx'; cases hx'
          omega)
    (fl.length + 1) 0 [some (.ref hp), none, some (.int 0)] hC (by omega) (Nat.zero_le _) ⟨[], E, none, 0, rfl, rfl, SC, .refl, fun o ho => (by cases ho), fun o ho => (sp.ok o (Ep.mem_iff.mp ho)).1, fun i x hi => by omega⟩
  subst q1
  -- all are found
  have rn : rest = [] := by
    cases rest with
    | nil => rfl
    | cons o rest' =>
      exfalso
      have hoD : o ∈ D := Ep.mem_iff.mp (by rw [← q2]; simp)
      have fill : o.1 ∈ fl := (fmem _).mpr (by rw [spread_first sp hoD]; exact (sp.ok _ hoD).2.2.1)
      obtain ⟨i, hi⟩ := List.getElem?_of_mem fill
      have := q7 i _ (List.getElem?_eq_some_iff.mp hi).1 hi
      have := q6 o (by simp)
      omega
  subst rn
  rw [List.append_nil] at q2
  subst q2
  have MD : CM C hD' s r b R B L p := MC.kp q4 fun j hj z => by
    have := l2 j hj
    simp at z; omega
  have loop : gFor (gIter (gMeth C nFil (mFil C) [] 1 (eMem H) gNil)) (tgName 1) (bLk H C) [some (.ref hp), none, some (.int 0)] hB = .nx [some (.ref hp), o1, some (.int free)] hD' := by
    have m2 : eMem H [some (.ref hp), none, some (.int 0)] hB = .ok (.ref s) hB := SB.mem rfl
    have e1 : gMeth C nFil (mFil C) [] 1 (eMem H) gNil [some (.ref hp), none, some (.int 0)] hB = .ok (.ref q) hC := (meth0 (n := 1) m2 MB.ip rfl rfl).trans e3
    have it0 : gIter (gMeth C nFil (mFil C) [] 1 (eMem H) gNil) [some (.ref hp), none, some (.int 0)] hB = .ok it hC := by
      unfold gIter at i1 ⊢
      rw [e1]
      exact i1
    unfold gFor
    rw [it0]
    simp only [Out.bindS]
    rw [i2, List.length_map]
    exact lp
  have pC : ePuts H C [some (.ref hp), o1, some (.int free)] hD' = .ok (.int p) hD' := MD.puts (o := eMem H) (q3.mem rfl)
  have t6 := fldS_ok (C := H) (f := fP) (v := ePuts H C) (m := [some (.ref hp), o1, some (.int free)]) (h := hD') (h1 := hD') (y := .int p) pC rfl q3.ih (by show 5 < 900; decide)
  have hpl' : hp < hD'.n := MH.get_lt q3.ih
  have kC : Kp [hp] hD' (hD'.set hp (.ins H (hf s h.n hA.n (.int p) w))) := Kp.set hpl' (by simp)
  have n4 := q4.n
  refine ⟨hD'.set hp (.ins H (hf s h.n hA.n (.int p) w)), h.n, hA.n, szs P, ?_, ⟨set_get q3.ih, ?_, ?_, ?_, q3.cz, q3.fo⟩, Ep.map _, MD.kp kC fun j hj z => by simp at z; subst z; exact a1 hj, ⟨?_, fun j hj hf => ?_⟩, Nat.le_refl _, by omega⟩
  · rw [t_look]
    exact body_nx ((seq_nx ((ifS_f c0).trans rfl)).trans ((seq_nx t1').trans ((seq_nx t2').trans ((seq_nx rfl).trans ((seq_nx loop).trans t6)))))
  · exact kC.at q3.gc (by simp; omega)
  · exact kC.at q3.gz (by simp; omega)
  · exact kC.at q3.gw (by simpa using Ne.symm d3)
  · show h.n ≤ hD'.n; omega
  · rw [kC.get j (by omega) hf, q4.get j (by omega) (by simp; omega), uC.get j (by omega), kAB.get j hj hf]
end
end HC
set_option Elab.async false
set_option linter.all false
set_option maxRecDepth 100000
set_option maxHeartbeats 400000
namespace HC
open MI XG XM XK DK PySem
open L2 (atI ixN)
theorem for_any {it : It1} {t : MG} {b : MS} {N : Nat} (Q : Nat → ML → MH → Prop) (P : MV → MH → Prop) (hend : ∀ m h, Q N m h → it.at_ N h = some none)
    (hstep : ∀ i m h, i < N → Q i m h → ∃ x m1 h1, it.at_ i h = some (some x) ∧ t x m h = .nx m1 h1 ∧ ((∃ m2 h2, b m1 h1 = .nx m2 h2 ∧ Q (i + 1) m2 h2) ∨ ∃ v h2, b m1 h1 = .rt v h2 ∧ P v h2)) :
    ∀ (n i : Nat) (m : ML) (h : MH), i + n = N + 1 → i ≤ N → Q i m h → (∃ m' h', gForN it t b n i m h = .nx m' h' ∧ Q N m' h') ∨ ∃ v h', gForN it t b n i m h = .rt v h' ∧ P v h'
  | 0, i, m, h, e0, hi, _ => by omega
  | n + 1, i, m, h, e0, hi, q => by
    unfold gForN
    by_cases hiN : i = N
    · subst hiN
      rw [hend m h q]
      exact .inl ⟨m, h, rfl, q⟩
    · obtain ⟨x, m1, h1, a1, a2, a3⟩ := hstep i m h (by omega) q
      rw [a1]
      simp only [a2]
      rcases a3 with ⟨m2, h2, a3, a4⟩ | ⟨v, h2, a3, a4⟩
      · rw [a3]
        exact for_any Q P hend hstep n (i + 1) m2 h2 (by omega) (by omega) a4
      · rw [a3]
        exact .inr ⟨v, h2, rfl, a4⟩
theorem repl1_ok {x : MV} {k : Nat} {m : ML} {h h1 h2 : MH} {a e : ME} (hk : k ≤ 1000) (ea : a m h = .ok x h1) (he : e m (h1.push (.lst [x])) = .ok (.int (k : Nat)) h2) (g : h2.get h1.n = some (.lst [x])) : gBin mMulA (gLst (gCons a (gNil))) e m h = .ok (.ref h2.n) (h2.push (.lst (List.replicate k x))) := by
  have k1 : (k : Int) ≤ 10000 := by omega
  have k2 : -10000 ≤ (k : Int) := by omega
  have q1 : mMulA (.ref h1.n) (.int (k : Nat)) h2 = mRepL (.ref h1.n) (.int (k : Nat)) h2 := rfl
  have q2 : mRepL (.ref h1.n) (.int (k : Nat)) h2 = .ok (.ref h2.n) (h2.push (.lst (List.replicate k x))) := by
    simp only [mRepL, g]
    rw [if_pos ⟨k1, k2, by simp⟩, Int.toNat_natCast, reps_one]
  show ((gLst (gCons a gNil) m h).bind fun x h1 => (e m h1).bind fun y h2 => mMulA x y h2) = _
  rw [lst1 ea]
  simp only [Out.bind, he, q1, q2]
theorem for_nil {gi : MI1} {t : MG} {b : MS} {m : ML} {h : MH} {q : Nat} {a : ME} (ea : a m h = .ok (.ref q) h) (g : h.get q = some (.lst [])) : gFor (gIter a) t b m h = .nx m h := by
  obtain ⟨it, i1, i2, i3⟩ := XM.iter_it (.ref g)
  unfold gFor
  rw [i1 m a ea]
  simp only [Out.bindS]
  show gForN _ _ _ (it.size h + 1) 0 _ _ = _
  unfold gForN
  rw [i3 h (.ref g) 0]
  rfl
theorem over_take {V : Int → MV} {c : Int} {xs : List MV} {j : Nat} (hj : j < xs.length) (x : Int) : over V c (xs.take (j + 1)) x = if x = c + (j : Nat) then xs[j] else over V c (xs.take j) x := by
  unfold over
  rw [List.length_take, List.length_take]
  by_cases e : x = c + (j : Nat)
  · rw [if_pos e, if_pos (by omega)]
    have : (x - c).toNat = j := by omega
    rw [this, List.getElem?_take, if_pos (by omega), List.getElem?_eq_getElem hj]; rfl
  · rw [if_neg e]
    by_cases z : c ≤ x ∧ x < c + (min j xs.length : Nat)
    · rw [if_pos z, if_pos (by omega), List.getElem?_take, List.getElem?_take, if_pos (by omega), if_pos (by omega)]
    · rw [if_neg z, if_neg (by omega)]
section
variable {H C eO eP : Nat} {h h' : MH} {hp s r b dc ds w L : Nat} {pv : MV} {W : List MV} {O : Ob} {R : Rows} {B : List (Int × MV)} {p : Int} {D : Obs}
theorem wrt_ok (S : HH H h hp s dc ds w pv W O) (M : CM C h s r b R B L p) {v : MV} {xs : List MV} (sq : Sq h v xs) (nq : ∀ q, v = .ref q → q ∉ fp s r b R) (ap : ∀ j ∈ [hp, dc, ds, w], j ∉ fp s r b R) (ha : ∀ x ∈ xs, atB x = true) (lx : xs.length < 1000) (hL : L + 2 * xs.length + 2 < 1000000) (c : Int) :
    ∃ h' R' B' p', mWrt H C [.ref hp, .int c, v] h = .ok .non h' ∧ HH H h' hp s dc ds w (.int p') W O ∧ CM C h' s r b R' B' (L + 2 * xs.length) p' ∧ (∀ x, rget R' x = over (rget R) c xs x) ∧ p ≤ p' ∧ (p' = p → ∀ x, rget R' x = rget R x) ∧
      Kp (hp :: fp s r b R) h h' ∧ (∀ j ∈ fp s r b R', j ∈ fp s r b R ∨ h.n ≤ j) := by
  obtain ⟨it, i1, i2, i3⟩ := enum_it sq
  have lk : ∀ p, (XK.flds r b (kv none, 0) p).lookup nPut = none := fun p => rfl
  have l2 := M.lt
  obtain ⟨m', h1, l1, R1, B1, p1, o4, o3, e1, S1, M1, sq1, V1, v1, v2, k1, f1⟩ := for_loop (it := it) (t := tgTup [4, 3]) (b := gExpr (gMeth C nPut (mPutX C) [] 3 (eMem H) (gCons (gBin MI.mAdd (gVar 1) (gVar 4)) (gCons (gVar 3) (gNil))))) (N := xs.length)
    (fun j m h' => ∃ R' B' p' o4 o3, m = [some (.ref hp), some (.int c), some v, o3, o4] ∧ HH H h' hp s dc ds w pv W O ∧ CM C h' s r b R' B' (L + 2 * j) p' ∧ Sq h' v xs ∧ (∀ x, rget R' x = over (rget R) c (xs.take j) x) ∧ p ≤ p' ∧ (p' = p → ∀ x, rget R' x = rget R x) ∧ Kp (fp s r b R) h h' ∧ (∀ j ∈ fp s r b R', j ∈ fp s r b R ∨ h.n ≤ j))
    (fun m h' ⟨R', B', p', o4, o3, q1, q2, q3, q4, _⟩ => by rw [i3 h' q4, List.getElem?_eq_none (Nat.le_refl _)]; rfl)
    (fun j m h' hj ⟨R', B', p', o4, o3, q1, q2, q3, q4, q5, q6, q7, q8, q9⟩ => by
      subst q1
      have hx : xs[j]? = some xs[j] := List.getElem?_eq_getElem hj
      obtain ⟨h2, R2, B2, p2, t1, t2, t3, t4, t5, t6, t7⟩ := q3.put (by omega) (c + (j : Nat)) (ha _ (List.getElem_mem hj))
      have n8 := q8.n
      have k2 : Kp (fp s r b R) h h2 := ⟨by have := t4.n; omega, fun i hi hf => by
        rw [t4.get i (by omega) (fun z => by
          rcases q9 i z with y | y
          · exact hf y
          · omega), q8.get i hi hf]⟩
      have ap2 : ∀ j ∈ [hp, dc, ds, w], j ∉ fp s r b R' := fun i hi z => by
        rcases q9 i z with y | y
        · exact ap i hi y
        · have := S.lt i hi; omega
      refine ⟨.tup [.int (j : Nat), xs[j]], [some (.ref hp), some (.int c), some v, some xs[j], some (.int (j : Nat))], h', [some (.ref hp), some (.int c), some v, some xs[j], some (.int (j : Nat))], h2, by rw [i3 h' q4, hx]; rfl, rfl, ?_, R2, B2, p2, some (.int (j : Nat)), some xs[j], rfl, q2.kp t4 ap2, (show L + 2 * (j + 1) = L + 2 * j + 2 by omega) ▸ t2, ?_, fun x => ?_, by omega, fun z x => ?_, k2, fun i hi => ?_⟩
      · exact expr_nx ((meth2 (c := C) (f := nPut) (g := mPutX C) (a := gBin MI.mAdd (gVar 1) (gVar 4)) (b := gVar 3) (x := .int (c + (j : Nat))) (y := xs[j]) (h1 := h') (h2 := h') (h3 := h') (n := 3) (q2.mem rfl) q3.ip (lk _) rfl rfl rfl).trans t1)
      · cases q4 with
        | tup => exact .tup _
        | @ref q _ g =>
          refine .ref (t4.at g fun z => ?_)
          have hq := nq q rfl
          rcases q9 q z with y | y
          · exact hq y
          · cases sq with
            | ref g0 => have := MH.get_lt g0; omega
      · rw [t3, over_take hj, q5]
      · have ep : p' = p := by omega
        have e2 : p2 = p' := by omega
        have := t7 e2
        rw [t3]
        by_cases y : x = c + (j : Nat)
        · rw [if_pos y, y, ← this, q7 ep]
        · rw [if_neg y, q7 ep]
      · rcases t5 i hi with y | y
        · exact q9 i y
        · exact .inr (by omega))
    (xs.length + 1) 0 [some (.ref hp), some (.int c), some v, none, none] h (by omega) (Nat.zero_le _) ⟨R, B, p, none, none, rfl, S, by simpa using M, sq, fun x => by unfold over; rw [if_neg (by simp only [List.take_zero, List.length_nil]; omega)], Int.le_refl _, fun _ _ => rfl, .refl, fun j hj => .inl hj⟩
  subst e1
  rw [List.take_length] at V1
  have hpl := S1.lt hp (by simp)
  obtain ⟨d1, d2, d3, d4, d5⟩ := S1.df
  have pu : ePuts H C [some (.ref hp), some (.int c), some v, o3, o4] h1 = .ok (.int p1) h1 := M1.puts (o := eMem H) (S1.mem rfl)
  have t6 := fldS_ok (C := H) (f := fP) (v := ePuts H C) (m := [some (.ref hp), some (.int c), some v, o3, o4]) (h := h1) (h1 := h1) (y := .int p1) pu rfl S1.ih (by show 5 < 900; decide)
  have t6' : gFldS [H] fP (ePuts H C) (gVar 0) [some (.ref hp), some (.int c), some v, o3, o4] h1 = .nx [some (.ref hp), some (.int c), some v, o3, o4] (h1.set hp (.ins H (hf s dc ds (.int p1) w))) := t6
  have kC : Kp [hp] h1 (h1.set hp (.ins H (hf s dc ds (.int p1) w))) := Kp.set hpl (by simp)
  have hpF : hp ∉ fp s r b R1 := fun z => by
    rcases f1 hp z with y | y
    · exact ap hp (by simp) y
    · have := S.lt hp (by simp); omega
  refine ⟨h1.set hp (.ins H (hf s dc ds (.int p1) w)), R1, B1, p1, body_nx (m := [some (.ref hp), some (.int c), some v, o3, o4]) ((seq_nx (m' := [some (.ref hp), some (.int c), some v, o3, o4]) (h' := h1) ?_).trans t6'), ⟨set_get S1.ih, kC.at S1.gc (by simpa using Ne.symm d1), kC.at S1.gz (by simpa using Ne.symm d2), kC.at S1.gw (by simpa using Ne.symm d3), S1.cz, S1.fo⟩, M1.kp kC fun j hj z => by simp at z; subst z; exact hpF hj, V1, v1, v2, (k1.le fun j hj _ => by simp [hj]).trans (kC.le fun j hj _ => by simp at hj; simp [hj]), f1⟩
  show gFor (gEnumA (gVar 2)) (tgTup [4, 3]) _ [some (.ref hp), some (.int c), some v, none, none] h = _
  unfold gFor
  rw [i1 [some (.ref hp), some (.int c), some v, none, none] (gVar 2) rfl]
  simp only [Out.bindS]
  rw [i2]
  exact l1
def lowG : List (Int × Int) → Int → Int → Int
  | [], _, low => low
  | o :: l, n, low => if n ≤ o.1 - low then low else lowG l n (o.1 + o.2)
theorem lowG_ok : ∀ {l : List (Int × Int)} {n low T : Int}, l.Pairwise (fun a b => a.1 + a.2 ≤ b.1) → (∀ o ∈ l, low ≤ o.1 ∧ 2 ≤ o.2 ∧ o.1 + o.2 ≤ T) → low ≤ T → low ≤ lowG l n low ∧ lowG l n low ≤ T ∧ ∀ o ∈ l, lowG l n low + n ≤ o.1 ∨ o.1 + o.2 ≤ lowG l n low
  | [], n, low, T, _, _, h => ⟨Int.le_refl _, h, fun o ho => by cases ho⟩
  | o :: l, n, low, T, pw, hl, h => by
    have pw' := List.pairwise_cons.mp pw
    have ho := hl o List.mem_cons_self
    unfold lowG
    by_cases z : n ≤ o.1 - low
    · rw [if_pos z]
      refine ⟨Int.le_refl _, h, fun q hq => ?_⟩
      rcases List.mem_cons.mp hq with y | y
      · rw [y]; exact .inl (by omega)
      · have := pw'.1 q y
        exact .inl (by omega)
    · rw [if_neg z]
      obtain ⟨a, b, c⟩ := lowG_ok (l := l) (n := n) (low := o.1 + o.2) (T := T) pw'.2 (fun q hq => ⟨pw'.1 q hq, (hl q (List.mem_cons_of_mem _ hq)).2⟩) ho.2.2
      refine ⟨by omega, b, fun q hq => ?_⟩
      rcases List.mem_cons.mp hq with y | y
      · rw [y]; exact .inr a
      · exact c q y
theorem isort_byC {O : Ob} {D : Obs} (sp : Sep D) (p : O.Perm (szs D)) : isort (O.map (·.1)) = (szs (byC D)).map (·.1) := by
  refine List.Perm.eq_of_pairwise (le := fun a b : Int => decide (a ≤ b) = true) (fun a b _ _ h1 h2 => ?_) ?_ ?_ ?_
  · simp at h1 h2; omega
  · exact (isort_pw _).imp fun h => by simpa using h
  · unfold szs
    rw [List.map_map, List.pairwise_map]
    exact (byC_pw sp).imp fun {a b} h => by
      have := sz_pos a
      simp; omega
  · exact (isort_perm _).trans ((p.map _).trans (((byC_perm D).symm.map _).map _))
theorem HH.sorted_at (S : HH H h hp s dc ds w pv W O) (hO : O.length < 60) : mSortedA (.ref ds) h = .ok (.ref h.n) (h.push (.lst ((isort (O.map (·.1))).map MV.int))) := by
  have l : (O.map (·.1)).length < 64 := by rw [List.length_map]; omega
  simp only [mSortedA, S.gz, keys_z, Option.isSome, if_pos, mSorted, l]
theorem low_ok (S : HH H h hp s dc ds w pv W O) (sp : Sep D) (pm : O.Perm (szs D)) (hD : D.length < 60) (z : Int) :
    ∃ h', mLow H [.ref hp, .int z] h = .ok (.int (lowG (szs (byC D)) z 0)) h' ∧ Up h h' := by
  have lO : O.length < 60 := by rw [pm.length_eq]; unfold szs; rw [List.length_map]; exact hD
  obtain ⟨Z, eZ⟩ : ∃ Z, Z = szs (byC D) := ⟨_, rfl⟩
  have S1 := S.up (Up.push (o := .lst ((isort (O.map (·.1))).map MV.int)))
  have so := S.sorted_at lO
  rw [isort_byC sp pm, ← eZ] at so S1
  have g1 : (h.push (.lst ((Z.map (·.1)).map MV.int))).get h.n = some (.lst ((Z.map (·.1)).map MV.int)) := get_top
  obtain ⟨it, i1, i2, i3⟩ := XM.iter_it (.ref g1)
  rw [← eZ]
  have mem : ∀ o ∈ Z, o ∈ O := fun o ho => pm.mem_iff.mpr (by
    rw [eZ] at ho
    exact ((byC_perm D).map _).mem_iff.mp ho)
  have lp := for_any (it := it) (t := tgName 2) (b := bLow H) (N := Z.length)
    (fun j m h' => h' = h.push (.lst ((Z.map (·.1)).map MV.int)) ∧ ∃ o2 low, m = [some (.ref hp), some (.int z), o2, some (.int low)] ∧ lowG (Z.drop j) z low = lowG Z z 0)
    (fun v h' => h' = h.push (.lst ((Z.map (·.1)).map MV.int)) ∧ v = .int (lowG Z z 0))
    (fun m h' ⟨e, _⟩ => by rw [e, i3 _ (.ref g1), List.getElem?_eq_none (by simp)])
    (fun j m h' hj ⟨e, o2, low, em, el⟩ => by
      subst e em
      have hx : Z[j]? = some Z[j] := List.getElem?_eq_getElem hj
      rw [List.drop_eq_getElem_cons hj, lowG] at el
      refine ⟨.int Z[j].1, [some (.ref hp), some (.int z), some (.int Z[j].1), some (.int low)], h.push (.lst ((Z.map (·.1)).map MV.int)), by rw [i3 _ (.ref g1), List.getElem?_map, List.getElem?_map, hx]; rfl, rfl, ?_⟩
      by_cases k : z ≤ Z[j].1 - low
      · rw [if_pos k] at el
        refine .inr ⟨.int low, h.push (.lst ((Z.map (·.1)).map MV.int)), seq_rt ((ifS_t (h1 := h.push (.lst ((Z.map (·.1)).map MV.int))) ?_).trans rfl), rfl, by rw [el]⟩
        show Out.ok (decide (z ≤ Z[j].1 - low)) _ = _
        rw [decide_eq_true k]
      · rw [if_neg k] at el
        refine .inl ⟨[some (.ref hp), some (.int z), some (.int Z[j].1), some (.int (Z[j].1 + Z[j].2))], h.push (.lst ((Z.map (·.1)).map MV.int)), (seq_nx (m' := [some (.ref hp), some (.int z), some (.int Z[j].1), some (.int low)]) (h' := h.push (.lst ((Z.map (·.1)).map MV.int))) ((ifS_f (h1 := h.push (.lst ((Z.map (·.1)).map MV.int))) ?_).trans rfl)).trans ?_, rfl, _, _, rfl, el⟩
        · show Out.ok (decide (z ≤ Z[j].1 - low)) _ = _
          rw [decide_eq_false k]
        · have f := fld_at (C := H) (f := fSizes) (m := [some (.ref hp), some (.int z), some (.int Z[j].1), some (.int low)]) (y := .ref ds) rfl S1.ih rfl
          have sz := S1.size_at (mem _ (List.getElem_mem hj))
          have v2 : gVar 2 [some (.ref hp), some (.int z), some (.int Z[j].1), some (.int low)] (h.push (.lst ((Z.map (·.1)).map MV.int))) = .ok (.int Z[j].1) (h.push (.lst ((Z.map (·.1)).map MV.int))) := rfl
          refine asg_nx (v := .int (Z[j].1 + Z[j].2)) ?_
          simp only [gBin, v2, Out.bind, f, sz]
          rfl)
    (Z.length + 1) 0 [some (.ref hp), some (.int z), none, some (.int 0)] (h.push (.lst ((Z.map (·.1)).map MV.int))) (by omega) (Nat.zero_le _) ⟨rfl, none, 0, rfl, rfl⟩
  have e0 : gFor (gIter (gCB (f1 mSortedA) (gCons (gFld [H] fSizes (gVar 0)) (gNil)))) (tgName 2) (bLow H) [some (.ref hp), some (.int z), none, some (.int 0)] h = gForN it (tgName 2) (bLow H) (Z.length + 1) 0 [some (.ref hp), some (.int z), none, some (.int 0)] (h.push (.lst ((Z.map (·.1)).map MV.int))) := by
    have f := fld_at (C := H) (f := fSizes) (m := [some (.ref hp), some (.int z), none, some (.int 0)]) (y := .ref ds) rfl S.ih rfl
    have so' : gCB (f1 mSortedA) (gCons (gFld [H] fSizes (gVar 0)) (gNil)) [some (.ref hp), some (.int z), none, some (.int 0)] h = .ok (.ref h.n) (h.push (.lst ((Z.map (·.1)).map MV.int))) := by
      simp only [gCB, f1, gCons, gNil, f, Out.bind, so]
    have it0 : gIter (gCB (f1 mSortedA) (gCons (gFld [H] fSizes (gVar 0)) (gNil))) [some (.ref hp), some (.int z), none, some (.int 0)] h = .ok it (h.push (.lst ((Z.map (·.1)).map MV.int))) := by
      have := i1 [some (.ref hp), some (.int z), none, some (.int 0)] (fun _ h' => .ok (.ref h.n) h') rfl
      unfold gIter at this ⊢
      rw [so']
      simpa only [Out.bind] using this
    unfold gFor
    rw [it0]
    simp only [Out.bindS]
    rw [i2, List.length_map, List.length_map]
  have s1 : gAsg (gC (.int 0)) (tgName 3) [some (.ref hp), some (.int z), none, none] h = .nx [some (.ref hp), some (.int z), none, some (.int 0)] h := rfl
  rcases lp with ⟨m', h', l1, l2, o2, low, l3, l4⟩ | ⟨v, h', l1, l2, l3⟩
  · subst l3
    have el : lowG Z z 0 = low := by rw [← l4, List.drop_length]; rfl
    rw [el]
    exact ⟨h', body_rt (v := .int low) ((seq_nx s1).trans ((seq_nx (e0.trans l1)).trans rfl)), by rw [l2]; exact Up.push⟩
  · subst l3
    exact ⟨h', body_rt ((seq_nx s1).trans (seq_rt (e0.trans l1))), by rw [l2]; exact Up.push⟩
end
end HC
set_option Elab.async false
set_option linter.all false
set_option maxRecDepth 100000
set_option maxHeartbeats 400000
namespace HC
open MI XG XM XK DK PySem
open L2 (atI ixN)
def MW (C : Nat) (h : MH) (s : Nat) (D : Obs) (L : Nat) (p : Int) (G : List Nat) : Prop := ∃ r b R B, CM C h s r b R B L p ∧ (∀ x, rget R x = spread D x) ∧ Sep D ∧ G = fp s r b R
def HW (H : Nat) (h : MH) (hp s w : Nat) (W : List MV) (D : Obs) (p : Int) (F : List Nat) : Prop := ∃ dc ds pv O, HH H h hp s dc ds w pv W O ∧ F = [hp, dc, ds, w] ∧ (pv = .non ∨ ∃ q, pv = .int q ∧ q ≤ p ∧ (q = p → O.Perm (szs D)))
def HY (H : Nat) (h : MH) (hp s w : Nat) (W : List MV) (D : Obs) (p : Int) (F : List Nat) : Prop := ∃ dc ds O, HH H h hp s dc ds w (.int p) W O ∧ F = [hp, dc, ds, w] ∧ O.Perm (szs D)
structure HP (H C : Nat) (h : MH) (hp s w : Nat) (W : List MV) (D : Obs) (L : Nat) (p : Int) (F G : List Nat) : Prop where
  mw : MW C h s D L p G
  hw : HW H h hp s w W D p F
  dj : ∀ j ∈ F, j ∉ G
structure HQ (H C : Nat) (h : MH) (hp s w : Nat) (W : List MV) (D : Obs) (L : Nat) (p : Int) (F G : List Nat) : Prop where
  mw : MW C h s D L p G
  hw : HY H h hp s w W D p F
  dj : ∀ j ∈ F, j ∉ G
structure Bd (D : Obs) (T : Int) : Prop where
  n : D.length < 60
  e : ∀ o ∈ D, o.1 + sz o ≤ T
  t : T ≤ 400
structure Tr (h h' : MH) (F G F' G' : List Nat) (p p' : Int) (D D' : Obs) : Prop where
  kp : Kp (F ++ G) h h'
  f : ∀ j ∈ F', j ∈ F ∨ h.n ≤ j
  g : ∀ j ∈ G', j ∈ G ∨ h.n ≤ j
  v : p ≤ p' ∧ (p' = p → szs D' = szs D)
theorem Tr.refl {h : MH} {F G : List Nat} {p : Int} {D : Obs} : Tr h h F G F G p p D D := ⟨.refl, fun j hj => .inl hj, fun j hj => .inl hj, Int.le_refl _, fun _ => rfl⟩
theorem Tr.trans {h h1 h2 : MH} {F G F1 G1 F2 G2 : List Nat} {p p1 p2 : Int} {D D1 D2 : Obs} (a : Tr h h1 F G F1 G1 p p1 D D1) (b : Tr h1 h2 F1 G1 F2 G2 p1 p2 D1 D2) : Tr h h2 F G F2 G2 p p2 D D2 := by
  have n1 := a.kp.n
  have n2 := b.kp.n
  refine ⟨⟨by omega, fun j hj hf => ?_⟩, fun j hj => ?_, fun j hj => ?_, by have := a.v.1; have := b.v.1; omega, fun e => ?_⟩
  · rw [b.kp.get j (by omega) (fun z => by
      rcases List.mem_append.mp z with z | z
      · rcases a.f j z with y | y
        · exact hf (List.mem_append.mpr (.inl y))
        · omega
      · rcases a.g j z with y | y
        · exact hf (List.mem_append.mpr (.inr y))
        · omega), a.kp.get j hj hf]
  · rcases b.f j hj with z | z
    · exact a.f j z
    · exact .inr (by omega)
  · rcases b.g j hj with z | z
    · exact a.g j z
    · exact .inr (by omega)
  · have := a.v.1
    have := b.v.1
    rw [b.v.2 (by omega), a.v.2 (by omega)]
theorem Tr.up {h h' : MH} {F G : List Nat} {p : Int} {D : Obs} (u : Up h h') : Tr h h' F G F G p p D D := ⟨u.kp, fun j hj => .inl hj, fun j hj => .inl hj, Int.le_refl _, fun _ => rfl⟩
theorem Tr.at {h h' : MH} {F G F' G' : List Nat} {p p' : Int} {D D' : Obs} (a : Tr h h' F G F' G' p p' D D') {i : Nat} {o : MO} (e : h.get i = some o) (f : i ∉ F) (g : i ∉ G) : h'.get i = some o ∧ i ∉ F' ∧ i ∉ G' := by
  have l := MH.get_lt e
  refine ⟨a.kp.at e fun z => by rcases List.mem_append.mp z with z | z; exact f z; exact g z, fun z => ?_, fun z => ?_⟩
  · rcases a.f i z with y | y
    · exact f y
    · omega
  · rcases a.g i z with y | y
    · exact g y
    · omega
section
variable {H C eO eP : Nat} {bP bF : MS} {h h' : MH} {hp s w L : Nat} {W : List MV} {p p' : Int} {D D' : Obs} {F G F' G' : List Nat} {T : Int}
theorem MW.frame (M : MW C h s D L p G) (e : ∀ j ∈ G, j < h.n → h'.get j = h.get j) : MW C h' s D L p G := by
  obtain ⟨r, b, R, B, c, v, sp, rfl⟩ := M
  exact ⟨r, b, R, B, c.frame e, v, sp, rfl⟩
theorem MW.lt (M : MW C h s D L p G) : s ∈ G ∧ ∀ j ∈ G, j < h.n := by
  obtain ⟨r, b, R, B, c, v, sp, rfl⟩ := M
  exact ⟨by simp, c.lt⟩
theorem MW.le {L' : Nat} (M : MW C h s D L p G) (l : L ≤ L') : MW C h s D L' p G := by
  obtain ⟨r, b, R, B, c, v, sp, e⟩ := M
  exact ⟨r, b, R, B, c.le l, v, sp, e⟩
theorem MW.sep (M : MW C h s D L p G) : Sep D := by
  obtain ⟨r, b, R, B, c, v, sp, e⟩ := M
  exact sp
theorem MW.get (M : MW C h s D L p G) (c : Int) : mGet C [.ref s, .int c] h = .ok (spread D c) h := by
  obtain ⟨r, b, R, B, m, v, sp, e⟩ := M
  rw [← v]; exact m.get c
theorem MW.ins (M : MW C h s D L p G) : ∃ fs, h.get s = some (.ins C fs) ∧ fs.lookup nGet = none := by
  obtain ⟨r, b, R, B, m, v, sp, e⟩ := M
  exact ⟨_, m.ip, rfl⟩
theorem HW.frame (X : HW H h hp s w W D p F) (e : ∀ j ∈ F, j < h.n → h'.get j = h.get j) : HW H h' hp s w W D p F := by
  obtain ⟨dc, ds, pv, O, S, rfl, y⟩ := X
  exact ⟨dc, ds, pv, O, S.frame e, rfl, y⟩
theorem HW.lt (X : HW H h hp s w W D p F) : hp ∈ F ∧ w ∈ F ∧ ∀ j ∈ F, j < h.n := by
  obtain ⟨dc, ds, pv, O, S, rfl, y⟩ := X
  exact ⟨by simp, by simp, S.lt⟩
theorem HW.ih (X : HW H h hp s w W D p F) : ∃ fs, h.get hp = some (.ins H fs) ∧ ∀ nm, nm ∉ [fMem, fCells, fSizes, fP, fWat] → fs.lookup nm = none := by
  obtain ⟨dc, ds, pv, O, S, e, y⟩ := X
  exact ⟨_, S.ih, fun nm hn => lkf hn⟩
theorem HQ.x (X : HQ H C h hp s w W D L p F G) : HP H C h hp s w W D L p F G := by
  obtain ⟨m, ⟨dc, ds, O, S, e, y⟩, d⟩ := X
  exact ⟨m, ⟨dc, ds, _, O, S, e, .inr ⟨p, rfl, Int.le_refl _, fun _ => y⟩⟩, d⟩
theorem HP.frame (X : HP H C h hp s w W D L p F G) (e : ∀ j ∈ F ++ G, j < h.n → h'.get j = h.get j) : HP H C h' hp s w W D L p F G :=
  ⟨X.mw.frame fun j hj hl => e j (List.mem_append.mpr (.inr hj)) hl, X.hw.frame fun j hj hl => e j (List.mem_append.mpr (.inl hj)) hl, X.dj⟩
theorem HP.up (X : HP H C h hp s w W D L p F G) (u : Up h h') : HP H C h' hp s w W D L p F G := X.frame fun j _ hl => u.get j hl
theorem HP.kp {A : List Nat} (X : HP H C h hp s w W D L p F G) (u : Kp A h h') (d1 : ∀ j ∈ A, j ∉ F) (d2 : ∀ j ∈ A, j ∉ G) : HP H C h' hp s w W D L p F G :=
  X.frame fun j hj hl => u.get j hl fun z => by rcases List.mem_append.mp hj with y | y; exact d1 j z y; exact d2 j z y
theorem HP.le {L' : Nat} (X : HP H C h hp s w W D L p F G) (l : L ≤ L') : HP H C h hp s w W D L' p F G := ⟨X.mw.le l, X.hw, X.dj⟩
theorem HQ.frame (X : HQ H C h hp s w W D L p F G) (e : ∀ j ∈ F ++ G, j < h.n → h'.get j = h.get j) : HQ H C h' hp s w W D L p F G := by
  obtain ⟨m, ⟨dc, ds, O, S, rfl, y⟩, d⟩ := X
  exact ⟨m.frame fun j hj hl => e j (List.mem_append.mpr (.inr hj)) hl, ⟨dc, ds, O, S.frame fun j hj hl => e j (List.mem_append.mpr (.inl hj)) hl, rfl, y⟩, d⟩
theorem HQ.up (X : HQ H C h hp s w W D L p F G) (u : Up h h') : HQ H C h' hp s w W D L p F G := X.frame fun j _ hl => u.get j hl
theorem HQ.kp {A : List Nat} (X : HQ H C h hp s w W D L p F G) (u : Kp A h h') (d1 : ∀ j ∈ A, j ∉ F) (d2 : ∀ j ∈ A, j ∉ G) : HQ H C h' hp s w W D L p F G :=
  X.frame fun j hj hl => u.get j hl fun z => by rcases List.mem_append.mp hj with y | y; exact d1 j z y; exact d2 j z y
theorem HP.lt (X : HP H C h hp s w W D L p F G) : (∀ j ∈ F, j < h.n) ∧ ∀ j ∈ G, j < h.n := ⟨X.hw.lt.2.2, X.mw.lt.2⟩
theorem few_pages {r b : Nat} {R : Rows} {B : List (Int × MV)} (M : CM C h s r b R B L p) (v : ∀ x, rget R x = spread D x) (sp : Sep D) (bd : Bd D T) : R.length < 60 := by
  have sub : ∀ n ∈ R.map (fun p => p.1), n ∈ (List.range 51).map fun (k : Nat) => (k : Int) := fun n hn => by
    obtain ⟨q, hq, rfl⟩ := List.mem_map.mp hn
    have lk := look_of_mem M.im.w.keys hq
    have ne := M.ne q hq
    obtain ⟨w1, w2, w3⟩ := M.im.w.row q hq
    have : ∃ x, x ∈ q.2.2 ∧ x ≠ .non := by
      by_cases z : ∃ x, x ∈ q.2.2 ∧ x ≠ .non
      · exact z
      · exact absurd (trim_nil.mpr fun x hx => by
          by_cases y : x = .non
          · exact y
          · exact absurd ⟨x, hx, y⟩ z) ne
    obtain ⟨x, hx, hn⟩ := this
    obtain ⟨i, hi⟩ := List.getElem?_of_mem hx
    have il : i < 8 := by rw [← w2]; exact (List.getElem?_eq_some_iff.mp hi).1
    have vx := v (q.1 * 8 + (i : Nat))
    have rg : rget R (q.1 * 8 + (i : Nat)) = x := by
      unfold rget
      have e1 : (q.1 * 8 + (i : Nat)) / 8 = q.1 := by omega
      rw [e1, lk]
      show ((q.2.2)[((q.1 * 8 + (i : Nat)) % 8).toNat]?).getD .non = x
      have e2 : ((q.1 * 8 + (i : Nat)) % 8).toNat = i := by omega
      rw [e2, hi]; rfl
    obtain ⟨o, ho, o1, o2⟩ := spread_some (D := D) (c := q.1 * 8 + (i : Nat)) (by rw [← vx, rg]; exact hn)
    have := (sp.ok o ho).1
    have := bd.e o ho
    have := bd.t
    exact List.mem_map.mpr ⟨q.1.toNat, List.mem_range.mpr (by omega), by omega⟩
  have := M.im.w.keys.length_le_of_subset sub
  simp at this
  omega
theorem look_x (X : HP H C h hp s w W D L p F G) (bd : Bd D T) : ∃ h' F', mLook H C [.ref hp] h = .ok .non h' ∧ HQ H C h' hp s w W D L p F' G ∧ Tr h h' F G F' G p p D D := by
  obtain ⟨⟨r, b, R, B, M, v, sp, rfl⟩, ⟨dc, ds, pv, O, S, rfl, y⟩, dj⟩ := X
  have go : ∀ (k : pv = .non ∨ ∃ q, pv = .int q ∧ q ≠ p), ∃ h' F', mLook H C [.ref hp] h = .ok .non h' ∧ HQ H C h' hp s w W D L p F' (fp s r b R) ∧ Tr h h' [hp, dc, ds, w] (fp s r b R) F' (fp s r b R) p p D D := fun k => by
    obtain ⟨h', dc', ds', O', e1, e2, e3, e4, e5, e6, e7⟩ := look_new S k M v sp (few_pages M v sp bd) bd.n (fun o ho => by have := bd.e o ho; have := bd.t; have := sz_pos o; omega) (dj hp (by simp)) (dj w (by simp))
    have fl := M.lt
    have nf : ∀ j ∈ [hp, dc', ds', w], j ∉ fp s r b R := fun j hj z => by
      simp only [List.mem_cons, List.not_mem_nil, or_false] at hj
      rcases hj with y | y | y | y
      · exact dj hp (by simp) (y ▸ z)
      · have := fl j z; omega
      · have := fl j z; omega
      · exact dj w (by simp) (y ▸ z)
    refine ⟨h', _, e1, ⟨⟨r, b, R, B, e4, v, sp, rfl⟩, ⟨dc', ds', O', e2, rfl, e3⟩, nf⟩, ⟨e5.le fun j hj _ => by simp at hj; simp [hj], fun j hj => ?_, fun j hj => .inl hj, Int.le_refl _, fun _ => rfl⟩⟩
    simp only [List.mem_cons, List.not_mem_nil, or_false] at hj
    rcases hj with y | y | y | y
    · exact .inl (by simp [y])
    · exact .inr (by omega)
    · exact .inr (by omega)
    · exact .inl (by simp [y])
  rcases y with y | ⟨q, y1, y2, y3⟩
  · exact go (.inl y)
  · by_cases e : q = p
    · subst e y1
      exact ⟨h, _, look_same S M, ⟨⟨r, b, R, B, M, v, sp, rfl⟩, ⟨dc, ds, O, S, rfl, y3 rfl⟩, dj⟩, .refl⟩
    · exact go (.inr ⟨q, y1, e⟩)
theorem szs_len (D : Obs) : (szs D).length = D.length := by unfold szs; rw [List.length_map]
theorem Bd.big (bd : Bd D T) : ∀ o ∈ D, o.1 < 10000000000000 := fun o ho => by have := bd.e o ho; have := bd.t; have := sz_pos o; omega
theorem refs_x (X : HP H C h hp s w W D L p F G) (bd : Bd D T) :
    ∃ h' F' q, mRefs H C [.ref hp] h = .ok (.ref q) h' ∧ h'.get q = some (.lst ((byC D).map fun o => .str (wd o.1))) ∧ h.n ≤ q ∧ q ∉ F' ∧ q ∉ G ∧ HQ H C h' hp s w W D L p F' G ∧ Tr h h' F G F' G p p D D := by
  obtain ⟨fs0, ih0, lk0⟩ := X.hw.ih
  have gl := X.lt.2
  obtain ⟨h1, F1, e1, Y1, t1⟩ := look_x X bd
  have n1 := t1.kp.n
  have sp := Y1.mw.sep
  have fl := Y1.x.lt.1
  have Y1' := Y1
  obtain ⟨M1, ⟨dc, ds, O, S1, rfl, pm⟩, dj⟩ := Y1
  have s1 : gExpr (gMeth H nLook (mLook H C) [] 1 (gVar 0) gNil) [some (.ref hp), none] h = .nx [some (.ref hp), none] h1 :=
    expr_nx ((meth0 (c := H) (f := nLook) (g := mLook H C) (o := gVar 0) (m := [some (.ref hp), none]) (n := 1) rfl ih0 (lk0 nLook (by decide)) rfl).trans e1)
  obtain ⟨Z, eZ⟩ : ∃ Z, Z = (byC D).map fun o => MV.int o.1 := ⟨_, rfl⟩
  have so := S1.sorted_at (by rw [pm.length_eq, szs_len]; exact bd.n)
  rw [isort_byC sp pm] at so
  have eZ' : ((szs (byC D)).map (·.1)).map MV.int = Z := by rw [eZ]; unfold szs; rw [List.map_map, List.map_map]; rfl
  rw [eZ'] at so
  have lZ : Z.length < 60 := by rw [eZ, List.length_map, (byC_perm D).length_eq]; exact bd.n
  have g2 : (h1.push (.lst Z)).get h1.n = some (.lst Z) := get_top
  obtain ⟨it, i1, i2, i3⟩ := XM.iter_it (.ref g2)
  have so' : gCB (f1 mSortedA) (gCons (gFld [H] fSizes (gVar 0)) (gNil)) [some (.ref hp), none] h1 = .ok (.ref h1.n) (h1.push (.lst Z)) := by
    have f := fld_at (C := H) (f := fSizes) (m := [some (.ref hp), none]) (y := .ref ds) rfl S1.ih rfl
    simp only [gCB, f1, gCons, gNil, f, Out.bind, so]
  have it0 : gIter (gCB (f1 mSortedA) (gCons (gFld [H] fSizes (gVar 0)) (gNil))) [some (.ref hp), none] h1 = .ok it (h1.push (.lst Z)) := by
    have := i1 [some (.ref hp), none] (fun _ h' => .ok (.ref h1.n) h') rfl
    unfold gIter at this ⊢
    rw [so']
    simpa only [Out.bind] using this
  obtain ⟨h3, a1, a2, a3⟩ := comp_up (gi := fun _ h => .ok it h) (it := it) (ws := Z) (m := [some (.ref hp), none]) (h := h1.push (.lst Z)) (sl := 1) (e := gFs [gC (.str [64]), gUn mFmt (gVar 1)] []) (F := fun x => match x with
    | .int c => .str (wd c)
    | _ => .non) rfl i2 (by omega) (fun h' u j => i3 h' (.ref (u.at g2)) j) (fun x hx h' u => by
      rw [eZ] at hx
      obtain ⟨o, ho, rfl⟩ := List.mem_map.mp hx
      have hoD := (byC_perm D).mem_iff.mp ho
      exact ⟨h', wd_ok (j := 1) (sp.ok o hoD).1 (bd.big o hoD) rfl, .refl⟩)
  have u3 : Up h1 h3 := Up.push.trans a3
  rw [eZ, List.map_map] at a2
  refine ⟨h3, _, (h1.push (.lst Z)).n, body_rt (v := .ref (h1.push (.lst Z)).n) ((seq_nx s1).trans ?_), a2, by show h.n ≤ h1.n + 1; omega, fun z => ?_, fun z => ?_, Y1'.up u3, t1.trans (.up u3)⟩
  · show gRet _ [some (.ref hp), none] h1 = _
    unfold gRet
    have ev : gLc (gIter (gCB (f1 mSortedA) (gCons (gFld [H] fSizes (gVar 0)) (gNil)))) (.one 1) (gYes) (gFs [gC (.str [64]), gUn mFmt (gVar 1)] []) [1] [some (.ref hp), none] h1 = .ok (.ref (h1.push (.lst Z)).n) h3 := by
      unfold gLc at a1 ⊢
      rw [it0]
      exact a1
    rw [ev]; rfl
  · have : h1.n + 1 < h1.n := fl _ z
    omega
  · have : h1.n + 1 < h.n := gl _ z
    omega
theorem szs_mem {o : Obj3} (ho : o ∈ D) : (o.1, sz o) ∈ szs D := List.mem_map.mpr ⟨o, ho, rfl⟩
theorem cell_x (X : HP H C h hp s w W D L p F G) (bd : Bd D T) {o : Obj3} (ho : o ∈ D) :
    ∃ h' F', mCell H C eO [.ref hp, .str (wd o.1)] h = .ok (.int o.1) h' ∧ HQ H C h' hp s w W D L p F' G ∧ Tr h h' F G F' G p p D D := by
  obtain ⟨fs0, ih0, lk0⟩ := X.hw.ih
  obtain ⟨h1, F1, e1, Y1, t1⟩ := look_x X bd
  refine ⟨h1, F1, ?_, Y1, t1⟩
  obtain ⟨M1, ⟨dc, ds, O, S1, rfl, pm⟩, dj⟩ := Y1
  have ho' := pm.mem_iff.mpr (szs_mem ho)
  have hz := find_wd S1.fo ho'
  have s1 : gExpr (gMeth H nLook (mLook H C) [] 1 (gVar 0) gNil) [some (.ref hp), some (.str (wd o.1))] h = .nx [some (.ref hp), some (.str (wd o.1))] h1 :=
    expr_nx ((meth0 (c := H) (f := nLook) (g := mLook H C) (o := gVar 0) (m := [some (.ref hp), some (.str (wd o.1))]) (n := 1) rfl ih0 (lk0 nLook (by decide)) rfl).trans e1)
  have f : gFld [H] fCells (gVar 0) [some (.ref hp), some (.str (wd o.1))] h1 = .ok (.ref dc) h1 := fld_at rfl S1.ih rfl
  have v1 : gVar 1 [some (.ref hp), some (.str (wd o.1))] h1 = .ok (.str (wd o.1)) h1 := rfl
  have dd : isD h1 (.ref dc) = true := by simp [isD, S1.gc]
  refine body_rt (v := .int o.1) ((seq_nx s1).trans ((seq_nx (m' := [some (.ref hp), some (.str (wd o.1))]) (h' := h1) ((ifS_f (h1 := h1) ?_).trans rfl)).trans ?_))
  · simp only [MI.gB, gBin, v1, Out.bind, f, mIn, dd, if_pos, mInD, dGet, S1.gc, mkey, Option.map_some, find_c, hz]
    rfl
  · have := S1.cell_at ho'
    unfold gRet
    simp only [gBin, f, Out.bind, v1, this]
    rfl
end
end HC
set_option Elab.async false
set_option linter.all false
set_option maxRecDepth 100000
set_option maxHeartbeats 400000
namespace HC
open MI XG XM XK DK PySem
open L2 (atI ixN)
section
variable {H C eO eP : Nat} {bP bF : MS} {h h' : MH} {hp s w L : Nat} {W : List MV} {p p' : Int} {D D' : Obs} {F G F' G' : List Nat} {T : Int}
theorem HQ.ih (X : HQ H C h hp s w W D L p F G) : ∃ fs, h.get hp = some (.ins H fs) ∧ ∀ nm, nm ∉ [fMem, fCells, fSizes, fP, fWat] → fs.lookup nm = none := X.x.hw.ih
theorem HQ.mem (X : HQ H C h hp s w W D L p F G) {m : ML} (m0 : m[0]? = some (some (.ref hp))) : eMem H m h = .ok (.ref s) h := by
  obtain ⟨m, ⟨dc, ds, O, S, e, y⟩, d⟩ := X
  exact S.mem m0
def eAtm (H C : Nat) : MS := gRet (gCB (f1 mTuple) (gCons (gLc (gRng2 (gBin MI.mAdd (gVar 2) (gC (.int 2))) (gBin MI.mAdd (gVar 2) (gBin mIx (gFld [H] fSizes (gVar 0)) (gVar 2)))) (.one 3) (gYes) (gMeth C nGet (mGet C) [] 2 (eMem H) (gCons (gVar 3) (gNil))) [3]) (gNil)))
theorem atoms_core (Y1 : HQ H C h hp s w W D L p F G) (bd : Bd D T) {o : Obj3} (ho : o ∈ D) :
    ∃ h', eAtm H C [some (.ref hp), some (.str (wd o.1)), some (.int o.1), none] h = .rt (.tup o.2.2) h' ∧ Up h h' := by
  have sp := Y1.mw.sep
  have ok := sp.ok o ho
  have ok1 := ok.1
  have be := bd.e o ho
  have bt := bd.t
  have esz : sz o = 2 + (o.2.2.length : Int) := rfl
  have Y1' := Y1
  obtain ⟨M1, ⟨dc, ds, O, S1, rfl, pm⟩, dj⟩ := Y1
  have it0 : gRng2 (gBin MI.mAdd (gVar 2) (gC (.int 2))) (gBin MI.mAdd (gVar 2) (gBin mIx (gFld [H] fSizes (gVar 0)) (gVar 2))) [some (.ref hp), some (.str (wd o.1)), some (.int o.1), none] h = .ok (it1R (o.1 + 2) o.2.2.length) h := by
    have f : gFld [H] fSizes (gVar 0) [some (.ref hp), some (.str (wd o.1)), some (.int o.1), none] h = .ok (.ref ds) h := fld_at rfl S1.ih rfl
    have v2 : gVar 2 [some (.ref hp), some (.str (wd o.1)), some (.int o.1), none] h = .ok (.int o.1) h := rfl
    have sa := S1.size_at (pm.mem_iff.mpr (szs_mem ho))
    unfold gRng2
    simp only [gBin, v2, gC, Out.bind, f, sa, MI.mAdd]
    rw [if_pos (by omega)]
    have : (o.1 + sz o - (o.1 + 2)).toNat = o.2.2.length := by omega
    rw [this]
  obtain ⟨ws, ew⟩ : ∃ ws, ws = (List.range o.2.2.length).map fun (k : Nat) => MV.int (o.1 + 2 + (k : Nat)) := ⟨_, rfl⟩
  have lw : ws.length = o.2.2.length := by rw [ew]; simp
  obtain ⟨h3, a1, a2, a3⟩ := comp_up (gi := fun _ h => .ok (it1R (o.1 + 2) o.2.2.length) h) (it := it1R (o.1 + 2) o.2.2.length) (ws := ws) (m := [some (.ref hp), some (.str (wd o.1)), some (.int o.1), none]) (h := h) (sl := 3) (e := gMeth C nGet (mGet C) [] 2 (eMem H) (gCons (gVar 3) (gNil))) (F := fun x => match x with
    | .int c => spread D c
    | _ => .non) rfl (by rw [lw]; rfl) (by have := ok.2.2.2.2; omega) (fun h' u j => by
      rw [ew, List.getElem?_map]
      by_cases hj : j < o.2.2.length
      · rw [rng_at hj, List.getElem?_range hj]; rfl
      · rw [List.getElem?_eq_none (by simp; omega)]
        show some (if j < o.2.2.length then _ else none) = _
        rw [if_neg hj]; rfl) (fun x hx h' u => by
      rw [ew] at hx
      obtain ⟨k, hk, rfl⟩ := List.mem_map.mp hx
      have Y := Y1'.up u
      obtain ⟨gs, gi, gl⟩ := Y.mw.ins
      exact ⟨h', (meth1 (c := C) (f := nGet) (g := mGet C) (o := eMem H) (a := gVar 3) (m := [some (.ref hp), some (.str (wd o.1)), some (.int o.1), some (.int (o.1 + 2 + (k : Nat)))]) (n := 2) (x := .int (o.1 + 2 + (k : Nat))) (h1 := h') (h2 := h') (Y.mem rfl) gi gl rfl rfl).trans (Y.mw.get _), .refl⟩)
  have ev : ws.map (fun x => match x with
    | .int c => spread D c
    | _ => .non) = o.2.2 := by
    rw [ew, List.map_map]
    refine List.ext_getElem? fun k => ?_
    rw [List.getElem?_map]
    by_cases hk : k < o.2.2.length
    · rw [List.getElem?_range hk]
      show some (spread D (o.1 + 2 + (k : Nat))) = _
      rw [spread_atom sp ho hk, List.getElem?_eq_getElem hk]; rfl
    · rw [List.getElem?_eq_none (by simp; omega), List.getElem?_eq_none (by omega)]; rfl
  rw [ev] at a2
  refine ⟨h3, ?_, a3⟩
  unfold eAtm gRet
  have e3 : gLc (gRng2 (gBin MI.mAdd (gVar 2) (gC (.int 2))) (gBin MI.mAdd (gVar 2) (gBin mIx (gFld [H] fSizes (gVar 0)) (gVar 2)))) (.one 3) (gYes) (gMeth C nGet (mGet C) [] 2 (eMem H) (gCons (gVar 3) (gNil))) [3] [some (.ref hp), some (.str (wd o.1)), some (.int o.1), none] h = .ok (.ref h.n) h3 := by
    unfold gLc at a1 ⊢
    rw [it0]
    exact a1
  simp only [gCB, f1, gCons, gNil, e3, Out.bind, mTuple, seqOf, a2]
  rfl
theorem plc_x (X : HP H C h hp s w W D L p F G) (bd : Bd D T) {o : Obj3} (ho : o ∈ D) {k : Nat} (hk : k < o.2.2.length) :
    ∃ h' F', mPlc H C eO eP [.ref hp, .str (wd o.1), .int (k : Nat)] h = .ok (.int (o.1 + 2 + (k : Nat))) h' ∧ HQ H C h' hp s w W D L p F' G ∧ Tr h h' F G F' G p p D D := by
  obtain ⟨fs0, ih0, lk0⟩ := X.hw.ih
  obtain ⟨h1, F1, e1, Y1, t1⟩ := cell_x (eO := eO) X bd ho
  refine ⟨h1, F1, ?_, Y1, t1⟩
  have esz : sz o = 2 + (o.2.2.length : Int) := rfl
  have s1 : gAsg (gMeth H nCell (mCell H C eO) [] 2 (gVar 0) (gCons (gVar 1) (gNil))) (tgName 3) [some (.ref hp), some (.str (wd o.1)), some (.int (k : Nat)), none] h = .nx [some (.ref hp), some (.str (wd o.1)), some (.int (k : Nat)), some (.int o.1)] h1 :=
    asg_nx ((meth1 (x := .str (wd o.1)) (h1 := h) (h2 := h) rfl ih0 (lk0 nCell (by decide)) rfl rfl).trans e1)
  obtain ⟨M1, ⟨dc, ds, O, S1, rfl, pm⟩, dj⟩ := Y1
  have f : gFld [H] fSizes (gVar 0) [some (.ref hp), some (.str (wd o.1)), some (.int (k : Nat)), some (.int o.1)] h1 = .ok (.ref ds) h1 := fld_at rfl S1.ih rfl
  have v2 : gVar 2 [some (.ref hp), some (.str (wd o.1)), some (.int (k : Nat)), some (.int o.1)] h1 = .ok (.int (k : Nat)) h1 := rfl
  have v3 : gVar 3 [some (.ref hp), some (.str (wd o.1)), some (.int (k : Nat)), some (.int o.1)] h1 = .ok (.int o.1) h1 := rfl
  have sa := S1.size_at (pm.mem_iff.mpr (szs_mem ho))
  refine body_rt (v := .int (o.1 + 2 + (k : Nat))) ((seq_nx s1).trans ((seq_nx (m' := [some (.ref hp), some (.str (wd o.1)), some (.int (k : Nat)), some (.int o.1)]) (h' := h1) ((ifS_f (h1 := h1) ?_).trans rfl)).trans ?_))
  · have z1 : decide (((k : Nat) : Int) < 0) = false := decide_eq_false (by omega)
    have z2 : decide (sz o - 2 ≤ ((k : Nat) : Int)) = false := decide_eq_false (by omega)
    simp only [gOr, MI.gB, gBin, v2, v3, f, gC, Out.bind, mLtI, mGeI, mI, z1, Bool.false_eq_true, if_false, sa, mSub, z2]
  · rfl
theorem wrt_x (X : HQ H C h hp s w W D L p F G) {v : MV} {xs : List MV} (sq : Sq h v xs) (nq : ∀ q, v = .ref q → q ∉ G) (ha : ∀ x ∈ xs, atB x = true) (lx : xs.length < 100) (hL : L + 500 < 1000000) (c : Int) (sp' : Sep D') (pz : (szs D).Perm (szs D'))
    (ev : ∀ x, over (spread D) c xs x = spread D' x) (hv : szs D' = szs D ∨ ∃ x, spread D' x ≠ spread D x) :
    ∃ h' G' p', mWrt H C [.ref hp, .int c, v] h = .ok .non h' ∧ HQ H C h' hp s w W D' (L + 2 * xs.length) p' F G' ∧ Tr h h' F G F G' p p' D D' := by
  obtain ⟨⟨r, b, R, B, M, vv, sp, rfl⟩, ⟨dc, ds, O, S, rfl, pm⟩, dj⟩ := X
  obtain ⟨h1, R1, B1, p1, e1, S1, M1, v1, q1, q2, k1, f1⟩ := wrt_ok S M sq nq dj ha (by omega) (by omega) c
  have v2 : ∀ x, rget R1 x = spread D' x := fun x => by
    rw [v1, ← ev]
    unfold over
    split
    · rfl
    · exact vv x
  refine ⟨h1, _, p1, e1, ⟨⟨r, b, R1, B1, M1, v2, sp', rfl⟩, ⟨dc, ds, O, S1, rfl, pm.trans pz⟩, fun j hj z => ?_⟩, ⟨k1.le fun j hj _ => ?_, fun j hj => .inl hj, f1, q1, fun e => ?_⟩⟩
  · rcases f1 j z with y | y
    · exact dj j hj y
    · have := S.lt j hj; omega
  · rcases List.mem_cons.mp hj with z | z
    · rw [z]; simp
    · exact List.mem_append.mpr (.inr z)
  · rcases hv with y | ⟨x, y⟩
    · exact y
    · exact absurd (by rw [← v2, q2 e x, vv]) y
theorem make_x (X : HP H C h hp s w W D L p F G) (bd : Bd D T) {k v : MV} {xs : List MV} (sq : Sq h v xs) (nq : ∀ q, v = .ref q → q ∉ F ∧ q ∉ G) (lx : xs.length ≤ 20) (hk : atB k = true) (hkn : k ≠ .non) (ha : ∀ x ∈ xs, atB x = true) (hT : 0 ≤ T) (hT2 : T < 350) (hD : D.length < 59) (hL : L + 600 < 1000000) :
    ∃ h' F' G' p' c, mMake H C [.ref hp, k, v] h = .ok (.str (wd c)) h' ∧ c = lowG (szs (byC D)) (2 + xs.length) 0 ∧ HQ H C h' hp s w W (D ++ [(c, k, xs)]) (L + 50) p' F' G' ∧ Tr h h' F G F' G' p p' D (D ++ [(c, k, xs)]) ∧ 0 ≤ c ∧ c ≤ T ∧ Sep (D ++ [(c, k, xs)]) := by
  obtain ⟨fs0, ih0, lk0⟩ := X.hw.ih
  obtain ⟨h1, F1, e1, Y1, t1⟩ := look_x X bd
  have sp := Y1.mw.sep
  have sq1 : Sq h1 v xs := sq.kp t1.kp fun q e z => by rcases List.mem_append.mp z with y | y; exact (nq q e).1 y; exact (nq q e).2 y
  obtain ⟨M1, ⟨dc, ds, O, S1, eF, pm⟩, dj⟩ := Y1
  obtain ⟨c, ec⟩ : ∃ c, c = lowG (szs (byC D)) (2 + xs.length) 0 := ⟨_, rfl⟩
  obtain ⟨h2, e2, u2⟩ := low_ok S1 sp pm bd.n (2 + xs.length)
  rw [← ec] at e2
  have pw : (szs (byC D)).Pairwise fun a b => a.1 + a.2 ≤ b.1 := by unfold szs; rw [List.pairwise_map]; exact byC_pw sp
  obtain ⟨c0, cT, cA⟩ := lowG_ok (n := 2 + xs.length) (low := 0) (T := T) pw (fun o ho => by
    obtain ⟨o', ho', rfl⟩ := List.mem_map.mp ho
    have hm := (byC_perm D).mem_iff.mp ho'
    exact ⟨(sp.ok o' hm).1, sz_pos o', bd.e o' hm⟩) hT
  rw [← ec] at c0 cT cA
  have apt : ∀ o ∈ D, Apt o (c, k, xs) := fun o ho => by
    have := cA (o.1, sz o) (szs_mem ((byC_perm D).mem_iff.mpr ho))
    rcases this with y | y
    · exact .inr y
    · exact .inl y
  have okc : OkO (c, k, xs) := ⟨c0, hk, hkn, ha, lx⟩
  have sp' := sp.app okc apt
  have S2 := S1.up u2
  have lO : O.length < 60 := by rw [pm.length_eq, szs_len]; exact bd.n
  have fresh : ∀ q ∈ O, q.1 ≠ c := fun q hq z => by
    have := pm.mem_iff.mp hq
    obtain ⟨o, ho, rfl⟩ := List.mem_map.mp this
    have := sz_pos o
    have := sz_pos (c, k, xs)
    dsimp only at z
    rcases apt o ho with y | y
    · have : (c, k, xs).1 = c := rfl
      omega
    · have : (c, k, xs).1 = c := rfl
      omega
  obtain ⟨h3, e3, S3, k3⟩ := add_ok S2 (by omega) fresh c0 (by omega) (z := 2 + (xs.length : Int)) (by omega)
  have n2 := u2.n
  have n3 := k3.n
  have sq3 : Sq h3 v xs := (sq1.up u2).kp k3 fun q e z => by
    have z' : q ∈ F1 := by rw [eF]; simp at z; rcases z with z | z <;> simp [z]
    rcases t1.f q z' with y | y
    · exact (nq q e).1 y
    · cases sq with
      | tup => cases e
      | ref g => cases e; have := MH.get_lt g; omega
  -- the row that is written
  have row : gLst (gCons (gVar 1) (gCons (gCB (f1 mLenV) (gCons (gVar 2) (gNil))) (gStar (gVar 2) (gNil)))) [some (.ref hp), some k, some v, some (.int c), some (.int (2 + (xs.length : Int)))] h3 = .ok (.ref h3.n) (h3.push (.lst (cl (c, k, xs)))) := by
    have v1 : gVar 1 [some (.ref hp), some k, some v, some (.int c), some (.int (2 + (xs.length : Int)))] h3 = .ok k h3 := rfl
    have v2 : gVar 2 [some (.ref hp), some k, some v, some (.int c), some (.int (2 + (xs.length : Int)))] h3 = .ok v h3 := rfl
    have ln := sq3.len
    have sx : seqOf h3 v = some xs := by cases sq3 with
      | tup => rfl
      | ref g => simp [seqOf, g]
    unfold gLst
    simp only [gCons, v1, Out.bind, gCB, f1, v2, gNil, ln, gStar, sx, List.append_nil]
    rw [if_pos (by simp; omega)]
    rfl
  have M2 : MW C h2 s D L p G := M1.frame fun j _ hl => u2.get j hl
  have M3 : MW C h3 s D L p G := M2.frame fun j hj hl => k3.get j hl fun z => dj j (by rw [eF]; simp at z; rcases z with z | z <;> simp [z]) hj
  have u4 : Up h3 (h3.push (.lst (cl (c, k, xs)))) := Up.push
  -- write
  have Gl := M3.lt.2
  have wr : ∃ h' G' p', mWrt H C [.ref hp, .int c, .ref h3.n] (h3.push (.lst (cl (c, k, xs)))) = .ok .non h' ∧ HQ H C h' hp s w W (D ++ [(c, k, xs)]) (L + 50) p' F1 G' ∧ Kp (F1 ++ G) h3 h' ∧ (∀ j ∈ G', j ∈ G ∨ h3.n ≤ j) ∧ p ≤ p' ∧ (p' = p → False) := by
    obtain ⟨r, b, R, B, M, vv, _, rfl⟩ := M3
    have pn : (h3.push (.lst (cl (c, k, xs)))).n = h3.n + 1 := rfl
    have lc : (cl (c, k, xs)).length = xs.length + 2 := by simp [cl]
    have ac : ∀ x ∈ cl (c, k, xs), atB x = true := fun x hx => by
      simp only [cl, List.mem_cons] at hx
      rcases hx with y | y | y
      · rw [y]; exact hk
      · rw [y]
        simp only [atB, decide_eq_true_eq]
        omega
      · exact ha x y
    obtain ⟨h5, R1, B1, p1, w1, S5, M5, v5, q1, q2, k5, f5⟩ := wrt_ok (S3.up u4) (M.up u4) (.ref get_top) (fun q e => by cases e; exact fun z => by have := Gl _ z; omega) (by rw [← eF]; exact dj) ac (by omega) (by omega) c
    have v6 : ∀ x, rget R1 x = spread (D ++ [(c, k, xs)]) x := fun x => by
      rw [v5, spread_app sp apt]
      unfold over
      split
      · rfl
      · exact vv x
    refine ⟨h5, _, p1, w1, ⟨⟨r, b, R1, B1, M5.le (by omega), v6, sp', rfl⟩, ⟨dc, ds, _, S5, eF, ?_⟩, fun j hj z => ?_⟩, ⟨by have := k5.n; omega, fun j hj hf => ?_⟩, fun j hj => ?_, q1, fun e => ?_⟩
    · have : szs (D ++ [(c, k, xs)]) = szs D ++ [(c, 2 + (xs.length : Int))] := by simp [szs, sz]
      rw [this]
      exact pm.append_right _
    · have l := S3.lt
      rcases f5 j z with y | y
      · exact dj j hj y
      · rw [eF] at hj
        have := l j hj; omega
    · rw [k5.get j (by omega) (fun z => hf (by
        rcases List.mem_cons.mp z with y | y
        · rw [y, eF]; simp
        · exact List.mem_append.mpr (.inr y))), Up.push.get j hj]
    · rcases f5 j hj with y | y
      · exact .inl y
      · exact .inr (by omega)
    · have a := q2 e c
      rw [v6, vv, spread_first sp' (by simp : ((c, k, xs) : Obj3) ∈ D ++ [(c, k, xs)])] at a
      refine hkn (a.trans (spread_none fun o ho => ?_))
      have e1 : (c, k, xs).1 = c := rfl
      have := sz_pos (c, k, xs)
      have := sz_pos o
      rcases apt o ho with y | y
      · exact .inr (by omega)
      · exact .inl (by omega)
  obtain ⟨h5, G5, p5, e5, X5, k5, g5, v5, v6⟩ := wr
  refine ⟨h5, F1, G5, p5, c, ?_, ec, X5, ?_, c0, cT, sp'⟩
  · have s1 : gExpr (gMeth H nLook (mLook H C) [] 1 (gVar 0) gNil) [some (.ref hp), some k, some v, none, none] h = .nx [some (.ref hp), some k, some v, none, none] h1 :=
      expr_nx ((meth0 (c := H) (f := nLook) (g := mLook H C) (o := gVar 0) (m := [some (.ref hp), some k, some v, none, none]) (n := 1) rfl ih0 (lk0 nLook (by decide)) rfl).trans e1)
    have s2 : gAsg (gBin MI.mAdd (gC (.int 2)) (gCB (f1 mLenV) (gCons (gVar 2) (gNil)))) (tgName 4) [some (.ref hp), some k, some v, none, none] h1 = .nx [some (.ref hp), some k, some v, none, some (.int (2 + (xs.length : Int)))] h1 := by
      refine asg_nx (v := .int (2 + (xs.length : Int))) ?_
      have v2 : gVar 2 [some (.ref hp), some k, some v, none, none] h1 = .ok v h1 := rfl
      simp only [gBin, gC, gCB, f1, gCons, gNil, v2, Out.bind, sq1.len, MI.mAdd]
    have s3 : gAsg (gMeth H nLow (mLow H) [] 2 (gVar 0) (gCons (gVar 4) (gNil))) (tgName 3) [some (.ref hp), some k, some v, none, some (.int (2 + (xs.length : Int)))] h1 = .nx [some (.ref hp), some k, some v, some (.int c), some (.int (2 + (xs.length : Int)))] h2 :=
      asg_nx ((meth1 (n := 2) (x := .int (2 + (xs.length : Int))) (h1 := h1) (h2 := h1) rfl S1.ih (lkf (by decide)) rfl rfl).trans e2)
    have s4 : gExpr (gMeth H nAdd (mAdd' H) [] 3 (gVar 0) (gCons (gVar 3) (gCons (gVar 4) (gNil)))) [some (.ref hp), some k, some v, some (.int c), some (.int (2 + (xs.length : Int)))] h2 = .nx [some (.ref hp), some k, some v, some (.int c), some (.int (2 + (xs.length : Int)))] h3 :=
      expr_nx ((meth2 (n := 3) (x := .int c) (y := .int (2 + (xs.length : Int))) (h1 := h2) (h2 := h2) (h3 := h2) rfl S2.ih (lkf (by decide)) rfl rfl rfl).trans e3)
    have s5 : gExpr (gMeth H nWrt (mWrt H C) [] 3 (gVar 0) (gCons (gVar 3) (gCons (gLst (gCons (gVar 1) (gCons (gCB (f1 mLenV) (gCons (gVar 2) (gNil))) (gStar (gVar 2) (gNil))))) (gNil)))) [some (.ref hp), some k, some v, some (.int c), some (.int (2 + (xs.length : Int)))] h3 = .nx [some (.ref hp), some k, some v, some (.int c), some (.int (2 + (xs.length : Int)))] h5 :=
      expr_nx ((meth2 (n := 3) (x := .int c) (y := .ref h3.n) (h1 := h3) (h2 := h3) (h3 := h3.push (.lst (cl (c, k, xs)))) rfl S3.ih (lkf (by decide)) rfl row rfl).trans e5)
    have s6 : gRet (gFs [gC (.str [64]), gUn mFmt (gVar 3)] []) [some (.ref hp), some k, some v, some (.int c), some (.int (2 + (xs.length : Int)))] h5 = .rt (.str (wd c)) h5 := by
      unfold gRet
      rw [wd_ok (j := 3) c0 (by omega) rfl]; rfl
    exact body_rt (v := .str (wd c)) ((seq_nx s1).trans ((seq_nx s2).trans ((seq_nx s3).trans ((seq_nx s4).trans ((seq_nx s5).trans s6)))))
  · have t2 : Tr h1 h5 F1 G F1 G5 p p5 D (D ++ [(c, k, xs)]) := by
      refine ⟨⟨by have := k5.n; omega, fun j hj hf => ?_⟩, fun j hj => .inl hj, fun j hj => ?_, v5, fun e => (v6 e).elim⟩
      · rw [k5.get j (by omega) hf, k3.get j (by omega) (fun z => hf (List.mem_append.mpr (.inl (by rw [eF]; simp at z; rcases z with z | z <;> simp [z])))), u2.get j hj]
      · rcases g5 j hj with y | y
        · exact .inl y
        · exact .inr (by omega)
    exact t1.trans t2
end
end HC
set_option Elab.async false
set_option linter.all false
set_option maxRecDepth 100000
set_option maxHeartbeats 400000
namespace HC
open MI XG XM XK DK PySem
open L2 (atI ixN)
section
variable {H C eO eP : Nat} {bP bF : MS} {h h' : MH} {hp s w L : Nat} {W : List MV} {p p' : Int} {D D' : Obs} {F G F' G' : List Nat} {T : Int}
theorem put_x (X : HP H C h hp s w W D L p F G) (bd : Bd D T) {o : Obj3} (ho : o ∈ D) {k : Nat} (hk : k < o.2.2.length) {a : MV} (ha : atB a = true) (hL : L + 600 < 1000000) :
    ∃ h1 F1, HQ H C h1 hp s w W D L p F1 G ∧ Tr h h1 F G F1 G p p D D ∧ ∀ h2 o5, gFor (gIter (gFld [H] fWat (gVar 0))) (tgName 5) bP [some (.ref hp), some (.str (wd o.1)), some (.int (k : Nat)), some a, some (.int (o.1 + 2 + (k : Nat))), none] h1 = .nx [some (.ref hp), some (.str (wd o.1)), some (.int (k : Nat)), some a, some (.int (o.1 + 2 + (k : Nat))), o5] h2 →
      HQ H C h2 hp s w W D L p F1 G → ∃ h3 G3 p3, mHPut H C eO eP bP [.ref hp, .str (wd o.1), .int (k : Nat), a] h = .ok .non h3 ∧ HQ H C h3 hp s w W (putD o.1 k a D) (L + 2) p3 F1 G3 ∧ Tr h2 h3 F1 G F1 G3 p p3 D (putD o.1 k a D) := by
  obtain ⟨fs0, ih0, lk0⟩ := X.hw.ih
  obtain ⟨h1, F1, e1, Y1, t1⟩ := plc_x (eO := eO) (eP := eP) X bd ho hk
  refine ⟨h1, F1, Y1, t1, fun h2 o5 lp Y2 => ?_⟩
  have sp := Y1.mw.sep
  obtain ⟨fs2, ih2, lk2⟩ := Y2.ih
  have gl := Y2.x.lt
  have Y3 := Y2.up (Up.push (o := .lst [a]))
  have pn : (h2.push (.lst [a])).n = h2.n + 1 := rfl
  obtain ⟨h3, G3, p3, e3, Y4, t4⟩ := wrt_x Y3 (v := .ref h2.n) (xs := [a]) (.ref get_top) (fun q e z => by cases e; have := gl.2 _ z; omega) (fun x hx => by rw [List.mem_singleton.mp hx]; exact ha) (by simp) (by omega) (o.1 + 2 + (k : Nat)) (sp.put o.1 k ha) (by rw [szs_put]) (fun x => by
    rw [spread_put sp ho hk ha]
    unfold over
    by_cases e : x = o.1 + 2 + (k : Nat)
    · rw [if_pos e, if_pos (by simp; omega), e]; simp
    · rw [if_neg e, if_neg (by simp; omega)]) (.inl (szs_put _ _ _ _))
  refine ⟨h3, G3, p3, ?_, Y4, (Tr.up Up.push).trans t4⟩
  have s1 : gAsg (gMeth H nPlc (mPlc H C eO eP) [] 3 (gVar 0) (gCons (gVar 1) (gCons (gVar 2) (gNil)))) (tgName 4) [some (.ref hp), some (.str (wd o.1)), some (.int (k : Nat)), some a, none, none] h = .nx [some (.ref hp), some (.str (wd o.1)), some (.int (k : Nat)), some a, some (.int (o.1 + 2 + (k : Nat))), none] h1 :=
    asg_nx ((meth2 (n := 3) (x := .str (wd o.1)) (y := .int (k : Nat)) (h1 := h) (h2 := h) (h3 := h) rfl ih0 (lk0 nPlc (by decide)) rfl rfl rfl).trans e1)
  have s3 : gExpr (gMeth H nWrt (mWrt H C) [] 3 (gVar 0) (gCons (gVar 4) (gCons (gLst (gCons (gVar 3) (gNil))) (gNil)))) [some (.ref hp), some (.str (wd o.1)), some (.int (k : Nat)), some a, some (.int (o.1 + 2 + (k : Nat))), o5] h2 = .nx [some (.ref hp), some (.str (wd o.1)), some (.int (k : Nat)), some a, some (.int (o.1 + 2 + (k : Nat))), o5] h3 :=
    expr_nx ((meth2 (n := 3) (x := .int (o.1 + 2 + (k : Nat))) (y := .ref h2.n) (h1 := h2) (h2 := h2) (h3 := h2.push (.lst [a])) rfl ih2 (lk2 nWrt (by decide)) rfl rfl rfl).trans e3)
  exact body_nx ((seq_nx s1).trans ((seq_nx lp).trans s3))
theorem nobody (X : HQ H C h hp s w [] D L p F G) {t : MG} {b : MS} {m : ML} (m0 : m[0]? = some (some (.ref hp))) : gFor (gIter (gFld [H] fWat (gVar 0))) t b m h = .nx m h := by
  obtain ⟨m, ⟨dc, ds, O, S, e, y⟩, d⟩ := X
  exact for_nil (gi := gIter (gFld [H] fWat (gVar 0))) (fld_at m0 S.ih rfl) S.gw
theorem put_0 (X : HP H C h hp s w [] D L p F G) (bd : Bd D T) {o : Obj3} (ho : o ∈ D) {k : Nat} (hk : k < o.2.2.length) {a : MV} (ha : atB a = true) (hL : L + 600 < 1000000) :
    ∃ h3 F3 G3 p3, mHPut H C eO eP bP [.ref hp, .str (wd o.1), .int (k : Nat), a] h = .ok .non h3 ∧ HQ H C h3 hp s w [] (putD o.1 k a D) (L + 2) p3 F3 G3 ∧ Tr h h3 F G F3 G3 p p3 D (putD o.1 k a D) := by
  obtain ⟨h1, F1, Y1, t1, go⟩ := put_x (eO := eO) (eP := eP) (bP := bP) X bd ho hk ha hL
  obtain ⟨h3, G3, p3, e3, Y3, t3⟩ := go h1 none (nobody Y1 rfl) Y1
  exact ⟨h3, F1, G3, p3, e3, Y3, t1.trans t3⟩
end
end HC
set_option Elab.async false
set_option linter.all false
set_option maxRecDepth 100000
set_option maxHeartbeats 400000
namespace HC
open MI XG XM XK DK PySem
open L2 (atI ixN)
theorem mem_new {C : Nat} {h : MH} {s : Nat} (hs : h.get s = some (.ins C [])) :
    ∃ h' r b, mInit C [.ref s, .ktp []] h = .ok .non h' ∧ MemK C h' s r b [] 100 [] none 0 ∧ Kp [s] h h' ∧ h.n ≤ r ∧ h.n ≤ b := by
  have hsn := MH.get_lt hs
  have hs1 : (h.push (.dic [])).get s = some (.ins C []) := Up.push.at hs
  have s1 := XM.fldS_ok (C := C) (f := fR) (v := gDic) (m := [some (.ref s), some (.ktp []), none, none]) (h := h) rfl rfl hs1 (by decide)
  have eI : mput fR (.ref h.n) [] = [(fR, MV.ref h.n)] := rfl
  rw [eI] at s1
  obtain ⟨hB, eB⟩ : ∃ hB, hB = (h.push (.dic [])).set s (.ins C [(fR, .ref h.n)]) := ⟨_, rfl⟩
  rw [← eB] at s1
  have nB : hB.n = h.n + 1 := by rw [eB]; rfl
  have k0 : Kp [s] h hB := by rw [eB]; exact Up.push.kp.trans (Kp.set (by show s < h.n + 1; omega) (by simp))
  have gi : hB.get s = some (.ins C [(fR, .ref h.n)]) := by rw [eB]; exact set_get hs1
  have gr : hB.get h.n = some (.dic []) := by rw [eB, set_ne hs1 (by omega)]; exact get_top
  have s2 : gFor (gEnumA (gVar 1)) (tgTup [2, 3]) (initBody C) [some (.ref s), some (.ktp []), none, none] hB = .nx [some (.ref s), some (.ktp []), none, none] hB := rfl
  have g1 : (hB.push (.dic [])).get s = some (.ins C [(fR, .ref h.n)]) := Up.push.at gi
  have s3 := XM.fldS_ok (C := C) (f := fB) (v := gDic) (m := [some (.ref s), some (.ktp []), none, none]) (h := hB) rfl rfl g1 (by simp)
  have e3 : mput fB (.ref hB.n) [(fR, MV.ref h.n)] = [(fR, MV.ref h.n), (fB, .ref hB.n)] := rfl
  rw [e3] at s3
  have g2 := set_get (o := .ins C [(fR, MV.ref h.n), (fB, .ref hB.n)]) g1
  have s4 := XM.fldS_ok (C := C) (f := fK) (v := gC .non) (m := [some (.ref s), some (.ktp []), none, none]) rfl rfl g2 (by simp)
  have e4 : mput fK .non [(fR, MV.ref h.n), (fB, .ref hB.n)] = [(fR, MV.ref h.n), (fB, .ref hB.n), (fK, .non)] := rfl
  rw [e4] at s4
  have g3 := set_get (o := .ins C [(fR, MV.ref h.n), (fB, .ref hB.n), (fK, .non)]) g2
  have s5 := XM.fldS_ok (C := C) (f := fM) (v := gC (.int 0)) (m := [some (.ref s), some (.ktp []), none, none]) rfl rfl g3 (by simp)
  have e5 : mput fM (.int 0) [(fR, MV.ref h.n), (fB, .ref hB.n), (fK, .non)] = [(fR, MV.ref h.n), (fB, .ref hB.n), (fK, .non), (fM, .int 0)] := rfl
  rw [e5] at s5
  have g4 := set_get (o := .ins C [(fR, MV.ref h.n), (fB, .ref hB.n), (fK, .non), (fM, .int 0)]) g3
  have s6 := XM.fldS_ok (C := C) (f := fP) (v := gC (.int 0)) (m := [some (.ref s), some (.ktp []), none, none]) rfl rfl g4 (by simp)
  have e6 : mput fP (.int 0) [(fR, MV.ref h.n), (fB, .ref hB.n), (fK, .non), (fM, .int 0)] = XK.flds h.n hB.n (kv none, 0) 0 := rfl
  rw [e6] at s6
  have g5 := set_get (o := .ins C (XK.flds h.n hB.n (kv none, 0) 0)) g4
  obtain ⟨hZ, eZ⟩ : ∃ hZ, hZ = ((((((hB.push (.dic [])).set s (.ins C [(fR, MV.ref h.n), (fB, .ref hB.n)])).set s (.ins C [(fR, MV.ref h.n), (fB, .ref hB.n), (fK, .non)])).set s (.ins C [(fR, MV.ref h.n), (fB, .ref hB.n), (fK, .non), (fM, .int 0)])).set s (.ins C (XK.flds h.n hB.n (kv none, 0) 0)))) := ⟨_, rfl⟩
  have other : ∀ j, j ≠ s → hZ.get j = (hB.push (.dic [])).get j := fun j hj => by
    rw [eZ, set_ne g4 hj, set_ne g3 hj, set_ne g2 hj, set_ne g1 hj]
  rw [← eZ] at s6 g5
  have nZ : hZ.n = hB.n + 1 := by rw [eZ]; rfl
  refine ⟨hZ, h.n, hB.n, body_nx (m := [some (.ref s), some (.ktp []), none, none]) ((seq_nx s1).trans ((seq_nx s2).trans ((seq_nx s3).trans ((seq_nx s4).trans ((seq_nx s5).trans s6))))), ⟨⟨⟨0, g5⟩, ?_, ⟨by simp, ?_⟩, fun p hp => (by cases hp), ?_, List.nodup_nil, by simp⟩, fun kf KB ek => by cases ek⟩, ⟨by omega, fun j hj hf => ?_⟩, Nat.le_refl _, by omega⟩
  · rw [other _ (by omega)]; exact Up.push.at gr
  · rw [other _ (by omega)]; exact get_top
  · simp; omega
  · rw [other j (by simpa using hf), MH.get_push, if_neg (by omega)]
    exact k0.get j hj hf
theorem heap_new {H : Nat} {h : MH} {hp s : Nat} {D : Obs} {p : Int} (g : h.get hp = some (.ins H [])) :
    ∃ h' F w, mHInit H [.ref hp, .ref s] h = .ok .non h' ∧ HW H h' hp s w [] D p F ∧ Kp [hp] h h' ∧ ∀ j ∈ F, j = hp ∨ h.n ≤ j := by
  have hl := MH.get_lt g
  have s1 := XM.fldS_ok (C := H) (f := fMem) (v := gVar 1) (m := [some (.ref hp), some (.ref s)]) (h := h) (h1 := h) (y := .ref s) rfl rfl g (by decide)
  have e1 : mput fMem (.ref s) [] = [(fMem, MV.ref s)] := rfl
  rw [e1] at s1
  obtain ⟨hA, eA⟩ : ∃ hA, hA = h.set hp (.ins H [(fMem, .ref s)]) := ⟨_, rfl⟩
  rw [← eA] at s1
  have nA : hA.n = h.n := by rw [eA]; rfl
  have kA : Kp [hp] h hA := by rw [eA]; exact Kp.set hl (by simp)
  have gA : hA.get hp = some (.ins H [(fMem, .ref s)]) := by rw [eA]; exact set_get g
  have p2 : (hA.push (.dic [])).get hp = some (.ins H [(fMem, .ref s)]) := Up.push.at gA
  have s2 := XM.fldS_ok (C := H) (f := fCells) (v := gDic) (m := [some (.ref hp), some (.ref s)]) (h := hA) (h1 := hA.push (.dic [])) (y := .ref hA.n) rfl rfl p2 (by simp)
  have e2 : mput fCells (.ref hA.n) [(fMem, MV.ref s)] = [(fMem, MV.ref s), (fCells, .ref hA.n)] := rfl
  rw [e2] at s2
  obtain ⟨hB, eB⟩ : ∃ hB, hB = (hA.push (.dic [])).set hp (.ins H [(fMem, .ref s), (fCells, .ref hA.n)]) := ⟨_, rfl⟩
  rw [← eB] at s2
  have nB : hB.n = h.n + 1 := by rw [eB]; show hA.n + 1 = _; omega
  have kB : Kp [hp] hA hB := by rw [eB]; exact Up.push.kp.trans (Kp.set (by show hp < hA.n + 1; omega) (by simp))
  have gB : hB.get hp = some (.ins H [(fMem, .ref s), (fCells, .ref hA.n)]) := by rw [eB]; exact set_get p2
  have gBd : hB.get hA.n = some (.dic []) := by rw [eB, set_ne p2 (by omega)]; exact get_top
  have p3 : (hB.push (.dic [])).get hp = some (.ins H [(fMem, .ref s), (fCells, .ref hA.n)]) := Up.push.at gB
  have s3 := XM.fldS_ok (C := H) (f := fSizes) (v := gDic) (m := [some (.ref hp), some (.ref s)]) (h := hB) (h1 := hB.push (.dic [])) (y := .ref hB.n) rfl rfl p3 (by simp)
  have e3 : mput fSizes (.ref hB.n) [(fMem, MV.ref s), (fCells, .ref hA.n)] = [(fMem, MV.ref s), (fCells, .ref hA.n), (fSizes, .ref hB.n)] := rfl
  rw [e3] at s3
  obtain ⟨hC, eC⟩ : ∃ hC, hC = (hB.push (.dic [])).set hp (.ins H [(fMem, .ref s), (fCells, .ref hA.n), (fSizes, .ref hB.n)]) := ⟨_, rfl⟩
  rw [← eC] at s3
  have nC : hC.n = h.n + 2 := by rw [eC]; show hB.n + 1 = _; omega
  have kC : Kp [hp] hB hC := by rw [eC]; exact Up.push.kp.trans (Kp.set (by show hp < hB.n + 1; omega) (by simp))
  have gC : hC.get hp = some (.ins H [(fMem, .ref s), (fCells, .ref hA.n), (fSizes, .ref hB.n)]) := by rw [eC]; exact set_get p3
  have gCd : hC.get hB.n = some (.dic []) := by rw [eC, set_ne p3 (by omega)]; exact get_top
  have s4 := XM.fldS_ok (C := H) (f := fP) (v := MI.gC .non) (m := [some (.ref hp), some (.ref s)]) (h := hC) (h1 := hC) (y := .non) rfl rfl gC (by simp)
  have e4 : mput fP .non [(fMem, MV.ref s), (fCells, .ref hA.n), (fSizes, .ref hB.n)] = [(fMem, MV.ref s), (fCells, .ref hA.n), (fSizes, .ref hB.n), (fP, .non)] := rfl
  rw [e4] at s4
  obtain ⟨hD, eD⟩ : ∃ hD, hD = hC.set hp (.ins H [(fMem, .ref s), (fCells, .ref hA.n), (fSizes, .ref hB.n), (fP, .non)]) := ⟨_, rfl⟩
  rw [← eD] at s4
  have nD : hD.n = h.n + 2 := by rw [eD]; show hC.n = _; omega
  have kD : Kp [hp] hC hD := by rw [eD]; exact Kp.set (MH.get_lt gC) (by simp)
  have gD : hD.get hp = some (.ins H [(fMem, .ref s), (fCells, .ref hA.n), (fSizes, .ref hB.n), (fP, .non)]) := by rw [eD]; exact set_get gC
  have p5 : (hD.push (.lst [])).get hp = some (.ins H [(fMem, .ref s), (fCells, .ref hA.n), (fSizes, .ref hB.n), (fP, .non)]) := Up.push.at gD
  have s5 := XM.fldS_ok (C := H) (f := fWat) (v := gLst (gNil)) (m := [some (.ref hp), some (.ref s)]) (h := hD) (h1 := hD.push (.lst [])) (y := .ref hD.n) rfl rfl p5 (by simp)
  have e5 : mput fWat (.ref hD.n) [(fMem, MV.ref s), (fCells, .ref hA.n), (fSizes, .ref hB.n), (fP, .non)] = hf s hA.n hB.n .non hD.n := rfl
  rw [e5] at s5
  obtain ⟨hE, eE⟩ : ∃ hE, hE = (hD.push (.lst [])).set hp (.ins H (hf s hA.n hB.n .non hD.n)) := ⟨_, rfl⟩
  rw [← eE] at s5
  have nE : hE.n = h.n + 3 := by rw [eE]; show hD.n + 1 = _; omega
  have kE : Kp [hp] hD hE := by rw [eE]; exact Up.push.kp.trans (Kp.set (by show hp < hD.n + 1; omega) (by simp))
  have gE : hE.get hp = some (.ins H (hf s hA.n hB.n .non hD.n)) := by rw [eE]; exact set_get p5
  have gEd : hE.get hD.n = some (.lst []) := by rw [eE, set_ne p5 (by omega)]; exact get_top
  have kk : Kp [hp] h hE := (((kA.trans kB).trans kC).trans kD).trans kE
  have q1 : hE.get hA.n = some (.dic []) := ((kC.trans kD).trans kE).at gBd (by simp; omega)
  have q2 : hE.get hB.n = some (.dic []) := (kD.trans kE).at gCd (by simp; omega)
  refine ⟨hE, _, hD.n, body_nx (m := [some (.ref hp), some (.ref s)]) ((seq_nx s1).trans ((seq_nx s2).trans ((seq_nx s3).trans ((seq_nx s4).trans s5)))), ⟨hA.n, hB.n, .non, [], ⟨gE, q1, q2, gEd, by omega, ⟨List.nodup_nil, fun o ho => (by cases ho)⟩⟩, rfl, .inl rfl⟩, kk, fun j hj => ?_⟩
  simp only [List.mem_cons, List.not_mem_nil, or_false] at hj
  rcases hj with z | z | z | z
  · exact .inl z
  · exact .inr (by omega)
  · exact .inr (by omega)
  · exact .inr (by omega)
theorem MW.new {C : Nat} {h : MH} {s r b : Nat} (M : MemK C h s r b [] 100 [] none 0) : ∃ p, MW C h s [] 100 p (fp s r b []) := by
  obtain ⟨p, i⟩ := M.w.ins
  exact ⟨p, r, b, [], [], ⟨M, i, fun p hp => by cases hp⟩, fun x => rfl, .nil, rfl⟩
theorem eq_nil {h : MH} {p q : Nat} {xs : List MV} (g1 : h.get p = some (.lst xs)) (g2 : h.get q = some (.lst [])) (a : ∀ x ∈ xs, atB x = true) : mEqX (.ref p) (.ref q) h = .ok (.bl xs.isEmpty) h := by
  have e1 : toD h 61 (.ref p) = some (.list (xs.map aD)) := toD_lst (n := 60) (g := aD) g1 fun x hx => toD_at (a x hx)
  have e2 : toD h 61 (.ref q) = some (.list []) := toD_lst (n := 60) (g := aD) g2 fun x hx => by cases hx
  have ok : ∀ ys : List MV, (∀ x ∈ ys, atB x = true) → okD (.list (ys.map aD)) = true := fun ys a => by
    unfold okD SeqAt.shaped
    have h1 : (PyData.list (ys.map aD)).canLay0 = true := lay_all a
    have h2 : (PyData.list (ys.map aD)).depth = 1 := by simp only [PyData.depth, dep_all]
    rw [h1, h2]; rfl
  unfold mEqX
  rw [if_pos (show isRow (MV.ref p) = true from rfl)]
  unfold mEqB
  rw [e1, e2]
  dsimp only
  rw [if_pos ⟨ok xs a, ok [] (fun x hx => by cases hx)⟩]
  cases xs with
  | nil => rfl
  | cons x xs => rfl
end HC
set_option Elab.async false
set_option linter.all false
set_option maxRecDepth 100000
set_option maxHeartbeats 400000
namespace HC
open MI XG XM XK DK PySem
open L2 (atI ixN)
section
variable {H C eO eP : Nat} {bP bF : MS} {h h' : MH} {hp s w L : Nat} {W : List MV} {p p' : Int} {D D' : Obs} {F G F' G' : List Nat} {T : Int}
theorem look_q (X : HQ H C h hp s w W D L p F G) : mLook H C [.ref hp] h = .ok .non h := by
  obtain ⟨⟨r, b, R, B, M, v, sp, rfl⟩, ⟨dc, ds, O, S, rfl, y⟩, dj⟩ := X
  exact look_same S M
theorem HQ.looks (X : HQ H C h hp s w W D L p F G) {m : ML} (m0 : m[0]? = some (some (.ref hp))) : gExpr (gMeth H nLook (mLook H C) [] 1 (gVar 0) gNil) m h = .nx m h := by
  obtain ⟨fs0, ih0, lk0⟩ := X.ih
  exact expr_nx ((meth0 (c := H) (f := nLook) (g := mLook H C) (o := gVar 0) (n := 1) (var_at m0) ih0 (lk0 nLook (by decide)) rfl).trans (look_q X))
theorem cell_q (X : HQ H C h hp s w W D L p F G) {o : Obj3} (ho : o ∈ D) : mCell H C eO [.ref hp, .str (wd o.1)] h = .ok (.int o.1) h := by
  have s1 := X.looks (m := [some (.ref hp), some (.str (wd o.1))]) rfl
  obtain ⟨M1, ⟨dc, ds, O, S1, rfl, pm⟩, dj⟩ := X
  have ho' := pm.mem_iff.mpr (szs_mem ho)
  have hz := find_wd S1.fo ho'
  have f : gFld [H] fCells (gVar 0) [some (.ref hp), some (.str (wd o.1))] h = .ok (.ref dc) h := fld_at rfl S1.ih rfl
  have v1 : gVar 1 [some (.ref hp), some (.str (wd o.1))] h = .ok (.str (wd o.1)) h := rfl
  have dd : isD h (.ref dc) = true := by simp [isD, S1.gc]
  refine body_rt (v := .int o.1) ((seq_nx s1).trans ((seq_nx (m' := [some (.ref hp), some (.str (wd o.1))]) (h' := h) ((ifS_f (h1 := h) ?_).trans rfl)).trans ?_))
  · simp only [MI.gB, gBin, v1, Out.bind, f, mIn, dd, if_pos, mInD, dGet, S1.gc, mkey, Option.map_some, find_c, hz]
    rfl
  · have := S1.cell_at ho'
    unfold gRet
    simp only [gBin, f, Out.bind, v1, this]
    rfl
theorem atoms_q (X : HQ H C h hp s w W D L p F G) (bd : Bd D T) {o : Obj3} (ho : o ∈ D) : ∃ h', mAtoms H C eO [.ref hp, .str (wd o.1)] h = .ok (.tup o.2.2) h' ∧ Up h h' := by
  obtain ⟨fs0, ih0, lk0⟩ := X.ih
  obtain ⟨h3, e3, a3⟩ := atoms_core X bd ho
  exact ⟨h3, body_rt (v := .tup o.2.2) ((seq_nx (asg_nx ((meth1 (x := .str (wd o.1)) (h1 := h) (h2 := h) rfl ih0 (lk0 nCell (by decide)) rfl rfl).trans (cell_q X ho)))).trans e3), a3⟩
end
theorem comp_ix {gi : MI1} {it : It1} {ws ys : List MV} {m : ML} {h h1 : MH} {sl : Nat} {e : ME} (ev : gi m h = .ok it h1) (hsz : it.size h1 = ws.length) (hw : ws.length < 1000) (ly : ys.length = ws.length) (hat : ∀ h', Up h1 h' → ∀ j : Nat, it.at_ j h' = some ws[j]?)
    (he : ∀ (j : Nat) x y, ws[j]? = some x → ys[j]? = some y → ∀ h', Up h1 h' → ∃ h2, e ((m.set sl none).set sl (some x)) h' = .ok y h2 ∧ Up h' h2) :
    ∃ h', gLc gi (.one sl) gYes e [sl] m h = .ok (.ref h1.n) h' ∧ h'.get h1.n = some (.lst ys) ∧ Up h1 h' := by
  obtain ⟨acc, h2, e1, ⟨u1, rfl⟩, g1⟩ := lc_loop (it := it) (c := .one sl) (t := gYes) (e := e) (D := h1.n) (mw := m.set sl none) (N := ws.length) (by omega)
    (fun j acc h' => Up h1 h' ∧ acc = ys.take j) (fun acc h' p => by rw [hat h' p.1, List.getElem?_eq_none (Nat.le_refl _)]) (fun j acc h' hj p g => by
      obtain ⟨u, rfl⟩ := p
      have hx : ws[j]? = some ws[j] := List.getElem?_eq_getElem hj
      have hy : ys[j]? = some ys[j] := List.getElem?_eq_getElem (by omega)
      obtain ⟨h2, a1, a2⟩ := he j _ _ hx hy h' u
      have g2 := a2.at g
      refine ⟨ws[j], (m.set sl none).set sl (some ws[j]), h', true, h', by rw [hat h' u, hx], rfl, rfl, (fun z => nomatch z), fun _ => ⟨ys[j], h2, a1, g2, (u.trans a2).set (Nat.le_refl _) g2, ?_⟩⟩
      rw [List.take_succ, hy]; rfl)
    (ws.length + 1) 0 [] (h1.push (.lst [])) (by omega) (Nat.zero_le _) (by simp) ⟨Up.push, rfl⟩ get_top
  rw [List.take_of_length_le (by omega)] at g1
  refine ⟨h2, ?_, g1, u1⟩
  unfold gLc
  rw [ev]
  simp only [Out.bind]
  rw [hsz]
  exact e1
theorem cb1 {g : MV → MH → Out MV} {a : ME} {m : ML} {h h1 : MH} {x : MV} (ea : a m h = .ok x h1) : gCB (f1 g) (gCons a gNil) m h = g x h1 := by
  simp [gCB, gCons, gNil, ea, Out.bind, f1]
end HC
set_option Elab.async false
set_option linter.all false
set_option maxRecDepth 100000
set_option maxHeartbeats 400000
namespace HC
open MI XG XM XK DK PySem
open L2 (atI ixN)
section
variable {H C : Nat} {h h' : MH} {hp s w L : Nat} {W : List MV} {p : Int} {D : Obs} {F G : List Nat} {T : Int}
theorem refs_q (X : HQ H C h hp s w W D L p F G) (bd : Bd D T) :
    ∃ h' q, mRefs H C [.ref hp] h = .ok (.ref q) h' ∧ h'.get q = some (.lst ((byC D).map fun o => .str (wd o.1))) ∧ h.n ≤ q ∧ Up h h' := by
  have sp := X.mw.sep
  have s1 := X.looks (m := [some (.ref hp), none]) rfl
  obtain ⟨M1, ⟨dc, ds, O, S1, rfl, pm⟩, dj⟩ := X
  obtain ⟨Z, eZ⟩ : ∃ Z, Z = (byC D).map fun o => MV.int o.1 := ⟨_, rfl⟩
  have so := S1.sorted_at (by rw [pm.length_eq, szs_len]; exact bd.n)
  rw [isort_byC sp pm] at so
  have eZ' : ((szs (byC D)).map (·.1)).map MV.int = Z := by rw [eZ]; unfold szs; rw [List.map_map, List.map_map]; rfl
  rw [eZ'] at so
  have lZ : Z.length < 60 := by rw [eZ, List.length_map, (byC_perm D).length_eq]; exact bd.n
  have g2 : (h.push (.lst Z)).get h.n = some (.lst Z) := get_top
  obtain ⟨it, i1, i2, i3⟩ := XM.iter_it (.ref g2)
  have so' : gCB (f1 mSortedA) (gCons (gFld [H] fSizes (gVar 0)) (gNil)) [some (.ref hp), none] h = .ok (.ref h.n) (h.push (.lst Z)) := by
    have f := fld_at (C := H) (f := fSizes) (m := [some (.ref hp), none]) (y := .ref ds) rfl S1.ih rfl
    simp only [gCB, f1, gCons, gNil, f, Out.bind, so]
  have it0 : gIter (gCB (f1 mSortedA) (gCons (gFld [H] fSizes (gVar 0)) (gNil))) [some (.ref hp), none] h = .ok it (h.push (.lst Z)) := by
    have := i1 [some (.ref hp), none] (fun _ h' => .ok (.ref h.n) h') rfl
    unfold gIter at this ⊢
    rw [so']
    simpa only [Out.bind] using this
  obtain ⟨h3, a1, a2, a3⟩ := comp_up (gi := fun _ h => .ok it h) (it := it) (ws := Z) (m := [some (.ref hp), none]) (h := h.push (.lst Z)) (sl := 1) (e := gFs [gC (.str [64]), gUn mFmt (gVar 1)] []) (F := fun x => match x with
    | .int c => .str (wd c)
    | _ => .non) rfl i2 (by omega) (fun h' u j => i3 h' (.ref (u.at g2)) j) (fun x hx h' u => by
      rw [eZ] at hx
      obtain ⟨o, ho, rfl⟩ := List.mem_map.mp hx
      have hoD := (byC_perm D).mem_iff.mp ho
      exact ⟨h', wd_ok (j := 1) (sp.ok o hoD).1 (bd.big o hoD) rfl, .refl⟩)
  have u3 : Up h h3 := Up.push.trans a3
  rw [eZ, List.map_map] at a2
  refine ⟨h3, (h.push (.lst Z)).n, body_rt (v := .ref (h.push (.lst Z)).n) ((seq_nx s1).trans ?_), a2, by show h.n ≤ h.n + 1; omega, u3⟩
  show gRet _ [some (.ref hp), none] h = _
  unfold gRet
  have ev : gLc (gIter (gCB (f1 mSortedA) (gCons (gFld [H] fSizes (gVar 0)) (gNil)))) (.one 1) (gYes) (gFs [gC (.str [64]), gUn mFmt (gVar 1)] []) [1] [some (.ref hp), none] h = .ok (.ref (h.push (.lst Z)).n) h3 := by
    unfold gLc at a1 ⊢
    rw [it0]
    exact a1
  rw [ev]; rfl
end
end HC
set_option Elab.async false
set_option linter.all false
set_option maxRecDepth 100000
set_option maxHeartbeats 400000
namespace K36
open MI XG XM XK DK HC PySem
open L2 (atI ixN)
theorem and_t {a b : MT} {m : ML} {h h1 : MH} (e : a m h = .ok true h1) : gAnd a b m h = b m h1 := by
  unfold gAnd
  rw [e]; rfl
theorem and_f {a b : MT} {m : ML} {h h1 : MH} (e : a m h = .ok false h1) : gAnd a b m h = .ok false h1 := by
  unfold gAnd
  rw [e]; rfl
def Wd (c : Int) : MV := .str (wd c)
def dW (ks : List Int) (f : Int → MV) : List (MK × MV) := ks.map fun c => (.inr (wd c), f c)
def cel (ks : List Int) : MV → Option Int
  | .str s => ks.find? fun c => leq (wd c) s
  | _ => none
theorem cel_some {ks : List Int} {a : MV} {c : Int} (e : cel ks a = some c) : c ∈ ks ∧ a = Wd c := by
  cases a with
  | str s =>
    have e' : ks.find? (fun c => leq (wd c) s) = some c := e
    refine ⟨List.mem_of_find?_eq_some e', ?_⟩
    have := List.find?_some e'
    unfold Wd
    rw [MI.leq_iff.mp this]
  | _ => cases e
theorem cel_wd {ks : List Int} (nn : ∀ c ∈ ks, 0 ≤ c) {c : Int} (h0 : 0 ≤ c) : cel ks (Wd c) = if c ∈ ks then some c else none := by
  show ks.find? (fun d => leq (wd d) (wd c)) = _
  induction ks with
  | nil => rfl
  | cons d ks ih =>
    rw [List.find?_cons, wk (nn d (by simp)) h0]
    by_cases z : d = c
    · rw [decide_eq_true z]
      simp [z]
    · rw [decide_eq_false z]
      show List.find? _ ks = _
      rw [ih fun x hx => nn x (List.mem_cons_of_mem _ hx)]
      have z' : ¬ c = d := fun q => z q.symm
      simp [z']
theorem dW_val {f : Int → MV} {s : List Nat} : ∀ ks : List Int, dval keq (dW ks f) (.inr s) = (cel ks (.str s)).map f
  | [] => rfl
  | c :: ks => by
    show (if leq (wd c) s = true then some (f c) else dval keq (dW ks f) (.inr s)) = (List.find? (fun c => leq (wd c) s) (c :: ks)).map f
    rw [List.find?_cons, dW_val ks]
    cases leq (wd c) s <;> rfl
theorem dW_int {f : Int → MV} {i : Int} : ∀ ks : List Int, dval keq (dW ks f) (.inl i) = none
  | [] => rfl
  | c :: ks => by
    show (if false = true then some (f c) else dval keq (dW ks f) (.inl i)) = none
    rw [if_neg (by decide), dW_int ks]
theorem dW_has {ks : List Int} {f : Int → MV} (nn : ∀ c ∈ ks, 0 ≤ c) {c : Int} (h0 : 0 ≤ c) (n : c ∉ ks) : dhas keq (dW ks f) (.inr (wd c)) = false := by
  induction ks with
  | nil => rfl
  | cons d ks ih =>
    show (if leq (wd d) (wd c) = true then true else dhas keq (dW ks f) (.inr (wd c))) = false
    have z : ¬ d = c := fun q => n (by simp [q])
    rw [wk (nn d (by simp)) h0, decide_eq_false z, if_neg (by decide)]
    exact ih (fun x hx => nn x (List.mem_cons_of_mem _ hx)) fun q => n (List.mem_cons_of_mem _ q)
section
variable {h h' : MH} {q : Nat} {K : List Int} {f : Int → MV}
theorem dic_isD (g : h.get q = some (.dic (dW K f))) : isD h (.ref q) = true := by simp [isD, g]
theorem inN {k : Bool → Bool} {a : MV} (g : h.get q = some (.dic (dW K f))) (ha : atB a = true) : mInN k a (.ref q) h = .ok (.bl (k (cel K a).isSome)) h := by
  unfold mInN
  cases a with
  | non =>
    rw [if_pos (by simp [mIsN, isDic, g])]
    rfl
  | int i =>
    rw [if_neg (by simp [mIsN])]
    unfold mIn
    rw [dic_isD g, if_pos rfl]
    simp only [mInD, dGet, g, mkey, Option.map, dW_int]
    rfl
  | str s =>
    rw [if_neg (by simp [mIsN])]
    unfold mIn
    rw [dic_isD g, if_pos rfl]
    simp only [mInD, dGet, g, mkey, Option.map, dW_val]
    cases cel K (.str s) <;> rfl
  | _ => cases ha
theorem inS {k : Bool → Bool} {c : Int} (g : h.get q = some (.dic (dW K f))) (nn : ∀ c ∈ K, 0 ≤ c) (h0 : 0 ≤ c) : mIn k (Wd c) (.ref q) h = .ok (.bl (k (decide (c ∈ K)))) h := by
  unfold mIn
  rw [dic_isD g, if_pos rfl]
  have e := cel_wd nn h0
  simp only [mInD, Wd, dGet, g, mkey, Option.map, dW_val]
  have e' : cel K (.str (wd c)) = if c ∈ K then some c else none := e
  rw [e']
  by_cases z : c ∈ K
  · rw [if_pos z, decide_eq_true z]; rfl
  · rw [if_neg z, decide_eq_false z]; rfl
theorem ixD {c : Int} (g : h.get q = some (.dic (dW K f))) (nn : ∀ c ∈ K, 0 ≤ c) (hc : c ∈ K) : mIx (.ref q) (Wd c) h = .ok (f c) h := by
  unfold mIx
  rw [dic_isD g, if_pos rfl]
  have e : cel K (.str (wd c)) = if c ∈ K then some c else none := cel_wd nn (nn c hc)
  simp only [mIxD, Wd, dGet, g, mkey, Option.map, dW_val]
  rw [e, if_pos hc]
  rfl
theorem putD_new {c : Int} {v : MV} {ed ek ev : ME} {m : ML} {h1 : MH} (nn : ∀ c ∈ K, 0 ≤ c) (h0 : 0 ≤ c) (n : c ∉ K) (l : K.length < 1000) (evv : ev m h = .ok v h1) (edd : ed m h1 = .ok (.ref q) h1) (ekk : ek m h1 = .ok (Wd c) h1) (g : h1.get q = some (.dic (dW K f))) :
    gAsg ev (tgSub ed ek) m h = .nx m (h1.set q (.dic (dW K f ++ [(.inr (wd c), v)]))) := by
  unfold gAsg
  rw [evv]
  simp only [Out.bindS, tgSub, edd, ekk, putM, dic_isD g, if_pos, dPutM, Wd, g, mkey]
  rw [if_pos (by simp [dW]; omega)]
  simp only [dput, dW_has nn h0 n, Bool.false_eq_true, if_false]
  rfl
end
abbrev fHeap : Nat := 2166395963416947258902446175
abbrev fKn : Nat := 4462132414599151834302220144214111
abbrev fMk : Nat := 8507063270072271206276435907098246643807
abbrev fRs : Nat := 2243767381892980189490577503
def T1 : Int → MV := fun _ => .bl true
structure Mk (h : MH) (mp hp qk qm qr : Nat) (ks M R : List Int) : Prop where
  ins : h.get mp = some (.ins 0 [(fHeap, .ref hp), (fKn, .ref qk), (fMk, .ref qm), (fRs, .ref qr)])
  kn : h.get qk = some (.dic (dW ks T1))
  mkd : h.get qm = some (.dic (dW M T1))
  rs : h.get qr = some (.lst (R.map Wd))
  km : qk ≠ qm
  nn : ∀ c ∈ ks, 0 ≤ c
  sub : ∀ c ∈ M, c ∈ ks
  lM : M.length ≤ 60
  lR : R.length ≤ 1000
def mk1 (s : List Int × List Int) (c : Int) : List Int × List Int := if c ∈ s.1 then s else (s.1 ++ [c], s.2 ++ [c])
def mkA (ks : List Int) (s : List Int × List Int) (a : MV) : List Int × List Int := match cel ks a with
  | some c => mk1 s c
  | none => s
section
variable {h h' : MH} {mp hp qk qm qr : Nat} {ks M R : List Int}
theorem Mk.kp {F : List Nat} (X : Mk h mp hp qk qm qr ks M R) (k : Kp F h h') (d : ∀ j ∈ [mp, qk, qm, qr], j ∉ F) : Mk h' mp hp qk qm qr ks M R :=
  ⟨k.at X.ins (d mp (by simp)), k.at X.kn (d qk (by simp)), k.at X.mkd (d qm (by simp)), k.at X.rs (d qr (by simp)), X.km, X.nn, X.sub, X.lM, X.lR⟩
theorem Mk.up (X : Mk h mp hp qk qm qr ks M R) (u : Up h h') : Mk h' mp hp qk qm qr ks M R := X.kp (F := []) u.kp (by simp)
theorem Mk.ne (X : Mk h mp hp qk qm qr ks M R) : mp ≠ qk ∧ mp ≠ qm ∧ mp ≠ qr ∧ qk ≠ qr ∧ qm ≠ qr := by
  refine ⟨fun z => ?_, fun z => ?_, fun z => ?_, fun z => ?_, fun z => ?_⟩
  · have := X.ins; rw [z, X.kn] at this; cases this
  · have := X.ins; rw [z, X.mkd] at this; cases this
  · have := X.ins; rw [z, X.rs] at this; cases this
  · have := X.kn; rw [z, X.rs] at this; cases this
  · have := X.mkd; rw [z, X.rs] at this; cases this
theorem t_K0 : m_Marks_mark = gBody 2 (gIfS (gAnd (gB (gBin (mInN fun b => b) (gVar 1) (gFld [0] fKn (gVar 0)))) (gB (gBin (mInN fun b => !b) (gVar 1) (gFld [0] fMk (gVar 0))))) (gSeq (gAsg (gC (.bl true)) (tgSub (gFld [0] fMk (gVar 0)) (gVar 1))) (gExpr (gBM "list" lApp (gFld [0] fRs (gVar 0)) (gCons (gVar 1) (gNil))))) (gNext)) := rfl
theorem mark_ok {a : MV} (X : Mk h mp hp qk qm qr ks M R) (ha : atB a = true) (lk : ks.length < 60) (lM : M.length < 59) (lR : R.length < 999) :
    ∃ h', m_Marks_mark [.ref mp, a] h = .ok .non h' ∧ Mk h' mp hp qk qm qr ks (mkA ks (M, R) a).1 (mkA ks (M, R) a).2 ∧ Kp [qm, qr] h h' := by
  have fk : gFld [0] fKn (gVar 0) [some (.ref mp), some a] h = .ok (.ref qk) h := fld_at rfl X.ins rfl
  have fm : gFld [0] fMk (gVar 0) [some (.ref mp), some a] h = .ok (.ref qm) h := fld_at rfl X.ins rfl
  have v1 : ∀ h, gVar 1 [some (.ref mp), some a] h = .ok a h := fun _ => rfl
  have c1 : gB (gBin (mInN fun b => b) (gVar 1) (gFld [0] fKn (gVar 0))) [some (.ref mp), some a] h = .ok (cel ks a).isSome h := by
    simp only [gB, gBin, v1, fk, Out.bind, inN X.kn ha]
  have c2 : gB (gBin (mInN fun b => !b) (gVar 1) (gFld [0] fMk (gVar 0))) [some (.ref mp), some a] h = .ok (!(cel M a).isSome) h := by
    simp only [gB, gBin, v1, fm, Out.bind, inN X.mkd ha]
  obtain ⟨n1, n2, n3, n4, n5⟩ := X.ne
  rw [t_K0]
  unfold mkA
  cases e : cel ks a with
  | none =>
    rw [e] at c1
    exact ⟨h, body_nx ((ifS_f (h1 := h) (and_f c1)).trans rfl), X, .refl⟩
  | some c =>
    obtain ⟨hc, rfl⟩ := cel_some e
    rw [e] at c1
    have h0 := X.nn c hc
    have nM : ∀ c ∈ M, 0 ≤ c := fun x hx => X.nn x (X.sub x hx)
    rw [cel_wd nM h0] at c2
    show ∃ h', gBody 2 _ [.ref mp, Wd c] h = .ok .non h' ∧ Mk h' mp hp qk qm qr ks (mk1 (M, R) c).1 (mk1 (M, R) c).2 ∧ Kp [qm, qr] h h'
    unfold mk1
    by_cases z : c ∈ M
    · rw [if_pos z] at c2
      rw [if_pos z]
      exact ⟨h, body_nx ((ifS_f (h1 := h) ((and_t c1).trans c2)).trans rfl), X, .refl⟩
    · rw [if_neg z] at c2
      rw [if_neg z]
      have s1 : gAsg (gC (.bl true)) (tgSub (gFld [0] fMk (gVar 0)) (gVar 1)) [some (.ref mp), some (Wd c)] h = .nx [some (.ref mp), some (Wd c)] (h.set qm (.dic (dW M T1 ++ [(.inr (wd c), .bl true)]))) :=
        putD_new nM h0 z (by omega) rfl fm rfl X.mkd
      have dw : dW M T1 ++ [(.inr (wd c), .bl true)] = dW (M ++ [c]) T1 := by simp [dW, T1]
      rw [dw] at s1
      obtain ⟨h1, eh1⟩ : ∃ h1, h1 = h.set qm (.dic (dW (M ++ [c]) T1)) := ⟨_, rfl⟩
      rw [← eh1] at s1
      have k1 : Kp [qm] h h1 := by rw [eh1]; exact Kp.set (MH.get_lt X.mkd) (by simp)
      have g1 : h1.get qm = some (.dic (dW (M ++ [c]) T1)) := by rw [eh1]; exact set_get X.mkd
      have r1 := k1.at X.rs (by simp; exact Ne.symm n5)
      have i1 := k1.at X.ins (by simp; exact n2)
      have s2 : gExpr (gBM "list" lApp (gFld [0] fRs (gVar 0)) (gCons (gVar 1) (gNil))) [some (.ref mp), some (Wd c)] h1 = .nx [some (.ref mp), some (Wd c)] (h1.set qr (.lst ((R ++ [c]).map Wd))) := by
        have fr : gFld [0] fRs (gVar 0) [some (.ref mp), some (Wd c)] h1 = .ok (.ref qr) h1 := fld_at rfl i1 rfl
        have ty : isTy h1 "list" (.ref qr) = true := by simp [isTy, r1]
        have v1' : gVar 1 [some (.ref mp), some (Wd c)] h1 = .ok (Wd c) h1 := rfl
        refine expr_nx (v := .non) ?_
        have ll : (R.map Wd).length < 1000000 := by simp; omega
        simp only [gBM, fr, Out.bind, ty, if_pos, gCons, gNil, v1', lApp, r1, ll, List.map_append, List.map_cons, List.map_nil]
      have k2 : Kp [qr] h1 (h1.set qr (.lst ((R ++ [c]).map Wd))) := Kp.set (MH.get_lt r1) (by simp)
      refine ⟨_, body_nx ((ifS_t (h1 := h) ((and_t c1).trans c2)).trans ((seq_nx s1).trans s2)), ⟨k2.at i1 (by simp; exact n3), k2.at (k1.at X.kn (by simp; exact X.km)) (by simp; exact n4), k2.at g1 (by simp; exact n5), set_get r1, X.km, X.nn, fun x hx => ?_, by simp; omega, by simp; omega⟩, (k1.le (by simp)).trans (k2.le (by simp))⟩
      · rcases List.mem_append.mp hx with y | y
        · exact X.sub x y
        · rw [List.mem_singleton.mp y]; exact hc
end
end K36
set_option Elab.async false
set_option linter.all false
set_option maxRecDepth 100000
set_option maxHeartbeats 400000
namespace K36
open MI XG XM XK DK HC PySem
inductive Rch (sc : Int → List Int) (rt : List Int) : Int → Prop where
  | root {c : Int} : c ∈ rt → Rch sc rt c
  | step {c d : Int} : Rch sc rt c → d ∈ sc c → Rch sc rt d
theorem Rch.least {sc : Int → List Int} {rt : List Int} {S : Int → Prop} (a : ∀ c ∈ rt, S c) (b : ∀ c, S c → ∀ d ∈ sc c, S d) {c : Int} (r : Rch sc rt c) : S c := by
  induction r with
  | root h => exact a _ h
  | step _ hd ih => exact b _ ih _ hd
theorem asc_ext : ∀ {xs ys : List Int}, xs.Pairwise (· < ·) → ys.Pairwise (· < ·) → (∀ c, c ∈ xs ↔ c ∈ ys) → xs = ys
  | [], [], _, _, _ => rfl
  | [], y :: ys, _, _, e => by have := (e y).mpr (by simp); cases this
  | x :: xs, [], _, _, e => by have := (e x).mp (by simp); cases this
  | x :: xs, y :: ys, p, q, e => by
    obtain ⟨p1, p2⟩ := List.pairwise_cons.mp p
    obtain ⟨q1, q2⟩ := List.pairwise_cons.mp q
    have xy : x = y := by
      rcases List.mem_cons.mp ((e x).mp (by simp)) with z | z
      · exact z
      · rcases List.mem_cons.mp ((e y).mpr (by simp)) with w | w
        · exact w.symm
        · have := q1 x z; have := p1 y w; omega
    subst xy
    have e2 : ∀ c, c ∈ xs ↔ c ∈ ys := fun c => by
      constructor
      · intro h
        rcases List.mem_cons.mp ((e c).mp (List.mem_cons_of_mem _ h)) with z | z
        · have := p1 c h; omega
        · exact z
      · intro h
        rcases List.mem_cons.mp ((e c).mpr (List.mem_cons_of_mem _ h)) with z | z
        · have := q1 c h; omega
        · exact z
    rw [asc_ext p2 q2 e2]
theorem nd_len : ∀ {xs ys : List Int}, xs.Nodup → (∀ c ∈ xs, c ∈ ys) → xs.length ≤ ys.length
  | [], ys, _, _ => Nat.zero_le _
  | x :: xs, ys, nd, a => by
    obtain ⟨n1, n2⟩ := List.nodup_cons.mp nd
    have hx := a x (by simp)
    have := nd_len (ys := ys.erase x) n2 fun c hc => by
      have ne : c ≠ x := fun z => n1 (z ▸ hc)
      exact (List.mem_erase_of_ne ne).mpr (a c (List.mem_cons_of_mem _ hc))
    rw [List.length_erase_of_mem hx] at this
    have pos : 0 < ys.length := List.length_pos_of_mem hx
    rw [List.length_cons]
    omega
section
variable {sc : Int → List Int} {rt : List Int}
def mks (s : List Int × List Int) (cs : List Int) : List Int × List Int := cs.foldl mk1 s
structure Ms (sc : Int → List Int) (rt : List Int) (M R : List Int) (x : Option Int) : Prop where
  nd : M.Nodup
  nr : R.Nodup
  sub : ∀ c ∈ R, c ∈ M
  cl : ∀ c ∈ M, c ∉ R → some c ≠ x → ∀ d ∈ sc c, d ∈ M
  rch : ∀ c ∈ M, Rch sc rt c
theorem Ms.mk1 {M R : List Int} {x : Option Int} (I : Ms sc rt M R x) {c : Int} (r : Rch sc rt c) : Ms sc rt (mk1 (M, R) c).1 (mk1 (M, R) c).2 x ∧ c ∈ (K36.mk1 (M, R) c).1 ∧ (∀ d ∈ M, d ∈ (K36.mk1 (M, R) c).1) ∧ (K36.mk1 (M, R) c).1.length + R.length = (K36.mk1 (M, R) c).2.length + M.length := by
  unfold K36.mk1
  by_cases z : c ∈ M
  · rw [if_pos z]
    exact ⟨I, z, fun d hd => hd, Nat.add_comm _ _⟩
  · rw [if_neg z]
    have zr : c ∉ R := fun q => z (I.sub c q)
    refine ⟨⟨?_, ?_, fun d hd => ?_, fun d hd hr hx e he => ?_, fun d hd => ?_⟩, by simp, fun d hd => by simp [hd], by simp; omega⟩
    · rw [List.nodup_append]
      exact ⟨I.nd, by simp, fun a ha b hb q => by rw [List.mem_singleton.mp hb] at q; exact z (q ▸ ha)⟩
    · rw [List.nodup_append]
      exact ⟨I.nr, by simp, fun a ha b hb q => by rw [List.mem_singleton.mp hb] at q; exact zr (q ▸ ha)⟩
    · rcases List.mem_append.mp hd with y | y
      · exact List.mem_append_left _ (I.sub d y)
      · exact List.mem_append_right _ y
    · rcases List.mem_append.mp hd with y | y
      · exact List.mem_append_left _ (I.cl d y (fun q => hr (List.mem_append_left _ q)) hx e he)
      · exact absurd (List.mem_append_right _ y) hr
    · rcases List.mem_append.mp hd with y | y
      · exact I.rch d y
      · rw [List.mem_singleton.mp y]; exact r
theorem Ms.mks {x : Option Int} : ∀ {cs : List Int} {M R : List Int}, Ms sc rt M R x → (∀ c ∈ cs, Rch sc rt c) → Ms sc rt (mks (M, R) cs).1 (mks (M, R) cs).2 x ∧ (∀ c ∈ cs, c ∈ (K36.mks (M, R) cs).1) ∧ (∀ d ∈ M, d ∈ (K36.mks (M, R) cs).1) ∧ (K36.mks (M, R) cs).1.length + R.length = (K36.mks (M, R) cs).2.length + M.length
  | [], M, R, I, _ => ⟨I, fun c hc => (by cases hc), fun d hd => hd, Nat.add_comm _ _⟩
  | c :: cs, M, R, I, a => by
    obtain ⟨I1, b1, b2, b3⟩ := I.mk1 (a c (by simp))
    obtain ⟨I2, d1, d2, d3⟩ := I1.mks (cs := cs) fun x hx => a x (List.mem_cons_of_mem _ hx)
    have e : K36.mks (M, R) (c :: cs) = K36.mks ((K36.mk1 (M, R) c).1, (K36.mk1 (M, R) c).2) cs := rfl
    rw [e]
    refine ⟨I2, fun x hx => ?_, fun x hx => d2 x (b2 x hx), by omega⟩
    rcases List.mem_cons.mp hx with y | y
    · rw [y]; exact d2 c b1
    · exact d1 x y
theorem Ms.look {M R0 : List Int} {c : Int} (I : Ms sc rt M (R0 ++ [c]) none) : Ms sc rt (K36.mks (M, R0) (sc c)).1 (K36.mks (M, R0) (sc c)).2 none ∧ (∀ d ∈ M, d ∈ (K36.mks (M, R0) (sc c)).1) ∧ (K36.mks (M, R0) (sc c)).1.length + R0.length = (K36.mks (M, R0) (sc c)).2.length + M.length := by
  have cM := I.sub c (by simp)
  obtain ⟨n1, n2, n3⟩ := List.nodup_append.mp I.nr
  have I0 : Ms sc rt M R0 (some c) := ⟨I.nd, n1, fun d hd => I.sub d (List.mem_append_left _ hd), fun d hd hr hx => I.cl d hd (fun q => by
    rcases List.mem_append.mp q with y | y
    · exact hr y
    · rw [List.mem_singleton.mp y] at hx; exact hx rfl) (by simp), I.rch⟩
  obtain ⟨J, b1, b2, b3⟩ := I0.mks (cs := sc c) fun d hd => .step (I.rch c cM) hd
  refine ⟨⟨J.nd, J.nr, J.sub, fun d hd hr _ e he => ?_, J.rch⟩, b2, b3⟩
  by_cases z : d = c
  · rw [z] at he; exact b1 e he
  · exact J.cl d hd hr (fun q => z (Option.some.inj q)) e he
theorem Ms.done {M : List Int} (I : Ms sc rt M [] none) (a : ∀ c ∈ rt, c ∈ M) (c : Int) : c ∈ M ↔ Rch sc rt c :=
  ⟨I.rch c, fun r => r.least (S := fun c => c ∈ M) a fun d hd e he => I.cl d hd (by simp) (by simp) e he⟩
structure Cs (sc : Int → List Int) (rt : List Int) (F R : List Int) : Prop where
  nd : F.Nodup
  rts : ∀ c ∈ rt, c ∈ F ∨ c ∈ R
  cl : ∀ c ∈ F, ∀ d ∈ sc c, d ∈ F ∨ d ∈ R
  rch : ∀ c, c ∈ F ∨ c ∈ R → Rch sc rt c
theorem Cs.skip {F R0 : List Int} {c : Int} (I : Cs sc rt F (R0 ++ [c])) (h : c ∈ F) : Cs sc rt F R0 := by
  have m : ∀ {d}, d ∈ F ∨ d ∈ R0 ++ [c] → d ∈ F ∨ d ∈ R0 := fun {d} q => by
    rcases q with y | y
    · exact .inl y
    · rcases List.mem_append.mp y with w | w
      · exact .inr w
      · rw [List.mem_singleton.mp w]; exact .inl h
  exact ⟨I.nd, fun d hd => m (I.rts d hd), fun d hd e he => m (I.cl d hd e he), fun d hd => I.rch d (hd.imp id (List.mem_append_left _))⟩
theorem Cs.take {F R0 : List Int} {c : Int} (I : Cs sc rt F (R0 ++ [c])) (h : c ∉ F) : Cs sc rt (F ++ [c]) (R0 ++ sc c) := by
  have m : ∀ {d}, d ∈ F ∨ d ∈ R0 ++ [c] → d ∈ F ++ [c] ∨ d ∈ R0 ++ sc c := fun {d} q => by
    rcases q with y | y
    · exact .inl (List.mem_append_left _ y)
    · rcases List.mem_append.mp y with w | w
      · exact .inr (List.mem_append_left _ w)
      · exact .inl (List.mem_append_right _ w)
  have rc : Rch sc rt c := I.rch c (.inr (by simp))
  refine ⟨?_, fun d hd => m (I.rts d hd), fun d hd e he => ?_, fun d hd => ?_⟩
  · rw [List.nodup_append]
    exact ⟨I.nd, by simp, fun a ha b hb q => by rw [List.mem_singleton.mp hb] at q; exact h (q ▸ ha)⟩
  · rcases List.mem_append.mp hd with y | y
    · exact m (I.cl d y e he)
    · rw [List.mem_singleton.mp y] at he
      exact .inr (List.mem_append_right _ he)
  · rcases hd with y | y
    · rcases List.mem_append.mp y with w | w
      · exact I.rch d (.inl w)
      · rw [List.mem_singleton.mp w]; exact rc
    · rcases List.mem_append.mp y with w | w
      · exact I.rch d (.inr (List.mem_append_left _ w))
      · exact .step rc w
theorem Cs.done {F : List Int} (I : Cs sc rt F []) (c : Int) : c ∈ F ↔ Rch sc rt c :=
  ⟨fun h => I.rch c (.inl h), fun r => r.least (S := fun c => c ∈ F) (fun c hc => (I.rts c hc).resolve_right (by simp)) fun d hd e he => (I.cl d hd e he).resolve_right (by simp)⟩
end
theorem while_ind {c : MT} {b : MS} (I : Nat → ML → MH → Prop) (P : ML → MH → Prop)
    (st : ∀ n m h, I n m h → (∃ h1, c m h = .ok false h1 ∧ P m h1) ∨ ∃ h1 m2 h2 n', c m h = .ok true h1 ∧ b m h1 = .nx m2 h2 ∧ n' < n ∧ I n' m2 h2) :
    ∀ (K n : Nat) (m : ML) (h : MH), n < K → I n m h → ∃ m' h', gWhile c b K m h = .nx m' h' ∧ P m' h'
  | 0, n, m, h, hk, _ => by omega
  | K + 1, n, m, h, hk, i => by
    rcases st n m h i with ⟨h1, a1, a2⟩ | ⟨h1, m2, h2, n', a1, a2, a3, a4⟩
    · exact ⟨m, h1, while_f a1, a2⟩
    · obtain ⟨m', h', e, p⟩ := while_ind I P st K n' m2 h2 (by omega) a4
      exact ⟨m', h', (while_t a1 a2).trans e, p⟩
def scs (ks : List Int) (D : Obs) (c : Int) : List Int := ((D.find? fun o => decide (o.1 = c)).map fun o => o.2.2.filterMap (cel ks)).getD []
theorem scs_of {ks : List Int} {D : Obs} (sp : Sep D) {o : Obj3} (ho : o ∈ D) : scs ks D o.1 = o.2.2.filterMap (cel ks) := by
  unfold scs
  cases e : D.find? fun x => decide (x.1 = o.1) with
  | none =>
    have := List.find?_eq_none.mp e o ho
    simp at this
  | some x =>
    have hx := List.mem_of_find?_eq_some e
    have h1 := List.find?_some (p := fun x : Obj3 => decide (x.1 = o.1)) e
    have : x = o := sp.same hx ho (of_decide_eq_true h1)
    rw [this]; rfl
theorem mkA_fold {ks : List Int} : ∀ (as : List MV) (s : List Int × List Int), as.foldl (mkA ks) s = mks s (as.filterMap (cel ks))
  | [], s => rfl
  | a :: as, s => by
    show as.foldl (mkA ks) (mkA ks s a) = _
    rw [mkA_fold as, List.filterMap_cons]
    unfold mkA
    cases cel ks a <;> rfl
end K36
set_option Elab.async false
set_option linter.all false
set_option maxRecDepth 100000
set_option maxHeartbeats 400000
namespace K36
open MI XG XM XK DK HC PySem
open L2 (atI ixN)
theorem iter_tup {a : ME} {m : ML} {h h1 : MH} {xs : List MV} (ea : a m h = .ok (.tup xs) h1) : gIter a m h = .ok (it1 xs) h1 := by
  unfold gIter
  rw [ea]
  rfl
theorem iter_ref {a : ME} {m : ML} {h h1 : MH} {q : Nat} {xs : List MV} (ea : a m h = .ok (.ref q) h1) (g : h1.get q = some (.lst xs)) : gIter a m h = .ok (it1L q) h1 := by
  unfold gIter
  rw [ea]
  simp [Out.bind, mIter, g]
theorem itL_size {h : MH} {q : Nat} {xs : List MV} (g : h.get q = some (.lst xs)) : (it1L q).size h = xs.length := by simp [it1L, g]
theorem itL_at {h : MH} {q : Nat} {xs : List MV} (g : h.get q = some (.lst xs)) (j : Nat) : (it1L q).at_ j h = some xs[j]? := by simp [it1L, g]
theorem while_rt {c : MT} {b : MS} {N : Nat} {m : ML} {h h1 h2 : MH} {v : MV} (e : c m h = .ok true h1) (e2 : b m h1 = .rt v h2) : gWhile c b (N + 1) m h = .rt v h2 := by
  show (c m h).bindS _ = _
  rw [e]
  simp only [Out.bindS, if_pos, e2]
theorem mkA_len {ks : List Int} {s : List Int × List Int} {a : MV} : (mkA ks s a).1.length ≤ s.1.length + 1 ∧ (mkA ks s a).2.length ≤ s.2.length + 1 := by
  unfold mkA
  cases cel ks a with
  | none => exact ⟨Nat.le_succ _, Nat.le_succ _⟩
  | some c =>
    show (mk1 s c).1.length ≤ _ ∧ (mk1 s c).2.length ≤ _
    unfold mk1
    split
    · exact ⟨Nat.le_succ _, Nat.le_succ _⟩
    · simp
section
variable {h h' : MH} {mp hp s w qk qm qr L : Nat} {ks M R : List Int} {D : Obs} {p T : Int} {F G : List Nat}
theorem marks_loop {it : It1} {as : List MV} {m0 : ML} {sl : Nat} {em : ME} (Y : Mk h mp hp qk qm qr ks M R) (ha : ∀ a ∈ as, atB a = true) (lk : ks.length < 60) (lM : M.length + as.length < 59) (lR : R.length + as.length < 999)
    (at_ : ∀ h', Kp [qm, qr] h h' → ∀ j : Nat, it.at_ j h' = some as[j]?) (g0 : ∀ x h', gVar 0 (m0.set sl (some x)) h' = .ok (.ref mp) h') (gs : ∀ x h', gVar sl (m0.set sl (some x)) h' = .ok x h') (ss : ∀ x y, (m0.set sl x).set sl y = m0.set sl y) {x0 : Option MV} :
    ∃ h' x, gForN it (tgName sl) (gExpr (gMeth 0 986901309320966701165 m_Marks_mark [] 2 (gVar 0) (gCons (gVar sl) (gNil)))) (as.length + 1) 0 (m0.set sl x0) h = .nx (m0.set sl x) h' ∧ Mk h' mp hp qk qm qr ks (as.foldl (mkA ks) (M, R)).1 (as.foldl (mkA ks) (M, R)).2 ∧ Kp [qm, qr] h h' := by
  obtain ⟨m', h', e, x, em, Y', k⟩ := for_loop (it := it) (t := tgName sl) (b := gExpr (gMeth 0 986901309320966701165 m_Marks_mark [] 2 (gVar 0) (gCons (gVar sl) (gNil)))) (N := as.length)
    (fun j m h' => ∃ x, m = m0.set sl x ∧ (Mk h' mp hp qk qm qr ks ((as.take j).foldl (mkA ks) (M, R)).1 ((as.take j).foldl (mkA ks) (M, R)).2 ∧ ((as.take j).foldl (mkA ks) (M, R)).1.length ≤ M.length + j ∧ ((as.take j).foldl (mkA ks) (M, R)).2.length ≤ R.length + j) ∧ Kp [qm, qr] h h')
    (fun m h' ⟨_, _, _, k⟩ => by rw [at_ h' k, List.getElem?_eq_none (Nat.le_refl _)])
    (fun j m h' hj ⟨x, em, ⟨Y', b1, b2⟩, k⟩ => by
      subst em
      have hx : as[j]? = some as[j] := List.getElem?_eq_getElem hj
      obtain ⟨h2, a1, a2, a3⟩ := mark_ok Y' (ha _ (List.getElem_mem hj)) lk (by omega) (by omega)
      have e2 : (as.take (j + 1)).foldl (mkA ks) (M, R) = mkA ks ((as.take j).foldl (mkA ks) (M, R)) as[j] := by
        rw [List.take_succ, hx, List.foldl_append]; rfl
      have ml := mkA_len (ks := ks) (s := (as.take j).foldl (mkA ks) (M, R)) (a := as[j])
      refine ⟨as[j], m0.set sl (some as[j]), h', m0.set sl (some as[j]), h2, by rw [at_ h' k, hx], by show SO.nx _ _ = _; rw [ss], expr_nx ((meth1 (n := 2) (h1 := h') (h2 := h') (x := as[j]) (g0 _ _) Y'.ins rfl (gs _ _) rfl).trans a1), some as[j], rfl, ?_, k.trans a3⟩
      rw [e2]
      exact ⟨a2, by omega, by omega⟩)
    (as.length + 1) 0 (m0.set sl x0) h (by omega) (Nat.zero_le _) ⟨x0, rfl, ⟨by simpa using Y, by simp, by simp⟩, .refl⟩
  subst em
  rw [List.take_length] at Y'
  exact ⟨h', x, e, Y'.1, k⟩
theorem named_ok (X : HQ 1 2 h hp s w [] D L p F G) (bd : Bd D T) (Y : Mk h mp hp qk qm qr ks M R) (lk : ks.length < 60) (lM : M.length ≤ 30) (lR : R.length ≤ 30) {o : Obj3} (ho : o ∈ D) :
    ∃ h', m_Marks_mark_named [.ref mp, Wd o.1] h = .ok .non h' ∧ Mk h' mp hp qk qm qr ks (mks (M, R) (scs ks D o.1)).1 (mks (M, R) (scs ks D o.1)).2 ∧ Kp [qm, qr] h h' := by
  have sp := X.mw.sep
  obtain ⟨c1, c2, c3, c4, c5⟩ := sp.ok o ho
  obtain ⟨h1, a1, u1⟩ := atoms_q (eO := 3) X bd ho
  have fh : gFld [0] fHeap (gVar 0) [some (.ref mp), some (Wd o.1), none] h = .ok (.ref hp) h := fld_at rfl Y.ins rfl
  obtain ⟨fs0, ih0, lk0⟩ := X.ih
  have ea : gMeth 1 2224424513438957882035929185 m_Heap_atoms [] 2 (gFld [0] fHeap (gVar 0)) (gCons (gVar 1) (gNil)) [some (.ref mp), some (Wd o.1), none] h = .ok (.tup o.2.2) h1 :=
    (meth1 (n := 2) (h1 := h) (h2 := h) (x := Wd o.1) fh ih0 (lk0 _ (by decide)) rfl rfl).trans a1
  obtain ⟨h2, x, b1, b2, b3⟩ := marks_loop (it := it1 o.2.2) (as := o.2.2) (m0 := [some (.ref mp), some (Wd o.1), none]) (sl := 2) (em := gVar 0) (x0 := none) (Y.up u1) c4 lk (by omega) (by omega) (fun h' _ j => rfl) (fun _ _ => rfl) (fun _ _ => rfl) (fun _ _ => rfl)
  rw [mkA_fold, ← scs_of sp ho] at b2
  refine ⟨h2, body_nx (m := ([some (.ref mp), some (Wd o.1), none] : ML).set 2 x) ?_, b2, u1.kp.trans b3⟩
  show gFor _ _ _ [some (.ref mp), some (Wd o.1), none] h = _
  unfold gFor
  rw [iter_tup ea]
  exact b1
def L0 : MS := gWhile (gTru (gFld [0] 2243767381892980189490577503 (gVar 0))) (gSeq (gAsg (gBM "list" lPop (gFld [0] 2243767381892980189490577503 (gVar 0)) gNil) (tgName 1)) (gIfS (gB (gBin (mIn fun b => b) (gVar 1) (gFld [0] 4462132414599151834302220144214111 (gVar 0)))) (gSeq (gExpr (gMeth 0 78463809480939290633838191427914992170413991695107659661421 m_Marks_mark_named [] 2 (gVar 0) (gCons (gVar 1) (gNil)))) (gRet (gC (.bl true)))) (gNext))) 100000
def L1 : MS := gRet (gC (.bl false))
theorem t_L : m_Marks_look = gBody 2 (gSeq L0 (L1)) := rfl
def bLo : MS := gSeq (gAsg (gBM "list" lPop (gFld [0] 2243767381892980189490577503 (gVar 0)) gNil) (tgName 1)) (gIfS (gB (gBin (mIn fun b => b) (gVar 1) (gFld [0] 4462132414599151834302220144214111 (gVar 0)))) (gSeq (gExpr (gMeth 0 78463809480939290633838191427914992170413991695107659661421 m_Marks_mark_named [] 2 (gVar 0) (gCons (gVar 1) (gNil)))) (gRet (gC (.bl true)))) (gNext))
theorem t_L0 : L0 = gWhile (gTru (gFld [0] 2243767381892980189490577503 (gVar 0))) bLo 100000 := by
  unfold L0 bLo
  rfl
theorem t_look : m_Marks_look = gBody 2 (gSeq (gWhile (gTru (gFld [0] 2243767381892980189490577503 (gVar 0))) bLo 100000) (gRet (gC (.bl false)))) := by
  rw [t_L, t_L0]
  rfl
theorem look_no (Y : Mk h mp hp qk qm qr ks M []) : m_Marks_look [.ref mp] h = .ok (.bl false) h := by
  have fr : gFld [0] fRs (gVar 0) [some (.ref mp), none] h = .ok (.ref qr) h := fld_at rfl Y.ins rfl
  have c : gTru (gFld [0] fRs (gVar 0)) [some (.ref mp), none] h = .ok false h := by
    unfold gTru
    rw [fr]
    simp [Out.bind, mTru, Y.rs]
  rw [t_look]
  exact body_rt ((seq_nx (while_f (N := 99999) c)).trans rfl)
theorem look_yes {R0 : List Int} {o : Obj3} (X : HQ 1 2 h hp s w [] D L p F G) (bd : Bd D T) (Y : Mk h mp hp qk qm qr ks M (R0 ++ [o.1])) (dF : ∀ j ∈ [qm, qr], j ∉ F ∧ j ∉ G) (lk : ks.length < 60) (lM : M.length ≤ 30) (lR : R0.length ≤ 30) (ho : o ∈ D) (hk : o.1 ∈ ks) :
    ∃ h', m_Marks_look [.ref mp] h = .ok (.bl true) h' ∧ Mk h' mp hp qk qm qr ks (mks (M, R0) (scs ks D o.1)).1 (mks (M, R0) (scs ks D o.1)).2 ∧ Kp [qm, qr] h h' := by
  obtain ⟨n1, n2, n3, n4, n5⟩ := Y.ne
  have fr : ∀ x, gFld [0] fRs (gVar 0) [some (.ref mp), x] h = .ok (.ref qr) h := fun x => fld_at rfl Y.ins rfl
  have c : gTru (gFld [0] fRs (gVar 0)) [some (.ref mp), none] h = .ok true h := by
    unfold gTru
    rw [fr]
    simp [Out.bind, mTru, Y.rs]
  obtain ⟨h1, eh1⟩ : ∃ h1, h1 = h.set qr (.lst (R0.map Wd)) := ⟨_, rfl⟩
  have k1 : Kp [qr] h h1 := by rw [eh1]; exact Kp.set (MH.get_lt Y.rs) (by simp)
  have r1 : h1.get qr = some (.lst (R0.map Wd)) := by rw [eh1]; exact set_get Y.rs
  have s1 : gAsg (gBM "list" lPop (gFld [0] fRs (gVar 0)) gNil) (tgName 1) [some (.ref mp), none] h = .nx [some (.ref mp), some (Wd o.1)] h1 := by
    have ty : isTy h "list" (.ref qr) = true := by simp [isTy, Y.rs]
    refine asg_nx (v := Wd o.1) (h' := h1) ?_
    have l1 : ((R0 ++ [o.1]).map Wd)[((R0 ++ [o.1]).map Wd).length - 1]? = some (Wd o.1) := by
      rw [List.map_append]; simp
    have l2 : ((R0 ++ [o.1]).map Wd).dropLast = R0.map Wd := by rw [List.map_append]; simp
    simp only [gBM, fr, Out.bind, ty, if_pos, gNil, lPop, Y.rs, l1, l2, eh1]
  have Y1 : Mk h1 mp hp qk qm qr ks M R0 := ⟨k1.at Y.ins (by simp; exact n3), k1.at Y.kn (by simp; exact n4), k1.at Y.mkd (by simp; exact n5), r1, Y.km, Y.nn, Y.sub, Y.lM, by omega⟩
  have fk : gFld [0] fKn (gVar 0) [some (.ref mp), some (Wd o.1)] h1 = .ok (.ref qk) h1 := fld_at rfl Y1.ins rfl
  have c2 : gB (gBin (mIn fun b => b) (gVar 1) (gFld [0] fKn (gVar 0))) [some (.ref mp), some (Wd o.1)] h1 = .ok true h1 := by
    have v1 : gVar 1 [some (.ref mp), some (Wd o.1)] h1 = .ok (Wd o.1) h1 := rfl
    simp only [gB, gBin, v1, fk, Out.bind, inS Y1.kn Y1.nn (Y1.nn _ hk)]
    rw [decide_eq_true hk]
  have X1 := X.kp k1 (fun j hj => by rw [List.mem_singleton.mp hj]; exact (dF qr (by simp)).1) (fun j hj => by rw [List.mem_singleton.mp hj]; exact (dF qr (by simp)).2)
  obtain ⟨h2, a1, a2, a3⟩ := named_ok X1 bd Y1 lk lM lR ho
  have s2 : gExpr (gMeth 0 78463809480939290633838191427914992170413991695107659661421 m_Marks_mark_named [] 2 (gVar 0) (gCons (gVar 1) (gNil))) [some (.ref mp), some (Wd o.1)] h1 = .nx [some (.ref mp), some (Wd o.1)] h2 :=
    expr_nx ((meth1 (n := 2) (h1 := h1) (h2 := h1) (x := Wd o.1) rfl Y1.ins rfl rfl rfl).trans a1)
  refine ⟨h2, ?_, a2, (k1.le (by simp)).trans a3⟩
  rw [t_look]
  exact body_rt (seq_rt (while_rt (N := 99999) c ((seq_nx s1).trans ((ifS_t c2).trans ((seq_nx s2).trans rfl)))))
end
end K36
set_option Elab.async false
set_option linter.all false
set_option maxRecDepth 100000
set_option maxHeartbeats 400000
namespace K36
open MI XG XM XK DK HC PySem
open L2 (atI ixN)
theorem up_kp {h h1 h2 : MH} {F : List Nat} (u : Up h h1) (k : Kp F h1 h2) (f : ∀ j ∈ F, h.n ≤ j) : Up h h2 :=
  ⟨Nat.le_trans u.n k.n, fun j hj => (k.get j (Nat.lt_of_lt_of_le hj u.n) fun z => by have := f j z; omega).trans (u.get j hj)⟩
theorem fset0 {C f p : Nat} {v : ME} {m : ML} {h0 h h1 : MH} {y : MV} {fs : List (Nat × MV)} (k : Kp [p] h0 h) (g : h.get p = some (.ins C fs)) (ev : v m h = .ok y h1) (u : Up h h1) (e0 : m[0]? = some (some (.ref p))) (l : fs.length < 900) : ∃ h', gFldS [C] f v (gVar 0) m h = .nx m h' ∧ h'.get p = some (.ins C (mput f y fs)) ∧ Kp [p] h0 h' ∧ Kp [p] h1 h' := by
  have g1 := u.at g
  have k1 : Kp [p] h1 (h1.set p (.ins C (mput f y fs))) := Kp.set (MH.get_lt g1) (by simp)
  exact ⟨_, XM.fldS_ok ev e0 g1 l, set_get g1, (k.trans u.kp).trans k1, k1⟩
def kOf (D : Obs) : List Int := (byC D).map (·.1)
theorem kOf_mem {D : Obs} {c : Int} : c ∈ kOf D ↔ ∃ o ∈ D, o.1 = c := by
  unfold kOf
  rw [List.mem_map]
  constructor
  · rintro ⟨o, ho, e⟩; exact ⟨o, (byC_perm D).mem_iff.mp ho, e⟩
  · rintro ⟨o, ho, e⟩; exact ⟨o, (byC_perm D).mem_iff.mpr ho, e⟩
theorem kOf_len (D : Obs) : (kOf D).length = D.length := by unfold kOf; rw [List.length_map, (byC_perm D).length_eq]
theorem kOf_asc {D : Obs} (sp : Sep D) : (kOf D).Pairwise (· < ·) := by
  unfold kOf
  rw [List.pairwise_map]
  exact (byC_pw sp).imp fun {a b} h => by have := sz_pos a; omega
theorem kOf_nn {D : Obs} (sp : Sep D) : ∀ c ∈ kOf D, 0 ≤ c := fun c hc => by
  obtain ⟨o, ho, rfl⟩ := kOf_mem.mp hc
  exact (sp.ok o ho).1
theorem dc_loop {it : It1} {D q sl : Nat} {mw : ML} {ks : List Int} (nn : ∀ c ∈ ks, 0 ≤ c) (nd : ks.Nodup) (lk : ks.length < 100) (qD : q ≠ D) (at_ : ∀ h', h'.get q = some (.lst (ks.map Wd)) → ∀ j : Nat, it.at_ j h' = some (ks.map Wd)[j]?) (gv : ∀ x h', gVar sl (mw.set sl (some x)) h' = .ok x h') :
    ∀ (n i : Nat) (h : MH), i + n = ks.length + 1 → i ≤ ks.length → h.get D = some (.dic (dW (ks.take i) T1)) → h.get q = some (.lst (ks.map Wd)) → ∃ h', gDcN it (.one sl) gYes (gVar sl) (gC (.bl true)) D mw n i h = .ok (.ref D) h' ∧ h'.get D = some (.dic (dW ks T1)) ∧ Kp [D] h h'
  | 0, i, h, e, hi, _, _ => by omega
  | n + 1, i, h, e, hi, gD, gq => by
    unfold gDcN
    by_cases z : i < ks.length
    · have hx : ks[i]? = some ks[i] := List.getElem?_eq_getElem z
      have a0 : it.at_ i h = some (some (Wd ks[i])) := by rw [at_ h gq, List.getElem?_map, hx]; rfl
      have nm : ks[i] ∉ ks.take i := fun hm => by
        obtain ⟨j, hj, ej⟩ := List.mem_iff_getElem.mp hm
        rw [List.length_take] at hj
        rw [List.getElem_take] at ej
        exact (List.pairwise_iff_getElem.mp nd) j i (by omega) z (by omega) ej
      have h0 := nn ks[i] (List.getElem_mem z)
      have dh := dW_has (f := T1) (fun c hc => nn c (List.mem_of_mem_take hc)) h0 nm
      have e1 : dput keq (dW (ks.take i) T1) (.inr (wd ks[i])) (.bl true) = dW (ks.take (i + 1)) T1 := by
        unfold dput
        rw [dh, if_neg (by decide), List.take_succ, hx]
        unfold dW
        rw [List.map_append]
        rfl
      have k1 : Kp [D] h (h.set D (.dic (dW (ks.take (i + 1)) T1))) := Kp.set (MH.get_lt gD) (by simp)
      obtain ⟨h', b1, b2, b3⟩ := dc_loop (it := it) (sl := sl) (mw := mw) nn nd lk qD at_ gv n (i + 1) (h.set D (.dic (dW (ks.take (i + 1)) T1))) (by omega) (by omega) (set_get gD) (k1.at gq (by simpa using qD))
      refine ⟨h', ?_, b2, k1.trans b3⟩
      rw [a0]
      simp only [CT.set, tgName, gYes, gv, gC, gD, Wd, mkey]
      rw [if_pos (by simp [dW]; omega), e1]
      exact b1
    · have ie : i = ks.length := by omega
      have a0 : it.at_ i h = some none := by rw [at_ h gq, List.getElem?_eq_none (by simp; omega)]
      rw [a0]
      refine ⟨h, rfl, ?_, .refl⟩
      rw [gD, ie, List.take_length]
section
variable {h h' : MH} {hp s w L : Nat} {D : Obs} {p T : Int} {F G : List Nat} {rts : List Int}
theorem t_M' : m_Marks___init = gBody 4 (gSeq (gFldS [0] fHeap (gVar 1) (gVar 0)) (gSeq (gFldS [0] fKn (gDc (gIter (gMeth 1 1060688232839255162994 m_Heap_refs [] 1 (gVar 1) gNil)) (.one 3) (gYes) (gVar 3) (gC (.bl true)) [3]) (gVar 0)) (gSeq (gFldS [0] fMk (gDic) (gVar 0)) (gSeq (gFldS [0] fRs (gLst (gNil)) (gVar 0)) (gFor (gIter (gVar 2)) (tgName 3) (gExpr (gMeth 0 986901309320966701165 m_Marks_mark [] 2 (gVar 0) (gCons (gVar 3) (gNil))))))))) := rfl
theorem rts_cel {ks : List Int} (nn : ∀ c ∈ ks, 0 ≤ c) : ∀ {rts : List Int}, (∀ c ∈ rts, c ∈ ks) → (rts.map Wd).filterMap (cel ks) = rts
  | [], _ => rfl
  | c :: rts, a => by
    rw [List.map_cons, List.filterMap_cons, cel_wd nn (nn c (a c (by simp))), if_pos (a c (by simp))]
    show c :: _ = _
    rw [rts_cel nn fun x hx => a x (List.mem_cons_of_mem _ hx)]
theorem Wd_at {c : Int} (h1 : 0 ≤ c) (h2 : c < 10000000000000) : atB (Wd c) = true := wd_at h1 h2
theorem marks_new {rv : MV} (X : HQ 1 2 h hp s w [] D L p F G) (bd : Bd D T) (sq : Sq h rv (rts.map Wd)) (sub : ∀ c ∈ rts, c ∈ kOf D) (lr : rts.length ≤ 20) (lD : D.length ≤ 20) :
    ∃ h' qk qm qr, m_Marks___init [.ref h.n, .ref hp, rv] (h.push (.ins 0 [])) = .ok .non h' ∧ Mk h' h.n hp qk qm qr (kOf D) (mks ([], []) rts).1 (mks ([], []) rts).2 ∧ Up h h' ∧ h.n ≤ qm ∧ h.n ≤ qr := by
  have sp := X.mw.sep
  obtain ⟨ks, eks⟩ : ∃ ks, ks = kOf D := ⟨_, rfl⟩
  have nn : ∀ c ∈ ks, 0 ≤ c := by rw [eks]; exact kOf_nn sp
  have lk : ks.length ≤ 20 := by rw [eks, kOf_len]; exact lD
  rw [← eks] at sub ⊢
  let m : ML := [some (.ref h.n), some (.ref hp), some rv, none]
  have u0 : Up h (h.push (.ins 0 [])) := Up.push
  obtain ⟨h1, e1, g1, k1, _⟩ := fset0 (C := 0) (f := fHeap) (v := gVar 1) (m := m) (y := .ref hp) (h0 := h.push (.ins 0 [])) (h1 := h.push (.ins 0 [])) .refl get_top rfl .refl rfl (by show (0 : Nat) < 900; omega)
  have u1 : Up h h1 := up_kp u0 k1 (by simp)
  have X1 := X.up u1
  obtain ⟨h2, q, a1, a2, a3, a4⟩ := refs_q X1 bd
  have ek : ((byC D).map fun o => MV.str (wd o.1)) = ks.map Wd := by rw [eks]; unfold kOf; rw [List.map_map]; rfl
  rw [ek] at a2
  obtain ⟨fs0, ih0, lk0⟩ := X1.ih
  have er : gMeth 1 1060688232839255162994 m_Heap_refs [] 1 (gVar 1) gNil m h1 = .ok (.ref q) h2 := (meth0 (n := 1) rfl ih0 (lk0 _ (by decide)) rfl).trans a1
  have qlt := MH.get_lt a2
  have n1 := u1.n
  have pn : (h.push (.ins 0 [])).n = h.n + 1 := rfl
  have k1n := k1.n
  have g2 : (h2.push (.dic [])).get q = some (.lst (ks.map Wd)) := Up.push.at a2
  obtain ⟨h3, b1, b2, b3⟩ := dc_loop (it := it1L q) (D := h2.n) (q := q) (sl := 3) (mw := m) nn (by rw [eks]; exact (kOf_asc sp).imp fun {a b} z => by omega) (by omega) (by omega) (fun h' g j => itL_at g j) (fun _ _ => rfl) (ks.length + 1) 0 (h2.push (.dic [])) (by omega) (Nat.zero_le _) get_top g2
  have dc : gDc (gIter (gMeth 1 1060688232839255162994 m_Heap_refs [] 1 (gVar 1) gNil)) (.one 3) (gYes) (gVar 3) (gC (.bl true)) [3] m h1 = .ok (.ref h2.n) h3 := by
    unfold gDc
    rw [iter_ref er a2]
    simp only [Out.bind]
    rw [itL_size a2, List.length_map]
    exact b1
  have u23 : Up h2 h3 := up_kp Up.push b3 (by simp)
  have u13 : Up h1 h3 := a4.trans u23
  have n2 := a4.n
  obtain ⟨h4, e4, g4, k4, k4'⟩ := fset0 (C := 0) (f := fKn) (v := gDc (gIter (gMeth 1 1060688232839255162994 m_Heap_refs [] 1 (gVar 1) gNil)) (.one 3) (gYes) (gVar 3) (gC (.bl true)) [3]) (m := m) (y := .ref h2.n) (h1 := h3) k1 g1 dc u13 rfl (by show (1 : Nat) < 900; omega)
  have b2' := k4'.at b2 (by simp; omega)
  obtain ⟨h5, e5, g5, k5, k5'⟩ := fset0 (C := 0) (f := fMk) (v := gDic) (m := m) (y := .ref h4.n) (h1 := h4.push (.dic [])) k4 g4 rfl Up.push rfl (by show (2 : Nat) < 900; omega)
  have n34 := k4'.n
  have l3 := MH.get_lt b2
  have l4 := MH.get_lt g4
  have k45n : h4.n + 1 ≤ h5.n := k5'.n
  have m5 : h5.get h4.n = some (.dic []) := k5'.at get_top (by simp; omega)
  obtain ⟨h6, e6, g6, k6, k6'⟩ := fset0 (C := 0) (f := fRs) (v := gLst gNil) (m := m) (y := .ref h5.n) (h1 := h5.push (.lst [])) k5 g5 rfl Up.push rfl (by show (3 : Nat) < 900; omega)
  have l5 := MH.get_lt g5
  have r6 : h6.get h5.n = some (.lst []) := k6'.at get_top (by simp; omega)
  have m6 : h6.get h4.n = some (.dic []) := k6'.at (Up.push.at m5) (by simp; omega)
  have q6 : h6.get h2.n = some (.dic (dW ks T1)) := k6'.at (Up.push.at (k5'.at (Up.push.at b2') (by simp; omega))) (by simp; omega)
  have Y0 : Mk h6 h.n hp h2.n h4.n h5.n ks [] [] := ⟨g6, q6, m6, r6, by omega, nn, fun c hc => (by cases hc), by decide, by decide⟩
  have u6 : Up h h6 := up_kp u0 k6 (by simp)
  have sq6 : Sq h6 rv (rts.map Wd) := by
    cases sq with
    | tup => exact .tup _
    | ref g => exact .ref (u6.at g)
  obtain ⟨it, i1, i2, i3⟩ := XM.iter_it sq6
  have kn6 := k6'.n
  have big := bd.big
  obtain ⟨h7, x, c1, c2, c3⟩ := marks_loop (it := it) (as := rts.map Wd) (m0 := m) (sl := 3) (em := gVar 0) (x0 := none) Y0 (fun a ha => by
    obtain ⟨c, hc, rfl⟩ := List.mem_map.mp ha
    have hk := sub c hc
    rw [eks] at hk
    obtain ⟨o, ho, rfl⟩ := kOf_mem.mp hk
    exact Wd_at (sp.ok o ho).1 (big o ho)) (by omega) (by simp; omega) (by simp; omega) (fun h' k j => i3 h' (by
      cases sq with
      | tup => exact .tup _
      | @ref q g0 e0 =>
        have ql := MH.get_lt e0
        exact .ref (k.at (u6.at e0) (by simp; omega))) j) (fun _ _ => rfl) (fun _ _ => rfl) (fun _ _ => rfl)
  rw [mkA_fold, rts_cel nn sub] at c2
  have s5 : gFor (gIter (gVar 2)) (tgName 3) (gExpr (gMeth 0 986901309320966701165 m_Marks_mark [] 2 (gVar 0) (gCons (gVar 3) (gNil)))) m h6 = .nx (m.set 3 x) h7 := by
    unfold gFor
    rw [i1 m (gVar 2) rfl]
    simp only [Out.bindS]
    rw [i2]
    exact c1
  refine ⟨h7, h2.n, h4.n, h5.n, ?_, c2, up_kp u6 c3 (by simp; omega), by omega, by omega⟩
  rw [t_M']
  exact body_nx ((seq_nx e1).trans ((seq_nx e4).trans ((seq_nx e5).trans ((seq_nx e6).trans s5))))
end
end K36
set_option Elab.async false
set_option linter.all false
set_option maxRecDepth 100000
set_option maxHeartbeats 400000
namespace K36
open MI XG XM XK DK HC PySem
open L2 (atI ixN)
def Q0 : MS := gAsg (gMake 0 m_Marks___init [] 3 (gCons (gVar 0) (gCons (gVar 1) (gNil)))) (tgName 2)
def Q1 : MS := gWhile (gTru (gMeth 0 986901296126856527980 m_Marks_look [] 1 (gVar 2) gNil)) (gNext) 100000
def Q2 : MS := gRet (gLc (gIter (gMeth 1 1060688232839255162994 m_Heap_refs [] 1 (gVar 0) gNil)) (.one 3) (gTru (gMeth 0 37414459934682337676697356448181313120351053999505513 m_Marks_is_marked [] 2 (gVar 2) (gCons (gVar 3) (gNil)))) (gVar 3) [3])
theorem t_Q : m_reachable = gBody 4 (gSeq Q0 (gSeq Q1 (Q2))) := rfl
def C0 : MS := gPar 2 3 (gCons (gLst (gNil)) (gCons (gCB (f1 mList) (gCons (gVar 1) (gNil))) (gNil)))
def C1 : MS := gWhile (gB (gBin mNeX (gVar 3) (gLst (gNil)))) (gSeq (gAsg (gBM "list" lPop (gVar 3) gNil) (tgName 4)) (gIfS (gB (gBin (mInN fun b => !b) (gVar 4) (gVar 2))) (gSeq (gExpr (gBM "list" lApp (gVar 2) (gCons (gVar 4) (gNil)))) (gAsg (gBin mAdd (gVar 3) (gLc (gIter (gBin mIx (gVar 0) (gVar 4))) (.one 5) (gB (gBin (mInN fun b => b) (gVar 5) (gVar 0))) (gVar 5) [5])) (tgName 3))) (gNext))) 100000
def C2 : MS := gRet (gVar 2)
theorem t_C : m_law_closure = gBody 6 (gSeq C0 (gSeq C1 (C2))) := rfl
section
variable {h h' : MH} {hp s w L : Nat} {D : Obs} {p T : Int} {F G : List Nat} {rts : List Int}
theorem Ms.nil {sc : Int → List Int} {rt : List Int} : Ms sc rt [] [] none := ⟨.nil, .nil, fun c hc => (by cases hc), fun c hc => (by cases hc), fun c hc => (by cases hc)⟩
theorem pick_loop {it : It1} {N D : Nat} {ws : List MV} {mw : ML} {sl : Nat} {t : MT} {f : MV → Bool} (lw : ws.length < 1000) (at_ : ∀ h', Up h h' → ∀ j : Nat, it.at_ j h' = some ws[j]?) (gv : ∀ x h', gVar sl (mw.set sl (some x)) h' = .ok x h') (ht : ∀ x ∈ ws, ∀ h', Up h h' → t (mw.set sl (some x)) h' = .ok (f x) h') :
    ∃ h', gLcN it (.one sl) t (gVar sl) h.n mw (ws.length + 1) 0 (h.push (.lst [])) = .ok (.ref h.n) h' ∧ h'.get h.n = some (.lst (ws.filter f)) ∧ Up h h' := by
  obtain ⟨acc, h2, e1, ⟨u1, rfl⟩, g1⟩ := lc_loop (it := it) (c := .one sl) (t := t) (e := gVar sl) (D := h.n) (mw := mw) (N := ws.length) (by omega)
    (fun j acc h' => Up h h' ∧ acc = (ws.take j).filter f) (fun acc h' q => by rw [at_ h' q.1, List.getElem?_eq_none (Nat.le_refl _)]) (fun j acc h' hj q g => by
      obtain ⟨u, rfl⟩ := q
      have hx : ws[j]? = some ws[j] := List.getElem?_eq_getElem hj
      have e2 : (ws.take (j + 1)).filter f = (ws.take j).filter f ++ if f ws[j] = true then [ws[j]] else [] := by
        rw [List.take_succ, hx, List.filter_append]
        show _ ++ List.filter f [ws[j]] = _
        rw [List.filter_cons, List.filter_nil]
      refine ⟨ws[j], mw.set sl (some ws[j]), h', f ws[j], h', by rw [at_ h' u, hx], rfl, ht _ (List.getElem_mem hj) h' u, fun z => ⟨⟨u, by rw [e2, z]; simp⟩, g⟩, fun z => ⟨ws[j], h', gv _ _, g, u.set (Nat.le_refl _) g, by rw [e2, z]; simp⟩⟩)
    (ws.length + 1) 0 [] (h.push (.lst [])) (by omega) (Nat.zero_le _) (by simp) ⟨Up.push, rfl⟩ get_top
  rw [List.take_length] at g1
  exact ⟨h2, e1, g1, u1⟩
theorem reach_ok {rv : MV} (X : HQ 1 2 h hp s w [] D L p F G) (bd : Bd D T) (sq : Sq h rv (rts.map Wd)) (sub : ∀ c ∈ rts, c ∈ kOf D) (lr : rts.length ≤ 20) (lD : D.length ≤ 20) :
    ∃ (h' : MH) (q : Nat) (M : List Int), m_reachable [.ref hp, rv] h = .ok (.ref q) h' ∧ h'.get q = some (.lst (((kOf D).filter fun c => decide (c ∈ M)).map Wd)) ∧ (∀ c, c ∈ M ↔ Rch (scs (kOf D) D) rts c) ∧ Up h h' ∧ h.n ≤ q := by
  have sp := X.mw.sep
  have lk : (kOf D).length ≤ 20 := by rw [kOf_len]; exact lD
  obtain ⟨h1, qk, qm, qr, a1, Y1, u1, nm, nr⟩ := marks_new X bd sq sub lr lD
  have s0 : Q0 [some (.ref hp), some rv, none, none] h = .nx [some (.ref hp), some rv, some (.ref h.n), none] h1 := by
    refine asg_nx (v := .ref h.n) (h' := h1) ?_
    unfold gMake
    have e0 : gCons (gVar 0) (gCons (gVar 1) (gNil)) [some (.ref hp), some rv, none, none] h = .ok [.ref hp, rv] h := rfl
    rw [e0]
    simp only [Out.bind]
    rw [if_pos (by simp)]
    rw [show m_Marks___init (MV.ref h.n :: ([.ref hp, rv] ++ [])) (h.push (.ins 0 [])) = .ok .non h1 from a1]
  obtain ⟨I0, b1, _, _⟩ := (Ms.nil (sc := scs (kOf D) D) (rt := rts)).mks (cs := rts) fun c hc => .root hc
  have fl := X.x.lt
  -- looks
  obtain ⟨m', h2, e2, rfl, M, Y2, I2, r2, u2⟩ := while_ind (c := gTru (gMeth 0 986901296126856527980 m_Marks_look [] 1 (gVar 2) gNil)) (b := gNext)
    (fun n m h' => m = [some (.ref hp), some rv, some (.ref h.n), none] ∧ ∃ M R, Mk h' h.n hp qk qm qr (kOf D) M R ∧ Ms (scs (kOf D) D) rts M R none ∧ (∀ c ∈ rts, c ∈ M) ∧ n + M.length = (kOf D).length + R.length ∧ Up h h')
    (fun m h' => m = [some (.ref hp), some rv, some (.ref h.n), none] ∧ ∃ M, Mk h' h.n hp qk qm qr (kOf D) M [] ∧ Ms (scs (kOf D) D) rts M [] none ∧ (∀ c ∈ rts, c ∈ M) ∧ Up h h')
    (fun n m h' ⟨em, M, R, Y, I, rr, ln, u⟩ => by
      subst em
      have lM : M.length ≤ (kOf D).length := nd_len I.nd Y.sub
      have lR : R.length ≤ M.length := nd_len I.nr I.sub
      rcases List.eq_nil_or_concat R with z | ⟨R0, c, z⟩
      · subst z
        refine .inl ⟨h', ?_, rfl, M, Y, I, rr, u⟩
        unfold gTru
        rw [(meth0 (n := 1) (g := m_Marks_look) (o := gVar 2) (h1 := h') rfl Y.ins rfl rfl).trans (look_no Y)]
        rfl
      · rw [List.concat_eq_append] at z
        subst z
        have cM := I.sub c (by simp)
        have cK := Y.sub c cM
        obtain ⟨o, ho, rfl⟩ := kOf_mem.mp cK
        rw [List.length_append, List.length_singleton] at ln lR
        obtain ⟨h3, d1, d2, d3⟩ := look_yes (X.up u) bd Y (fun j hj => by
          simp only [List.mem_cons, List.not_mem_nil, or_false] at hj
          refine ⟨fun z => ?_, fun z => ?_⟩
          · have := fl.1 j z; rcases hj with rfl | rfl <;> omega
          · have := fl.2 j z; rcases hj with rfl | rfl <;> omega) (by omega) (by omega) (by omega) ho cK
        obtain ⟨J, j1, j2⟩ := I.look
        refine .inr ⟨h3, _, h3, n - 1, ?_, rfl, by omega, rfl, _, _, d2, J, fun x hx => j1 x (rr x hx), by omega, up_kp u d3 (by simp; omega)⟩
        unfold gTru
        rw [(meth0 (n := 1) (g := m_Marks_look) (o := gVar 2) (h1 := h') rfl Y.ins rfl rfl).trans d1]
        rfl)
    100000 ((kOf D).length + (mks ([], []) rts).2.length - (mks ([], []) rts).1.length) [some (.ref hp), some rv, some (.ref h.n), none] h1 (by
      have := nd_len I0.nr I0.sub
      have := nd_len I0.nd Y1.sub
      omega) ⟨rfl, _, _, Y1, I0, b1, by have := nd_len I0.nd Y1.sub; omega, u1⟩
  have X2 := X.up u2
  obtain ⟨h3, q, c1, c2, c3, u3⟩ := refs_q X2 bd
  have ek : ((byC D).map fun o => MV.str (wd o.1)) = (kOf D).map Wd := by unfold kOf; rw [List.map_map]; rfl
  rw [ek] at c2
  obtain ⟨fs0, ih0, lk0⟩ := X2.ih
  have er : gMeth 1 1060688232839255162994 m_Heap_refs [] 1 (gVar 0) gNil [some (.ref hp), some rv, some (.ref h.n), none] h2 = .ok (.ref q) h3 := (meth0 (n := 1) rfl ih0 (lk0 _ (by decide)) rfl).trans c1
  have Y3 := Y2.up u3
  obtain ⟨f, ef⟩ : ∃ f : MV → Bool, f = fun x => (cel M x).isSome := ⟨_, rfl⟩
  have nM : ∀ c ∈ M, 0 ≤ c := fun c hc => Y3.nn c (Y3.sub c hc)
  obtain ⟨h4, g1, g2, u4⟩ := pick_loop (h := h3) (N := 0) (D := 0) (it := it1L q) (ws := (kOf D).map Wd) (mw := [some (.ref hp), some rv, some (.ref h.n), none]) (sl := 3) (t := gTru (gMeth 0 37414459934682337676697356448181313120351053999505513 m_Marks_is_marked [] 2 (gVar 2) (gCons (gVar 3) (gNil)))) (f := f) (by simp; omega) (fun h' u j => itL_at (u.at c2) j) (fun _ _ => rfl) (fun x hx h' u => by
    obtain ⟨c, hc, rfl⟩ := List.mem_map.mp hx
    have Y := Y3.up u
    have h0 := Y.nn c hc
    have fm : gFld [0] fMk (gVar 0) [some (.ref h.n), some (Wd c)] h' = .ok (.ref qm) h' := fld_at rfl Y.ins rfl
    have v1 : gVar 1 [some (.ref h.n), some (Wd c)] h' = .ok (Wd c) h' := rfl
    have im : m_Marks_is_marked [.ref h.n, Wd c] h' = .ok (.bl (decide (c ∈ M))) h' := by
      refine body_rt (v := .bl (decide (c ∈ M))) ?_
      show gRet (gBin (mIn fun b => b) (gVar 1) (gFld [0] fMk (gVar 0))) [some (.ref h.n), some (Wd c)] h' = _
      unfold gRet
      simp only [gBin, v1, fm, Out.bind, inS Y.mkd nM h0, Out.bindS]
    unfold gTru
    rw [(meth1 (n := 2) (g := m_Marks_is_marked) (o := gVar 2) (a := gVar 3) (h1 := h') (h2 := h') (x := Wd c) rfl Y.ins rfl rfl rfl).trans im]
    rw [ef]
    simp only [Out.bind, mTru, cel_wd nM h0]
    by_cases z : c ∈ M
    · rw [decide_eq_true z, if_pos z]; rfl
    · rw [decide_eq_false z, if_neg z]; rfl)
  have ff : ((kOf D).map Wd).filter f = ((kOf D).filter fun c => decide (c ∈ M)).map Wd := by
    rw [List.filter_map]
    congr 1
    refine List.filter_congr fun c hc => ?_
    rw [ef]
    show (cel M (Wd c)).isSome = _
    rw [cel_wd nM (Y3.nn c hc)]
    by_cases z : c ∈ M
    · rw [decide_eq_true z, if_pos z]; rfl
    · rw [decide_eq_false z, if_neg z]; rfl
  rw [ff] at g2
  have n3 := u2.n
  have n4 := u3.n
  refine ⟨h4, h3.n, M, ?_, g2, I2.done r2, u2.trans (u3.trans u4), by omega⟩
  rw [t_Q]
  refine body_rt (v := .ref h3.n) ((seq_nx s0).trans ((seq_nx e2).trans ?_))
  unfold Q2 gRet gLc
  rw [iter_ref er c2]
  simp only [Out.bind]
  rw [itL_size c2]
  rw [show mwipe [some (.ref hp), some rv, some (.ref h.n), none] [3] = [some (.ref hp), some rv, some (.ref h.n), none] from rfl, g1]
  rfl
end
end K36
set_option Elab.async false
set_option linter.all false
set_option maxRecDepth 100000
set_option maxHeartbeats 400000
namespace K36
open MI XG XM XK DK HC PySem
open L2 (atI ixN)
theorem bin_ok {g : MV → MV → MH → Out MV} {x y : ME} {m : ML} {h h1 h2 : MH} {i j : MV} (ex : x m h = .ok i h1) (ey : y m h1 = .ok j h2) : gBin g x y m h = g i j h2 := by
  unfold gBin
  rw [ex]
  simp only [Out.bind]
  rw [ey]
theorem ne_nil {h : MH} {p q : Nat} {xs : List MV} (g1 : h.get p = some (.lst xs)) (g2 : h.get q = some (.lst [])) (a : ∀ x ∈ xs, atB x = true) : mNeX (.ref p) (.ref q) h = .ok (.bl (!xs.isEmpty)) h := by
  have e := eq_nil g1 g2 a
  unfold mEqX at e
  unfold mNeX
  rw [if_pos (show isRow (MV.ref p) = true from rfl)] at e ⊢
  unfold mEqB at e ⊢
  split at e
  · rename_i d1 d2 e1 e2
    split at e
    · rename_i c
      rw [if_pos c]
      have : PyData.eqv d1 d2 = xs.isEmpty := by
        have e' := e
        injection e' with e' _
        injection e'
      rw [this]
    · cases e
  · cases e
theorem mhas_wd {c : Int} (h0 : 0 ≤ c) : ∀ {F : List Int}, (∀ d ∈ F, 0 ≤ d) → mhas (Wd c) (F.map Wd) = some (decide (c ∈ F))
  | [], _ => rfl
  | d :: F, nn => by
    have i := mhas_wd h0 (F := F) fun x hx => nn x (List.mem_cons_of_mem _ hx)
    show (if mflat (Wd d) = true then (mhas (Wd c) (F.map Wd)).map fun b => mEqF (Wd d) (Wd c) || b else none) = _
    rw [if_pos (show mflat (Wd d) = true from rfl), i]
    show some (leq (wd d) (wd c) || decide (c ∈ F)) = _
    rw [wk (nn d (by simp)) h0]
    congr 1
    by_cases z : d = c
    · subst z; simp
    · rw [decide_eq_false z]
      simp [Ne.symm z]
theorem in_wds {k : Bool → Bool} {h : MH} {q : Nat} {F : List Int} {c : Int} (g : h.get q = some (.lst (F.map Wd))) (nn : ∀ d ∈ F, 0 ≤ d) (h0 : 0 ≤ c) : mInN k (Wd c) (.ref q) h = .ok (.bl (k (decide (c ∈ F)))) h := by
  have sq : seqOf h (.ref q) = some (F.map Wd) := by simp [seqOf, g]
  unfold mInN
  rw [if_neg (by simp [mIsN, Wd])]
  unfold mIn
  rw [if_neg (by simp [isD, g])]
  unfold mInK mInS
  have fl : mflat (Wd c) = true := rfl
  simp only [sq, fl, if_pos, mhas_wd h0 nn, oB, Out.bind]
theorem cel_same {ks ls : List Int} (nk : ∀ c ∈ ks, 0 ≤ c) (e : ∀ c, c ∈ ks ↔ c ∈ ls) (a : MV) : cel ks a = cel ls a := by
  have nl : ∀ c ∈ ls, 0 ≤ c := fun c hc => nk c ((e c).mpr hc)
  cases h1 : cel ks a with
  | some c =>
    obtain ⟨hc, rfl⟩ := cel_some h1
    rw [cel_wd nl (nk c hc), if_pos ((e c).mp hc)]
  | none =>
    cases h2 : cel ls a with
    | none => rfl
    | some c =>
      obtain ⟨hc, rfl⟩ := cel_some h2
      rw [cel_wd nk (nl c hc), if_pos ((e c).mpr hc)] at h1
      cases h1
def cs (D : Obs) : List Int := D.map (·.1)
theorem cs_mem {D : Obs} {c : Int} : c ∈ cs D ↔ ∃ o ∈ D, o.1 = c := by unfold cs; rw [List.mem_map]
theorem cs_nn {D : Obs} (sp : Sep D) : ∀ c ∈ cs D, 0 ≤ c := fun c hc => by
  obtain ⟨o, ho, rfl⟩ := cs_mem.mp hc
  exact (sp.ok o ho).1
theorem cs_kOf {D : Obs} (c : Int) : c ∈ kOf D ↔ c ∈ cs D := by rw [kOf_mem, cs_mem]
structure Kn (h : MH) (kd : Nat) (D : Obs) (rf : Int → Nat) : Prop where
  d : h.get kd = some (.dic (dW (cs D) fun c => .ref (rf c)))
  r : ∀ o ∈ D, h.get (rf o.1) = some (.lst o.2.2)
  inj : ∀ o ∈ D, ∀ o' ∈ D, rf o.1 = rf o'.1 → o = o'
section
variable {h h' : MH} {kd : Nat} {rf : Int → Nat} {D : Obs} {T : Int} {rts : List Int}
theorem Kn.up (K : Kn h kd D rf) (u : Up h h') : Kn h' kd D rf := ⟨u.at K.d, fun o ho => u.at (K.r o ho), K.inj⟩
theorem Kn.kp {F : List Nat} (K : Kn h kd D rf) (k : Kp F h h') (f : ∀ j ∈ F, h.n ≤ j ∨ (j ≠ kd ∧ ∀ o ∈ D, j ≠ rf o.1)) : Kn h' kd D rf :=
  ⟨k.at K.d fun z => by
    rcases f _ z with y | y
    · have := MH.get_lt K.d; omega
    · exact y.1 rfl, fun o ho => k.at (K.r o ho) fun z => by
    rcases f _ z with y | y
    · have := MH.get_lt (K.r o ho); omega
    · exact y.2 o ho rfl, K.inj⟩
def bCl : MS := gSeq (gAsg (gBM "list" lPop (gVar 3) gNil) (tgName 4)) (gIfS (gB (gBin (mInN fun b => !b) (gVar 4) (gVar 2))) (gSeq (gExpr (gBM "list" lApp (gVar 2) (gCons (gVar 4) (gNil)))) (gAsg (gBin mAdd (gVar 3) (gLc (gIter (gBin mIx (gVar 0) (gVar 4))) (.one 5) (gB (gBin (mInN fun b => b) (gVar 5) (gVar 0))) (gVar 5) [5])) (tgName 3))) (gNext))
theorem t_C1 : C1 = gWhile (gB (gBin mNeX (gVar 3) (gLst (gNil)))) bCl 100000 := by
  unfold C1 bCl
  with_reducible rfl
def mC (kd : Nat) (rv : MV) (qf qr : Nat) (o4 : Option MV) : ML := [some (.ref kd), some rv, some (.ref qf), some (.ref qr), o4, none]
theorem wds_at (sp : Sep D) (bd : Bd D T) {R : List Int} (a : ∀ c ∈ R, c ∈ cs D) : ∀ x ∈ R.map Wd, atB x = true := fun x hx => by
  obtain ⟨c, hc, rfl⟩ := List.mem_map.mp hx
  obtain ⟨o, ho, rfl⟩ := cs_mem.mp (a c hc)
  exact Wd_at (sp.ok o ho).1 (bd.big o ho)
theorem filt_cel {ks : List Int} : ∀ as : List MV, as.filter (fun a => (cel ks a).isSome) = (as.filterMap (cel ks)).map Wd
  | [] => rfl
  | a :: as => by
    rw [List.filter_cons, List.filterMap_cons, filt_cel as]
    cases e : cel ks a with
    | none => rfl
    | some c =>
      obtain ⟨_, rfl⟩ := cel_some e
      rfl
theorem fm_len {ks : List Int} (as : List MV) : (as.filterMap (cel ks)).length ≤ as.length := List.length_filterMap_le _ _
theorem cl_turn {rv : MV} {qf qr : Nat} {o4 : Option MV} {Fd R0 : List Int} {o : Obj3} (sp : Sep D) (bd : Bd D T) (K : Kn h kd D rf) (gf : h.get qf = some (.lst (Fd.map Wd))) (gr : h.get qr = some (.lst ((R0 ++ [o.1]).map Wd))) (fr : qf ≠ qr) (nf : qf ≠ kd ∧ ∀ o ∈ D, qf ≠ rf o.1) (nr : qr ≠ kd ∧ ∀ o ∈ D, qr ≠ rf o.1) (ho : o ∈ D) (sf : ∀ c ∈ Fd, c ∈ cs D) (lF : Fd.length ≤ 100) (lR : R0.length ≤ 1000) :
    ∃ h' qr', bCl (mC kd rv qf qr o4) h = .nx (mC kd rv qf qr' (some (Wd o.1))) h' ∧ Kn h' kd D rf ∧ Kp [qf, qr] h h' ∧ (qr' = qr ∨ h.n ≤ qr') ∧ h'.get qf = some (.lst ((if o.1 ∈ Fd then Fd else Fd ++ [o.1]).map Wd)) ∧ h'.get qr' = some (.lst ((if o.1 ∈ Fd then R0 else R0 ++ scs (cs D) D o.1).map Wd)) := by
  have nn := cs_nn sp
  have nF : ∀ c ∈ Fd, 0 ≤ c := fun c hc => nn c (sf c hc)
  have h0 := (sp.ok o ho).1
  have ok := sp.ok o ho
  obtain ⟨h1, eh1⟩ : ∃ h1, h1 = h.set qr (.lst (R0.map Wd)) := ⟨_, rfl⟩
  have k1 : Kp [qr] h h1 := by rw [eh1]; exact Kp.set (MH.get_lt gr) (by simp)
  have r1 : h1.get qr = some (.lst (R0.map Wd)) := by rw [eh1]; exact set_get gr
  have s1 : gAsg (gBM "list" lPop (gVar 3) gNil) (tgName 4) (mC kd rv qf qr o4) h = .nx (mC kd rv qf qr (some (Wd o.1))) h1 := by
    have ty : isTy h "list" (.ref qr) = true := by simp [isTy, gr]
    have v3 : gVar 3 (mC kd rv qf qr o4) h = .ok (.ref qr) h := rfl
    refine (asg_nx (v := Wd o.1) (h' := h1) ?_).trans rfl
    have l1 : ((R0 ++ [o.1]).map Wd)[((R0 ++ [o.1]).map Wd).length - 1]? = some (Wd o.1) := by rw [List.map_append]; simp
    have l2 : ((R0 ++ [o.1]).map Wd).dropLast = R0.map Wd := by rw [List.map_append]; simp
    simp only [gBM, v3, Out.bind, ty, if_pos, gNil, lPop, gr, l1, l2, eh1]
  have K1 := K.kp k1 (fun j hj => by rw [List.mem_singleton.mp hj]; exact .inr nr)
  have f1' := k1.at gf (by simpa using fr)
  have c2 : gB (gBin (mInN fun b => !b) (gVar 4) (gVar 2)) (mC kd rv qf qr (some (Wd o.1))) h1 = .ok (!decide (o.1 ∈ Fd)) h1 := by
    have v4 : gVar 4 (mC kd rv qf qr (some (Wd o.1))) h1 = .ok (Wd o.1) h1 := rfl
    have v2 : gVar 2 (mC kd rv qf qr (some (Wd o.1))) h1 = .ok (.ref qf) h1 := rfl
    simp only [gB, gBin, v4, v2, Out.bind, in_wds f1' nF h0]
  by_cases z : o.1 ∈ Fd
  · rw [decide_eq_true z] at c2
    rw [if_pos z, if_pos z]
    exact ⟨h1, qr, (seq_nx s1).trans ((ifS_f c2).trans rfl), K1, k1.le (by simp), .inl rfl, f1', r1⟩
  · rw [decide_eq_false z] at c2
    rw [if_neg z, if_neg z]
    obtain ⟨h2, eh2⟩ : ∃ h2, h2 = h1.set qf (.lst ((Fd ++ [o.1]).map Wd)) := ⟨_, rfl⟩
    have k2 : Kp [qf] h1 h2 := by rw [eh2]; exact Kp.set (MH.get_lt f1') (by simp)
    have f2 : h2.get qf = some (.lst ((Fd ++ [o.1]).map Wd)) := by rw [eh2]; exact set_get f1'
    have r2 := k2.at r1 (by simpa using Ne.symm fr)
    have K2 := K1.kp k2 (fun j hj => by rw [List.mem_singleton.mp hj]; exact .inr nf)
    have s2 : gExpr (gBM "list" lApp (gVar 2) (gCons (gVar 4) (gNil))) (mC kd rv qf qr (some (Wd o.1))) h1 = .nx (mC kd rv qf qr (some (Wd o.1))) h2 := by
      have ty : isTy h1 "list" (.ref qf) = true := by simp [isTy, f1']
      have v4 : gVar 4 (mC kd rv qf qr (some (Wd o.1))) h1 = .ok (Wd o.1) h1 := rfl
      have v2 : gVar 2 (mC kd rv qf qr (some (Wd o.1))) h1 = .ok (.ref qf) h1 := rfl
      have ll : (Fd.map Wd).length < 1000000 := by simp; omega
      refine expr_nx (v := .non) ?_
      simp only [gBM, v2, Out.bind, ty, if_pos, gCons, gNil, v4, lApp, f1', ll, eh2, List.map_append, List.map_cons, List.map_nil]
    have ix : gBin mIx (gVar 0) (gVar 4) (mC kd rv qf qr (some (Wd o.1))) h2 = .ok (.ref (rf o.1)) h2 := by
      have v4 : gVar 4 (mC kd rv qf qr (some (Wd o.1))) h2 = .ok (Wd o.1) h2 := rfl
      have v0 : gVar 0 (mC kd rv qf qr (some (Wd o.1))) h2 = .ok (.ref kd) h2 := rfl
      simp only [gBin, v4, v0, Out.bind, ixD K2.d nn (cs_mem.mpr ⟨o, ho, rfl⟩)]
    have ro := K2.r o ho
    obtain ⟨h3, g1, g2, u3⟩ := pick_loop (h := h2) (N := 0) (D := 0) (it := it1L (rf o.1)) (ws := o.2.2) (mw := mC kd rv qf qr (some (Wd o.1))) (sl := 5) (t := gB (gBin (mInN fun b => b) (gVar 5) (gVar 0))) (f := fun a => (cel (cs D) a).isSome) (by have := ok.2.2.2.2; omega) (fun h' u j => itL_at (u.at ro) j) (fun _ _ => rfl) (fun x hx h' u => by
      have v5 : gVar 5 ((mC kd rv qf qr (some (Wd o.1))).set 5 (some x)) h' = .ok x h' := rfl
      have v0 : gVar 0 ((mC kd rv qf qr (some (Wd o.1))).set 5 (some x)) h' = .ok (.ref kd) h' := rfl
      simp only [gB, gBin, v5, v0, Out.bind, inN (u.at K2.d) (ok.2.2.2.1 x hx)])
    rw [filt_cel, ← scs_of sp ho] at g2
    have lc : gLc (gIter (gBin mIx (gVar 0) (gVar 4))) (.one 5) (gB (gBin (mInN fun b => b) (gVar 5) (gVar 0))) (gVar 5) [5] (mC kd rv qf qr (some (Wd o.1))) h2 = .ok (.ref h2.n) h3 := by
      unfold gLc
      rw [iter_ref ix ro]
      simp only [Out.bind]
      rw [itL_size ro]
      exact g1
    have ls : (scs (cs D) D o.1).length ≤ 20 := by
      rw [scs_of sp ho]
      have := fm_len (ks := cs D) o.2.2
      have := ok.2.2.2.2
      omega
    have ad : gBin mAdd (gVar 3) (gLc (gIter (gBin mIx (gVar 0) (gVar 4))) (.one 5) (gB (gBin (mInN fun b => b) (gVar 5) (gVar 0))) (gVar 5) [5]) (mC kd rv qf qr (some (Wd o.1))) h2 = .ok (.ref h3.n) (h3.push (.lst ((R0 ++ scs (cs D) D o.1).map Wd))) := by
      have v3 : gVar 3 (mC kd rv qf qr (some (Wd o.1))) h2 = .ok (.ref qr) h2 := rfl
      rw [bin_ok v3 lc, DK.add_ok (u3.at r2) g2 (by simp; omega), List.map_append]
    have u4 : Up h3 (h3.push (.lst ((R0 ++ scs (cs D) D o.1).map Wd))) := Up.push
    have n3 := u3.n
    have n1 := k1.n
    have n2 := k2.n
    exact ⟨_, h3.n, (seq_nx s1).trans ((ifS_t c2).trans ((seq_nx s2).trans ((asg_nx ad).trans rfl))), K2.up (u3.trans u4), ((k1.le (by simp)).trans (k2.le (by simp))).trans (u3.trans u4).kp, .inr (by omega), u4.at (u3.at f2), get_top⟩
theorem closure_ok {rv : MV} (sp : Sep D) (bd : Bd D T) (lD : D.length ≤ 20) (K : Kn h kd D rf) (sq : Sq h rv (rts.map Wd)) (sub : ∀ c ∈ rts, c ∈ cs D) (lr : rts.length ≤ 20) :
    ∃ (h' : MH) (q : Nat) (Fd : List Int), m_law_closure [.ref kd, rv] h = .ok (.ref q) h' ∧ h'.get q = some (.lst (Fd.map Wd)) ∧ Fd.Nodup ∧ (∀ c, c ∈ Fd ↔ Rch (scs (cs D) D) rts c) ∧ Up h h' ∧ h.n ≤ q := by
  obtain ⟨h1, eh1⟩ : ∃ h1, h1 = h.push (.lst ([] : List MV)) := ⟨_, rfl⟩
  have u1 : Up h h1 := by rw [eh1]; exact Up.push
  have g1 : h1.get h.n = some (.lst (([] : List Int).map Wd)) := by rw [eh1]; exact get_top
  have sq1 : Sq h1 rv (rts.map Wd) := by
    cases sq with
    | tup => exact .tup _
    | ref g => exact .ref (u1.at g)
  obtain ⟨h2, eh2⟩ : ∃ h2, h2 = h1.push (.lst (rts.map Wd)) := ⟨_, rfl⟩
  have u2 : Up h1 h2 := by rw [eh2]; exact Up.push
  have g2 : h2.get h1.n = some (.lst (rts.map Wd)) := by rw [eh2]; exact get_top
  have n1 : h1.n = h.n + 1 := by rw [eh1]; rfl
  have s0 : C0 [some (.ref kd), some rv, none, none, none, none] h = .nx (mC kd rv h.n h1.n none) h2 := by
    have l1 : gLst (gNil) [some (.ref kd), some rv, none, none, none, none] h = .ok (.ref h.n) h1 := by rw [eh1]; rfl
    have l2 : gCB (f1 mList) (gCons (gVar 1) (gNil)) [some (.ref kd), some rv, none, none, none, none] h1 = .ok (.ref h1.n) h2 := by
      rw [eh2]
      exact (cb1 (x := rv) (h1 := h1) rfl).trans (list_ok sq1)
    unfold C0 gPar
    simp only [gCons, gNil] at l1 l2 ⊢
    rw [l1]
    simp only [Out.bind]
    rw [l2]
    rfl
  have nn := cs_nn sp
  have dl : (cs D).length ≤ 20 := by unfold cs; rw [List.length_map]; exact lD
  have kdl := MH.get_lt K.d
  have rl : ∀ o ∈ D, rf o.1 < h.n := fun o ho => MH.get_lt (K.r o ho)
  obtain ⟨m', h3, e3, qr, o4, Fd, rfl, g3, I3, u3⟩ := while_ind (c := gB (gBin mNeX (gVar 3) (gLst (gNil)))) (b := bCl)
    (fun n m h' => ∃ qr o4 Fd R, m = mC kd rv h.n qr o4 ∧ h'.get h.n = some (.lst (Fd.map Wd)) ∧ h'.get qr = some (.lst (R.map Wd)) ∧ h.n < qr ∧ Kn h' kd D rf ∧ Cs (scs (cs D) D) rts Fd R ∧ (∀ c ∈ Fd, c ∈ cs D) ∧ (∀ c ∈ R, c ∈ cs D) ∧ (n + 30 * Fd.length = 600 + R.length ∧ R.length ≤ 20 + 20 * Fd.length) ∧ Up h h')
    (fun m h' => ∃ qr o4 Fd, m = mC kd rv h.n qr o4 ∧ h'.get h.n = some (.lst (Fd.map Wd)) ∧ Cs (scs (cs D) D) rts Fd [] ∧ Up h h')
    (fun n m h' ⟨qr, o4, Fd, R, em, gf, gr, lq, K', I, sf, sr, ⟨ln, lnR⟩, u⟩ => by
      subst em
      have lF : Fd.length ≤ 20 := Nat.le_trans (nd_len I.nd sf) dl
      obtain ⟨h4, eh4⟩ : ∃ h4, h4 = h'.push (.lst ([] : List MV)) := ⟨_, rfl⟩
      have u4 : Up h' h4 := by rw [eh4]; exact Up.push
      have c1 : gB (gBin mNeX (gVar 3) (gLst (gNil))) (mC kd rv h.n qr o4) h' = .ok (!(R.map Wd).isEmpty) h4 := by
        have v3 : gVar 3 (mC kd rv h.n qr o4) h' = .ok (.ref qr) h' := rfl
        have l0 : gLst (gNil) (mC kd rv h.n qr o4) h' = .ok (.ref h'.n) h4 := by rw [eh4]; rfl
        unfold gB
        rw [bin_ok v3 l0, ne_nil (u4.at gr) (by rw [eh4]; exact get_top) (wds_at sp bd sr)]
        rfl
      rcases List.eq_nil_or_concat R with z | ⟨R0, c, z⟩
      · subst z
        exact .inl ⟨h4, c1, qr, o4, Fd, rfl, u4.at gf, I, u.trans u4⟩
      · rw [List.concat_eq_append] at z
        subst z
        have ne : (!((R0 ++ [c]).map Wd).isEmpty) = true := by rw [List.map_append]; simp
        rw [ne] at c1
        obtain ⟨o, ho, rfl⟩ := cs_mem.mp (sr c (by simp))
        rw [List.length_append, List.length_singleton] at ln lnR
        have nu := u.n
        obtain ⟨h5, qr', a1, a2, a3, a4, a5, a6⟩ := cl_turn (rv := rv) (o4 := o4) sp bd (K'.up u4) (u4.at gf) (u4.at gr) (by omega) ⟨by omega, fun o ho => by have := rl o ho; omega⟩ ⟨by omega, fun o ho => by have := rl o ho; omega⟩ ho sf (by omega) (by omega)
        have n4 : h4.n = h'.n + 1 := by rw [eh4]; rfl
        have u5 : Up h h5 := up_kp (u.trans u4) a3 (by simp; omega)
        have sc : ∀ d ∈ scs (cs D) D o.1, d ∈ cs D := fun d hd => by
          rw [scs_of sp ho] at hd
          obtain ⟨a, _, e⟩ := List.mem_filterMap.mp hd
          exact (cel_some e).1
        have ls : (scs (cs D) D o.1).length ≤ 20 := by
          rw [scs_of sp ho]
          have := fm_len (ks := cs D) o.2.2
          have := (sp.ok o ho).2.2.2.2
          omega
        by_cases y : o.1 ∈ Fd
        · rw [if_pos y] at a5 a6
          exact .inr ⟨h4, _, h5, n - 1, c1, a1, by omega, qr', _, Fd, R0, rfl, a5, a6, by omega, a2, I.skip y, sf, fun d hd => sr d (List.mem_append_left _ hd), ⟨by omega, by omega⟩, u5⟩
        · rw [if_neg y] at a5 a6
          have lF' : Fd.length < 20 := by
            have := nd_len (xs := Fd ++ [o.1]) (ys := cs D) (I.take y).nd (fun d hd => by
              rcases List.mem_append.mp hd with w | w
              · exact sf d w
              · rw [List.mem_singleton.mp w]; exact cs_mem.mpr ⟨o, ho, rfl⟩)
            rw [List.length_append, List.length_singleton] at this
            omega
          refine .inr ⟨h4, _, h5, n - 31 + (scs (cs D) D o.1).length, c1, a1, by omega, qr', _, Fd ++ [o.1], R0 ++ scs (cs D) D o.1, rfl, a5, a6, by omega, a2, I.take y, fun d hd => ?_, fun d hd => ?_, by rw [List.length_append, List.length_append, List.length_singleton]; exact ⟨by omega, by omega⟩, u5⟩
          · rcases List.mem_append.mp hd with w | w
            · exact sf d w
            · rw [List.mem_singleton.mp w]; exact cs_mem.mpr ⟨o, ho, rfl⟩
          · rcases List.mem_append.mp hd with w | w
            · exact sr d (List.mem_append_left _ w)
            · exact sc d w)
    100000 (600 + rts.length) (mC kd rv h.n h1.n none) h2 (by omega) ⟨h1.n, none, [], rts, rfl, u2.at g1, g2, by omega, (K.up u1).up u2, ⟨.nil, fun c hc => .inr hc, fun c hc => (by cases hc), fun c hc => by
      rcases hc with y | y
      · cases y
      · exact .root y⟩, fun c hc => (by cases hc), sub, ⟨by simp, by simp; omega⟩, u1.trans u2⟩
  refine ⟨h3, h.n, Fd, ?_, g3, I3.nd, I3.done, u3, Nat.le_refl _⟩
  rw [t_C]
  have e3' : C1 (mC kd rv h.n h1.n none) h2 = .nx (mC kd rv h.n qr o4) h3 := by rw [t_C1]; exact e3
  exact body_rt ((seq_nx s0).trans ((seq_nx e3').trans rfl))
end
end K36
set_option Elab.async false
set_option linter.all false
set_option maxRecDepth 100000
set_option maxHeartbeats 400000
namespace K36
open MI XG XM XK DK HC PySem
open L2 (atI ixN)
def S0 : MS := gRet (gLc (gIter (gCB (f1 mSortedA) (gCons (gLc (gIter (gVar 0)) (.one 2) (gYes) (gCB (f1 mIntS) (gCons (gSl (gVar 2) (gPs (gC (.int 1))) (gPn)) (gNil))) [2]) (gNil)))) (.one 1) (gYes) (gBin mAdd (gC (.str [64])) (gCB (f1 mStr) (gCons (gVar 1) (gNil)))) [1])
theorem t_S : m_law_sorted = gBody 3 (S0) := rfl
theorem cut1_wd : ∀ c : Nat, c < 100 → mcut (wd (c : Nat)) (some 1) none = itoa (c : Nat) ∧ (wd (c : Nat)).length ≤ 4 ∧ PySem.intText? ⟨(itoa (c : Nat)).toArray⟩ = some ((c : Nat) : Int) ∧ (itoa (c : Nat)).length ≤ 4 := by decide +kernel
theorem ints_of : ∀ F : List Int, intsOf (F.map MV.int) = some F
  | [] => rfl
  | c :: F => by
    show (intsOf (F.map MV.int)).map (fun l => c :: l) = _
    rw [ints_of F]; rfl
section
variable {h h' : MH} {q : Nat} {Fd : List Int}
theorem sorted_ok (g : h.get q = some (.lst (Fd.map Wd))) (nn : ∀ c ∈ Fd, 0 ≤ c ∧ c < 100) (l : Fd.length ≤ 60) :
    ∃ (h' : MH) (q' : Nat), m_law_sorted [.ref q] h = .ok (.ref q') h' ∧ h'.get q' = some (.lst ((isort Fd).map Wd)) ∧ Up h h' ∧ h.n ≤ q' := by
  let m : ML := [some (.ref q), none, none]
  obtain ⟨h1, a1, a2, u1⟩ := comp_ix (ws := Fd.map Wd) (ys := Fd.map MV.int) (sl := 2) (m := m) (h := h) (h1 := h) (gi := gIter (gVar 0)) (it := it1L q) (e := gCB (f1 mIntS) (gCons (gSl (gVar 2) (gPs (gC (.int 1))) (gPn)) (gNil))) (iter_ref rfl g) (itL_size g) (by simp; omega) (by simp) (fun h' u j => itL_at (u.at g) j) (fun j x y hx hy h' u => by
    rw [List.getElem?_map] at hx hy
    cases e : Fd[j]? with
    | none => rw [e] at hx; cases hx
    | some c =>
      rw [e] at hx hy
      cases hx
      cases hy
      obtain ⟨n0, n1⟩ := nn c (List.mem_of_getElem? e)
      obtain ⟨k, rfl⟩ : ∃ k : Nat, c = (k : Nat) := ⟨c.toNat, by omega⟩
      obtain ⟨w1, w2, w3, w4⟩ := cut1_wd k (by omega)
      refine ⟨h', ?_, .refl⟩
      have sl : gSl (gVar 2) (gPs (gC (.int 1))) (gPn) ((m.set 2 none).set 2 (some (Wd (k : Nat)))) h' = .ok (.str (itoa (k : Nat))) h' := by
        have v2 : gVar 2 ((m.set 2 none).set 2 (some (Wd (k : Nat)))) h' = .ok (.str (wd (k : Nat))) h' := rfl
        simp only [gSl, v2, gPs, gC, gPn, Out.bind, mSl]
        rw [if_pos (by omega), w1]
      rw [cb1 sl]
      unfold mIntS
      simp only []
      rw [if_pos (by omega), w3])
  have so : gCB (f1 mSortedA) (gCons (gLc (gIter (gVar 0)) (.one 2) (gYes) (gCB (f1 mIntS) (gCons (gSl (gVar 2) (gPs (gC (.int 1))) (gPn)) (gNil))) [2]) (gNil)) m h = .ok (.ref h1.n) (h1.push (.lst ((isort Fd).map MV.int))) := by
    rw [cb1 a1]
    simp only [mSortedA, a2, ints_of, Option.isSome, if_pos, mSorted]
  have g2 : (h1.push (.lst ((isort Fd).map MV.int))).get h1.n = some (.lst ((isort Fd).map MV.int)) := get_top
  have pm := isort_perm Fd
  obtain ⟨h2, b1, b2, u2⟩ := comp_ix (ws := (isort Fd).map MV.int) (ys := (isort Fd).map Wd) (sl := 1) (m := m) (h := h) (h1 := h1.push (.lst ((isort Fd).map MV.int))) (gi := gIter (gCB (f1 mSortedA) (gCons (gLc (gIter (gVar 0)) (.one 2) (gYes) (gCB (f1 mIntS) (gCons (gSl (gVar 2) (gPs (gC (.int 1))) (gPn)) (gNil))) [2]) (gNil)))) (it := it1L h1.n) (e := gBin mAdd (gC (.str [64])) (gCB (f1 mStr) (gCons (gVar 1) (gNil)))) (iter_ref so g2) (itL_size g2) (by simp [pm.length_eq]; omega) (by simp) (fun h' u j => itL_at (u.at g2) j) (fun j x y hx hy h' u => by
    rw [List.getElem?_map] at hx hy
    cases e : (isort Fd)[j]? with
    | none => rw [e] at hx; cases hx
    | some c =>
      rw [e] at hx hy
      cases hx
      cases hy
      obtain ⟨n0, n1⟩ := nn c (pm.mem_iff.mp (List.mem_of_getElem? e))
      have f1 := itoa_small n0 (c := c) (by omega)
      have f2 := itoa_len n0 (c := c) (by omega)
      refine ⟨h', ?_, .refl⟩
      have st : gCB (MI.f1 mStr) (gCons (gVar 1) (gNil)) ((m.set 1 none).set 1 (some (.int c))) h' = .ok (.str (itoa c)) h' := by
        have v1 : gVar 1 ((m.set 1 none).set 1 (some (.int c))) h' = .ok (.int c) h' := rfl
        rw [cb1 v1]
        simp only [mStr, f1, if_pos]
      rw [bin_ok (i := .str [64]) (h1 := h') rfl st]
      show (if [64].length + (itoa c).length ≤ 1000000 then Out.ok (MV.str ([64] ++ itoa c)) h' else .bad) = _
      rw [if_pos (by simp; omega)]
      rfl)
  have n1 := u1.n
  refine ⟨h2, _, ?_, b2, u1.trans (Up.push.trans u2), by show h.n ≤ h1.n + 1; omega⟩
  rw [t_S]
  refine body_rt (v := .ref _) ?_
  unfold S0 gRet
  show (gLc _ _ _ _ _ m h).bindS _ = _
  rw [b1]; rfl
end
end K36
set_option Elab.async false
set_option linter.all false
set_option maxRecDepth 100000
set_option maxHeartbeats 400000
namespace K36
open MI XG XM XK DK HC PySem
open L2 (atI ixN)
def W0 : MS := gPar 2 3 (gCons (gMake 1 m_Heap___init [] 2 (gCons (gMake 2 m_Memory___init [.ktp []] 2 gNil) (gNil))) (gCons (gDic) (gNil)))
def W1 : MS := gFor (gRng1 (gCall m_law_take [] 2 (gCons (gVar 0) (gCons (gC (.int 15)) (gNil))))) (tgName 6) (gSeq (gAsg (gMeth 1 931561046313512468589 m_Heap_make [] 3 (gVar 2) (gCons (gC (.str [114, 111, 119])) (gCons (gBin mMulB (gLst (gCons (gC .non) (gNil))) (gCall m_law_take [] 2 (gCons (gVar 0) (gCons (gC (.int 5)) (gNil))))) (gNil)))) (tgName 7)) (gAsg (gBin mMulB (gLst (gCons (gC .non) (gNil))) (gCB (f1 mLenV) (gCons (gMeth 1 2224424513438957882035929185 m_Heap_atoms [] 2 (gVar 2) (gCons (gVar 7) (gNil))) (gNil)))) (tgSub (gVar 3) (gVar 7))))
def W2 : MS := gFor (gIter (gCB (f1 mSortedA) (gCons (gVar 3) (gNil)))) (tgName 7) (gFor (gRng1 (gCB (f1 mLenV) (gCons (gBin mIx (gVar 3) (gVar 7)) (gNil)))) (tgName 1) (gSeq (gAsg (gCall m_law_of [] 2 (gCons (gVar 0) (gCons (gBin mAdd (gLst (gCons (gC .non) (gCons (gC (.int 3)) (gCons (gC (.str [120])) (gCons (gC (.str [64, 49])) (gCons (gC (.str [64, 49, 48, 48, 48])) (gNil))))))) (gBin mMulB (gC (.int 2)) (gCB (f1 mSortedA) (gCons (gVar 3) (gNil))))) (gNil)))) (tgName 5)) (gSeq (gExpr (gMeth 1 510173640654960 m_Heap_put [] 4 (gVar 2) (gCons (gVar 7) (gCons (gVar 1) (gCons (gVar 5) (gNil)))))) (gSeq (gAsg (gBin mIx (gVar 3) (gVar 7)) (tgName 4)) (gAsg (gVar 5) (tgSub (gVar 4) (gVar 1)))))))
def W3 : MS := gRet (gTup (gCons (gVar 2) (gCons (gVar 3) (gNil))))
theorem t_W : m_law_world = gBody 8 (gSeq W0 (gSeq W1 (gSeq W2 (W3)))) := rfl
def srt (ks : List Int) : List Int := (tsort (ks.map wd)).map fun s => (cel ks (.str s)).getD 0
theorem srt_mem {ks : List Int} (nn : ∀ c ∈ ks, 0 ≤ c) : (srt ks).map Wd = (tsort (ks.map wd)).map MV.str ∧ (∀ c ∈ srt ks, c ∈ ks) ∧ (srt ks).length = ks.length := by
  have key : ∀ s ∈ tsort (ks.map wd), ∃ c ∈ ks, cel ks (.str s) = some c ∧ s = wd c := fun s hs => by
    obtain ⟨c, hc, rfl⟩ := List.mem_map.mp ((tsort_perm _).mem_iff.mp hs)
    exact ⟨c, hc, by have := cel_wd nn (nn c hc); rw [if_pos hc] at this; exact this, rfl⟩
  refine ⟨?_, fun c hc => ?_, ?_⟩
  · unfold srt
    rw [List.map_map]
    refine List.map_congr_left fun s hs => ?_
    obtain ⟨c, hc, e, rfl⟩ := key s hs
    show Wd ((cel ks (.str (wd c))).getD 0) = _
    rw [e]; rfl
  · obtain ⟨s, hs, rfl⟩ := List.mem_map.mp hc
    obtain ⟨d, hd, e, rfl⟩ := key s hs
    rw [e]; exact hd
  · unfold srt
    rw [List.length_map, (tsort_perm _).length_eq, List.length_map]
theorem tkeys_dW {f : Int → MV} : ∀ ks : List Int, tkeysOf (dW ks f) = some (ks.map wd)
  | [] => rfl
  | c :: ks => by
    show (tkeysOf (dW ks f)).map (fun l => wd c :: l) = _
    rw [tkeys_dW ks]; rfl
theorem sortD_ok {h : MH} {q : Nat} {ks : List Int} {f : Int → MV} (g : h.get q = some (.dic (dW ks f))) (nn : ∀ c ∈ ks, 0 ≤ c) (l : ks.length < 60) : mSortedA (.ref q) h = .ok (.ref h.n) (h.push (.lst ((srt ks).map Wd))) := by
  rw [(srt_mem nn).1]
  cases ks with
  | nil =>
    have e : keysOf (dW [] f) = some [] := rfl
    simp only [mSortedA, g, e, Option.isSome, if_pos, mSorted]
    rfl
  | cons c ks =>
    have e : keysOf (dW (c :: ks) f) = none := rfl
    simp only [mSortedA, g, e, Option.isSome, Bool.false_eq_true, if_false, mSortedD, tkeys_dW]
    rw [if_pos (by simp at l ⊢; omega)]
structure SW (h0 h : MH) (i hp s w kd : Nat) (D : Obs) (rf : Int → Nat) (L : Nat) (p : Int) (F G : List Nat) (T f : Int) : Prop where
  bx : Box h i f
  il : i < h0.n
  x : HP 1 2 h hp s w [] D L p F G
  bd : Bd D T
  kn : Kn h kd D rf
  fF : (∀ j ∈ F, h0.n ≤ j) ∧ ∀ j ∈ G, h0.n ≤ j
  kF : kd ∉ F ∧ kd ∉ G ∧ h0.n ≤ kd
  rF : ∀ o ∈ D, rf o.1 ∉ F ∧ rf o.1 ∉ G ∧ h0.n ≤ rf o.1
  kp : Kp [i] h0 h
def mW (i hp kd : Nat) (o1 o4 o5 o6 o7 : Option MV) : ML := [some (.ref i), o1, some (.ref hp), some (.ref kd), o4, o5, o6, o7]
theorem tkc {h : MH} {i : Nat} {f : Int} {m : ML} (n : Int) (bx : Box h i f) (hn : 0 < n) (hn2 : n < 1073741824) (hf : f < 1000000000000) (m0 : m[0]? = some (some (.ref i))) :
    ∃ (c : Nat) (h1 : MH), (c : Int) < n ∧ gCall m_law_take [] 2 (gCons (gVar 0) (gCons (gC (.int n)) (gNil))) m h = .ok (.int (c : Nat)) h1 ∧ Box h1 i (f + 1) ∧ Kp [i] h h1 := tk n bx hn hn2 hf m0
theorem replB {k : Nat} {m : ML} {h h2 : MH} {e : ME} (hk : k ≤ 1000) (he : e m (h.push (.lst [.non])) = .ok (.int (k : Nat)) h2) (g : h2.get h.n = some (.lst [.non])) : gBin mMulB (gLst (gCons (gC .non) (gNil))) e m h = .ok (.ref h2.n) (h2.push (.lst (List.replicate k .non))) := by
  have r := repl1_ok (x := .non) (m := m) (h := h) (h1 := h) (a := gC .non) hk rfl he g
  have l1 : gLst (gCons (gC .non) gNil) m h = .ok (.ref h.n) (h.push (.lst [.non])) := rfl
  rw [bin_ok l1 he] at r ⊢
  exact r
def bW1 : MS := gSeq (gAsg (gMeth 1 931561046313512468589 m_Heap_make [] 3 (gVar 2) (gCons (gC (.str [114, 111, 119])) (gCons (gBin mMulB (gLst (gCons (gC .non) (gNil))) (gCall m_law_take [] 2 (gCons (gVar 0) (gCons (gC (.int 5)) (gNil))))) (gNil)))) (tgName 7)) (gAsg (gBin mMulB (gLst (gCons (gC .non) (gNil))) (gCB (f1 mLenV) (gCons (gMeth 1 2224424513438957882035929185 m_Heap_atoms [] 2 (gVar 2) (gCons (gVar 7) (gNil))) (gNil)))) (tgSub (gVar 3) (gVar 7)))
theorem t_W1 : W1 = gFor (gRng1 (gCall m_law_take [] 2 (gCons (gVar 0) (gCons (gC (.int 15)) (gNil))))) (tgName 6) bW1 := by
  unfold W1 bW1
  with_reducible rfl
section
variable {h0 h h' : MH} {i hp s w kd L : Nat} {D : Obs} {rf : Int → Nat} {p T f : Int} {F G : List Nat}
theorem make_turn {o6 o7 : Option MV} (S : SW h0 h i hp s w kd D rf L p F G T f) (hT : 0 ≤ T) (hT2 : T < 300) (hD : D.length < 50) (hL : L + 600 < 1000000) (hf : f < 100000000000) :
    ∃ h' D' rf' p' F' G' o7', bW1 (mW i hp kd none none none o6 o7) h = .nx (mW i hp kd none none none o6 o7') h' ∧ SW h0 h' i hp s w kd D' rf' (L + 50) p' F' G' (T + 6) (f + 1) ∧ D'.length = D.length + 1 := by
  obtain ⟨m, em⟩ : ∃ m, m = mW i hp kd none none none o6 o7 := ⟨_, rfl⟩
  have hi := S.bx.lt
  have sp := S.x.mw.sep
  have n0 := S.kp.n
  have il := S.il
  have lt := S.x.lt
  have iF : i ∉ F ∧ i ∉ G := ⟨fun z => by have := S.fF.1 i z; omega, fun z => by have := S.fF.2 i z; omega⟩
  -- the row that is given
  have u0 : Up h (h.push (.lst [.non])) := Up.push
  obtain ⟨n, h1, n5, t1, bx1, k1⟩ := tkc (m := m) 5 (S.bx.up u0) (by decide) (by decide) (by omega) (by rw [em]; rfl)
  have e1 := replB (k := n) (by omega) t1 (k1.at get_top (by simp; omega))
  obtain ⟨h2, eh2⟩ : ∃ h2, h2 = h1.push (.lst (List.replicate n MV.non)) := ⟨_, rfl⟩
  rw [← eh2] at e1
  have u2 : Up h1 h2 := by rw [eh2]; exact Up.push
  have g2 : h2.get h1.n = some (.lst (List.replicate n .non)) := by rw [eh2]; exact get_top
  have k02 : Kp [i] h h2 := (u0.kp.trans k1).trans u2.kp
  have X2 := S.x.kp k02 (fun j hj => by rw [List.mem_singleton.mp hj]; exact iF.1) (fun j hj => by rw [List.mem_singleton.mp hj]; exact iF.2)
  have k1n := k1.n
  have pn : (h.push (.lst [MV.non])).n = h.n + 1 := rfl
  obtain ⟨h3, F', G', p', c, a1, a2, Y3, t3, c0, cT, sp3⟩ := make_x X2 S.bd (k := .str [114, 111, 119]) (v := .ref h1.n) (xs := List.replicate n .non) (.ref g2) (fun q e => by
    cases e
    exact ⟨fun z => by have := lt.1 _ z; omega, fun z => by have := lt.2 _ z; omega⟩) (by simp; omega) (by decide) (fun z => by cases z) (fun x hx => by rw [List.eq_of_mem_replicate hx]; rfl) hT (by omega) (by omega) hL
  obtain ⟨o, eo⟩ : ∃ o : Obj3, o = (c, .str [114, 111, 119], List.replicate n .non) := ⟨_, rfl⟩
  rw [← eo] at Y3 t3 sp3
  have oD : o ∈ D ++ [o] := by simp
  have o1 : o.1 = c := by rw [eo]
  have o2 : o.2.2 = List.replicate n .non := by rw [eo]
  have so : sz o = 2 + n := by unfold sz; rw [o2]; simp
  obtain ⟨m1, em1⟩ : ∃ m1, m1 = mW i hp kd none none none o6 (some (Wd c)) := ⟨_, rfl⟩
  obtain ⟨fs0, ih0, lk0⟩ := S.x.hw.ih
  have s1 : gAsg (gMeth 1 931561046313512468589 m_Heap_make [] 3 (gVar 2) (gCons (gC (.str [114, 111, 119])) (gCons (gBin mMulB (gLst (gCons (gC .non) (gNil))) (gCall m_law_take [] 2 (gCons (gVar 0) (gCons (gC (.int 5)) (gNil))))) (gNil)))) (tgName 7) m h = .nx m1 h3 :=
    (asg_nx ((meth2 (n := 3) (h1 := h) (h2 := h) (h3 := h2) (x := .str [114, 111, 119]) (by rw [em]; rfl) ih0 (lk0 931561046313512468589 (by decide)) rfl e1 rfl).trans a1)).trans (by rw [em, em1]; rfl)
  -- the row that the law knows
  have bd3 : Bd (D ++ [o]) (T + 6) := ⟨by rw [List.length_append, List.length_singleton]; omega, fun x hx => by
    rcases List.mem_append.mp hx with y | y
    · have := S.bd.e x y; omega
    · rw [List.mem_singleton.mp y, o1, so]; omega, by omega⟩
  have u3 : Up h3 (h3.push (.lst [.non])) := Up.push
  obtain ⟨h4, b1, u4⟩ := atoms_q (eO := 3) (Y3.up u3) bd3 oD
  rw [o1, o2] at b1
  obtain ⟨fs1, ih1, lk1⟩ := (Y3.up u3).ih
  have len : gCB (f1 mLenV) (gCons (gMeth 1 2224424513438957882035929185 m_Heap_atoms [] 2 (gVar 2) (gCons (gVar 7) (gNil))) (gNil)) m1 (h3.push (.lst [.non])) = .ok (.int (n : Nat)) h4 := by
    have e := (meth1 (n := 2) (g := m_Heap_atoms) (o := gVar 2) (a := gVar 7) (m := m1) (h1 := h3.push (.lst [.non])) (h2 := h3.push (.lst [.non])) (x := Wd c) (by rw [em1]; rfl) ih1 (lk1 2224424513438957882035929185 (by decide)) (by rw [em1]; rfl) rfl).trans b1
    have l := (Sq.tup (h := h4) (List.replicate n MV.non)).len
    rw [List.length_replicate] at l
    exact (cb1 e).trans l
  have e2 := replB (k := n) (by omega) len (u4.at get_top)
  obtain ⟨h5, eh5⟩ : ∃ h5, h5 = h4.push (.lst (List.replicate n MV.non)) := ⟨_, rfl⟩
  rw [← eh5] at e2
  have u5 : Up h4 h5 := by rw [eh5]; exact Up.push
  have g5 : h5.get h4.n = some (.lst (List.replicate n .non)) := by rw [eh5]; exact get_top
  have u35 : Up h3 h5 := u3.trans (u4.trans u5)
  have K2 := S.kn.kp k02 (fun j hj => by rw [List.mem_singleton.mp hj]; exact .inr ⟨by have := S.kF.2.2; omega, fun o ho => by have := (S.rF o ho).2.2; omega⟩)
  have kd2 := k02.n
  have kd3 := t3.at K2.d S.kF.1 S.kF.2.1
  have r3 : ∀ x ∈ D, h3.get (rf x.1) = some (.lst x.2.2) ∧ rf x.1 ∉ F' ∧ rf x.1 ∉ G' := fun x hx => t3.at (K2.r x hx) (S.rF x hx).1 (S.rF x hx).2.1
  have nn := cs_nn sp
  have cn : c ∉ cs D := fun z => by
    obtain ⟨x, hx, ex⟩ := cs_mem.mp z
    have pw := List.pairwise_append.mp sp3.pw
    have := pw.2.2 x hx o (by simp)
    have s1 := sz_pos x
    have s2 := sz_pos o
    rcases this with y | y <;> omega
  have lD : (cs D).length < 1000 := by unfold cs; rw [List.length_map]; omega
  have s2 := putD_new (ed := gVar 3) (ek := gVar 7) (m := m1) nn c0 cn lD e2 (by rw [em1]; rfl) (by rw [em1]; rfl) (u35.at kd3.1)
  have kp5 : Kp [kd] h5 (h5.set kd (.dic (dW (cs D) (fun c => .ref (rf c)) ++ [(.inr (wd c), .ref h4.n)]))) := Kp.set (MH.get_lt (u35.at kd3.1)) (by simp)
  obtain ⟨h6, eh6⟩ : ∃ h6, h6 = h5.set kd (.dic (dW (cs D) (fun c => .ref (rf c)) ++ [(.inr (wd c), .ref h4.n)])) := ⟨_, rfl⟩
  rw [← eh6] at s2 kp5
  have k6 : h6.get kd = some (.dic (dW (cs D) (fun c => .ref (rf c)) ++ [(.inr (wd c), .ref h4.n)])) := by rw [eh6]; exact set_get (u35.at kd3.1)
  obtain ⟨rf', erf⟩ : ∃ rf' : Int → Nat, rf' = fun x => if x = c then h4.n else rf x := ⟨_, rfl⟩
  have rfo : rf' c = h4.n := by rw [erf]; exact if_pos rfl
  have rfx : ∀ x ∈ D, rf' x.1 = rf x.1 := fun x hx => by
    rw [erf]
    exact if_neg fun z => cn (cs_mem.mpr ⟨x, hx, z⟩)
  have dk : dW (cs D) (fun c => .ref (rf c)) ++ [(.inr (wd c), .ref h4.n)] = dW (cs (D ++ [o])) fun c => .ref (rf' c) := by
    unfold cs dW
    rw [List.map_append, List.map_append]
    simp only [List.map_cons, List.map_nil]
    rw [o1, rfo]
    congr 1
    rw [List.map_map, List.map_map]
    exact List.map_congr_left fun x hx => by show (_, MV.ref (rf x.1)) = (_, MV.ref (rf' x.1)); rw [rfx x hx]
  rw [dk] at k6
  have n3 := t3.kp.n
  have n35 := u35.n
  have n34 := (u3.trans u4).n
  have kl : kd < h.n := MH.get_lt S.kn.d
  have rl : ∀ x ∈ D, rf x.1 < h.n := fun x hx => MH.get_lt (S.kn.r x hx)
  have ne6 : ∀ {j o}, h5.get j = some (.lst o) → h6.get j = some (.lst o) := fun {j o} g => kp5.at g fun z => by
    rw [List.mem_singleton.mp z] at g
    rw [u35.at kd3.1] at g
    cases g
  have y3 := Y3.x.lt
  refine ⟨h6, D ++ [o], rf', p', F', G', some (Wd c), ?_, ⟨?_, S.il, ?_, bd3, ⟨k6, fun x hx => ?_, fun x hx y hy e => ?_⟩, ⟨fun j hj => ?_, fun j hj => ?_⟩, ⟨kd3.2.1, kd3.2.2, S.kF.2.2⟩, fun x hx => ?_, ?_⟩, by simp⟩
  · rw [← em]
    unfold bW1
    exact (seq_nx s1).trans (s2.trans (by rw [em1]))
  · have i2 : i ∉ F ++ G := fun z => by rcases List.mem_append.mp z with y | y; exact iF.1 y; exact iF.2 y
    obtain ⟨a, b, e, q1, q2, q3⟩ := bx1.up u2
    exact ⟨a, b, e, ne6 (u35.at (t3.kp.at q1 i2)), q2, q3⟩
  · exact (Y3.up u35).x.kp kp5 (fun j hj => by rw [List.mem_singleton.mp hj]; exact kd3.2.1) (fun j hj => by rw [List.mem_singleton.mp hj]; exact kd3.2.2)
  · rcases List.mem_append.mp hx with y | y
    · rw [rfx x y]; exact ne6 (u35.at (r3 x y).1)
    · rw [List.mem_singleton.mp y, o1, rfo, o2]; exact ne6 g5
  · rcases List.mem_append.mp hx with zx | zx <;> rcases List.mem_append.mp hy with zy | zy
    · rw [rfx x zx, rfx y zy] at e; exact S.kn.inj x zx y zy e
    · rw [rfx x zx, List.mem_singleton.mp zy, o1, rfo] at e
      have := rl x zx; omega
    · rw [rfx y zy, List.mem_singleton.mp zx, o1, rfo] at e
      have := rl y zy; omega
    · rw [List.mem_singleton.mp zx, List.mem_singleton.mp zy]
  · rcases t3.f j hj with y | y
    · exact S.fF.1 j y
    · omega
  · rcases t3.g j hj with y | y
    · exact S.fF.2 j y
    · omega
  · rcases List.mem_append.mp hx with y | y
    · rw [rfx x y]; exact ⟨(r3 x y).2.1, (r3 x y).2.2, (S.rF x y).2.2⟩
    · rw [List.mem_singleton.mp y, o1, rfo]
      exact ⟨fun z => by have := y3.1 _ z; omega, fun z => by have := y3.2 _ z; omega, by omega⟩
  · have old : ∀ j ∈ F ++ G, h0.n ≤ j := fun j hj => by rcases List.mem_append.mp hj with y | y; exact S.fF.1 j y; exact S.fF.2 j y
    exact ⟨by have := kp5.n; omega, fun j hj hf => by
      rw [kp5.get j (by omega) (by simp; have := S.kF.2.2; omega), u35.get j (by omega), t3.kp.get j (by omega) (fun z => by have := old j z; omega), k02.get j (by omega) hf, S.kp.get j hj hf]⟩
end
end K36
set_option Elab.async false
set_option linter.all false
set_option maxRecDepth 100000
set_option maxHeartbeats 400000
namespace K36
open MI XG XM XK DK HC PySem
open L2 (atI ixN)
def bW2 : MS := gSeq (gAsg (gCall m_law_of [] 2 (gCons (gVar 0) (gCons (gBin mAdd (gLst (gCons (gC .non) (gCons (gC (.int 3)) (gCons (gC (.str [120])) (gCons (gC (.str [64, 49])) (gCons (gC (.str [64, 49, 48, 48, 48])) (gNil))))))) (gBin mMulB (gC (.int 2)) (gCB (f1 mSortedA) (gCons (gVar 3) (gNil))))) (gNil)))) (tgName 5)) (gSeq (gExpr (gMeth 1 510173640654960 m_Heap_put [] 4 (gVar 2) (gCons (gVar 7) (gCons (gVar 1) (gCons (gVar 5) (gNil)))))) (gSeq (gAsg (gBin mIx (gVar 3) (gVar 7)) (tgName 4)) (gAsg (gVar 5) (tgSub (gVar 4) (gVar 1)))))
def bW3 : MS := gFor (gRng1 (gCB (f1 mLenV) (gCons (gBin mIx (gVar 3) (gVar 7)) (gNil)))) (tgName 1) bW2
theorem t_W2 : W2 = gFor (gIter (gCB (f1 mSortedA) (gCons (gVar 3) (gNil)))) (tgName 7) bW3 := by
  unfold W2 bW3 bW2
  with_reducible rfl
theorem cs_put {c : Int} {k : Nat} {a : MV} {D : Obs} : cs (putD c k a D) = cs D := by
  unfold cs putD
  rw [List.map_map]
  refine List.map_congr_left fun o _ => ?_
  show (if o.1 = c then (o.1, o.2.1, o.2.2.set k a) else o).1 = o.1
  split <;> rfl
theorem put_mem {c : Int} {k : Nat} {a : MV} {D : Obs} {x : Obj3} (hx : x ∈ putD c k a D) : ∃ y ∈ D, x = put1 c k a y := by
  rw [putD_eq] at hx
  obtain ⟨y, hy, e⟩ := List.mem_map.mp hx
  exact ⟨y, hy, e.symm⟩
theorem meth3 {c f n : Nat} {g : MF} {o a b d : ME} {m : ML} {h h1 h2 h3 h4 : MH} {i : Nat} {fs : List (Nat × MV)} {x y z : MV} (eo : o m h = .ok (.ref i) h1) (hi : h1.get i = some (.ins c fs)) (l : fs.lookup f = none) (ea : a m h1 = .ok x h2) (eb : b m h2 = .ok y h3) (ed : d m h3 = .ok z h4) (hn : n = 4) : gMeth c f g [] n o (gCons a (gCons b (gCons d gNil))) m h = g [.ref i, x, y, z] h4 := by
  subst hn
  simp [gMeth, eo, Out.bind, hi, l, gCons, gNil, ea, eb, ed]
section
variable {h0 h h' : MH} {i hp s w kd L : Nat} {D : Obs} {rf : Int → Nat} {p T f : Int} {F G : List Nat}
theorem put_turn {k : Nat} {o4 o5 o6 : Option MV} {o : Obj3} (S : SW h0 h i hp s w kd D rf L p F G T f) (hT2 : T < 300) (hD : D.length < 50) (hL : L + 600 < 1000000) (hf : f < 100000000000) (ho : o ∈ D) (hk : k < o.2.2.length) :
    ∃ h' a p' F' G' o4' o5', bW2 (mW i hp kd (some (.int (k : Nat))) o4 o5 o6 (some (Wd o.1))) h = .nx (mW i hp kd (some (.int (k : Nat))) o4' o5' o6 (some (Wd o.1))) h' ∧ SW h0 h' i hp s w kd (putD o.1 k a D) rf (L + 2) p' F' G' T (f + 1) ∧ (∀ j x, h.get j = some x → j ∉ F → j ∉ G → j ≠ i → (∀ o ∈ D, j ≠ rf o.1) → h'.get j = some x ∧ j ∉ F' ∧ j ∉ G') := by
  have hi := S.bx.lt
  have sp := S.x.mw.sep
  have nn := cs_nn sp
  have n0 := S.kp.n
  have il := S.il
  have lt := S.x.lt
  have iF : i ∉ F ∧ i ∉ G := ⟨fun z => by have := S.fF.1 i z; omega, fun z => by have := S.fF.2 i z; omega⟩
  have lc : (cs D).length < 60 := by unfold cs; rw [List.length_map]; omega
  obtain ⟨m, em⟩ : ∃ m, m = mW i hp kd (some (.int (k : Nat))) o4 o5 o6 (some (Wd o.1)) := ⟨_, rfl⟩
  -- what there is to choose from
  obtain ⟨hd, ehd⟩ : ∃ hd : List MV, hd = [.non, .int 3, .str [120], .str [64, 49], .str [64, 49, 48, 48, 48]] := ⟨_, rfl⟩
  obtain ⟨h1, eh1⟩ : ∃ h1, h1 = h.push (.lst hd) := ⟨_, rfl⟩
  have u1 : Up h h1 := by rw [eh1]; exact Up.push
  have g1 : h1.get h.n = some (.lst hd) := by rw [eh1]; exact get_top
  have l1 : gLst (gCons (gC .non) (gCons (gC (.int 3)) (gCons (gC (.str [120])) (gCons (gC (.str [64, 49])) (gCons (gC (.str [64, 49, 48, 48, 48])) (gNil)))))) m h = .ok (.ref h.n) h1 := by rw [eh1, ehd]; rfl
  have so := sortD_ok (u1.at S.kn.d) nn lc
  obtain ⟨h2, eh2⟩ : ∃ h2, h2 = h1.push (.lst ((srt (cs D)).map Wd)) := ⟨_, rfl⟩
  have u2 : Up h1 h2 := by rw [eh2]; exact Up.push
  have g2 : h2.get h1.n = some (.lst ((srt (cs D)).map Wd)) := by rw [eh2]; exact get_top
  rw [← eh2] at so
  have so' : gCB (f1 mSortedA) (gCons (gVar 3) (gNil)) m h1 = .ok (.ref h1.n) h2 := (cb1 (x := .ref kd) (h1 := h1) (by rw [em]; rfl)).trans so
  obtain ⟨sm1, sm2, sm3⟩ := srt_mem nn
  obtain ⟨h3, eh3⟩ : ∃ h3, h3 = h2.push (.lst (reps ((srt (cs D)).map Wd) 2)) := ⟨_, rfl⟩
  have u3 : Up h2 h3 := by rw [eh3]; exact Up.push
  have g3 : h3.get h2.n = some (.lst (reps ((srt (cs D)).map Wd) 2)) := by rw [eh3]; exact get_top
  have mu : gBin mMulB (gC (.int 2)) (gCB (f1 mSortedA) (gCons (gVar 3) (gNil))) m h1 = .ok (.ref h2.n) h3 := by
    rw [bin_ok (i := .int 2) (h1 := h1) rfl so']
    unfold mMulB
    rw [if_pos (show isRep (.ref h1.n) = true from rfl)]
    simp only [mRepR, g2]
    rw [if_pos ⟨by decide, by decide, by simp; omega⟩, eh3]
    rfl
  have lr : (reps ((srt (cs D)).map Wd) 2).length ≤ 200 := by
    show ((srt (cs D)).map Wd ++ ((srt (cs D)).map Wd ++ [])).length ≤ 200
    simp; omega
  obtain ⟨h4, eh4⟩ : ∃ h4, h4 = h3.push (.lst (hd ++ reps ((srt (cs D)).map Wd) 2)) := ⟨_, rfl⟩
  have u4 : Up h3 h4 := by rw [eh4]; exact Up.push
  have g4 : h4.get h3.n = some (.lst (hd ++ reps ((srt (cs D)).map Wd) 2)) := by rw [eh4]; exact get_top
  have ad := bin_ok (g := mAdd) l1 mu
  rw [DK.add_ok (u3.at (u2.at g1)) g3 (by rw [ehd]; simp; omega), ← eh4] at ad
  have u04 : Up h h4 := u1.trans (u2.trans (u3.trans u4))
  have n3 := (u1.trans (u2.trans u3)).n
  obtain ⟨a, h5, a1, a2, a3, a4, a5⟩ := of_ok (v := .ref h3.n) (S.bx.up u04) (.ref g4) (fun q e => by cases e; omega) (by rw [ehd]; simp) (by rw [ehd]; simp; omega) (by omega)
  have aB : atB a = true := by
    rcases List.mem_append.mp a2 with z | z
    · have : ∀ x ∈ hd, atB x = true := by rw [ehd]; decide
      exact this a z
    · have z' : a ∈ (srt (cs D)).map Wd := by
        have : a ∈ (srt (cs D)).map Wd ++ ((srt (cs D)).map Wd ++ []) := z
        simpa using this
      obtain ⟨c, hc, rfl⟩ := List.mem_map.mp z'
      obtain ⟨x, hx, rfl⟩ := cs_mem.mp (sm2 c hc)
      exact Wd_at (sp.ok x hx).1 (S.bd.big x hx)
  obtain ⟨m1, em1⟩ : ∃ m1, m1 = mW i hp kd (some (.int (k : Nat))) o4 (some a) o6 (some (Wd o.1)) := ⟨_, rfl⟩
  have s1 : gAsg (gCall m_law_of [] 2 (gCons (gVar 0) (gCons (gBin mAdd (gLst (gCons (gC .non) (gCons (gC (.int 3)) (gCons (gC (.str [120])) (gCons (gC (.str [64, 49])) (gCons (gC (.str [64, 49, 48, 48, 48])) (gNil))))))) (gBin mMulB (gC (.int 2)) (gCB (f1 mSortedA) (gCons (gVar 3) (gNil))))) (gNil)))) (tgName 5) m h = .nx m1 h5 :=
    (asg_nx ((call2 (n := 2) (x := .ref i) (y := .ref h3.n) (h1 := h) (h2 := h4) (by rw [em]; rfl) ad rfl).trans a1)).trans (by rw [em, em1]; rfl)
  have k05 : Kp [i] h h5 := u04.kp.trans a4
  have X5 := S.x.kp k05 (fun j hj => by rw [List.mem_singleton.mp hj]; exact iF.1) (fun j hj => by rw [List.mem_singleton.mp hj]; exact iF.2)
  obtain ⟨h6, F', G', p', b1, Y6, t6⟩ := put_0 (eO := 3) (eP := 4) (bP := gBadS) X5 S.bd ho hk aB hL
  obtain ⟨fs0, ih0, lk0⟩ := X5.hw.ih
  have s2 : gExpr (gMeth 1 510173640654960 m_Heap_put [] 4 (gVar 2) (gCons (gVar 7) (gCons (gVar 1) (gCons (gVar 5) (gNil))))) m1 h5 = .nx m1 h6 :=
    expr_nx ((meth3 (n := 4) (h1 := h5) (h2 := h5) (h3 := h5) (h4 := h5) (x := Wd o.1) (y := .int (k : Nat)) (z := a) (by rw [em1]; rfl) ih0 (lk0 510173640654960 (by decide)) (by rw [em1]; rfl) (by rw [em1]; rfl) (by rw [em1]; rfl) rfl).trans b1)
  have K5 := S.kn.kp k05 (fun j hj => by rw [List.mem_singleton.mp hj]; exact .inr ⟨by have := S.kF.2.2; omega, fun o ho => by have := (S.rF o ho).2.2; omega⟩)
  have kd6 := t6.at K5.d S.kF.1 S.kF.2.1
  have r6 : ∀ x ∈ D, h6.get (rf x.1) = some (.lst x.2.2) ∧ rf x.1 ∉ F' ∧ rf x.1 ∉ G' := fun x hx => t6.at (K5.r x hx) (S.rF x hx).1 (S.rF x hx).2.1
  obtain ⟨m2, em2⟩ : ∃ m2, m2 = mW i hp kd (some (.int (k : Nat))) (some (.ref (rf o.1))) (some a) o6 (some (Wd o.1)) := ⟨_, rfl⟩
  have s3 : gAsg (gBin mIx (gVar 3) (gVar 7)) (tgName 4) m1 h6 = .nx m2 h6 := by
    refine (asg_nx (v := .ref (rf o.1)) (h' := h6) ?_).trans (by rw [em1, em2]; rfl)
    rw [bin_ok (i := .ref kd) (j := Wd o.1) (h1 := h6) (h2 := h6) (by rw [em1]; rfl) (by rw [em1]; rfl), ixD kd6.1 nn (cs_mem.mpr ⟨o, ho, rfl⟩)]
  obtain ⟨h7, eh7⟩ : ∃ h7, h7 = h6.set (rf o.1) (.lst (o.2.2.set k a)) := ⟨_, rfl⟩
  have ro := (r6 o ho).1
  have k7 : Kp [rf o.1] h6 h7 := by rw [eh7]; exact Kp.set (MH.get_lt ro) (by simp)
  have g7 : h7.get (rf o.1) = some (.lst (o.2.2.set k a)) := by rw [eh7]; exact set_get ro
  have s4 : gAsg (gVar 5) (tgSub (gVar 4) (gVar 1)) m2 h6 = .nx m2 h7 := by
    have ix : ixN o.2.2.length (k : Nat) = some k := by
      unfold ixN
      rw [if_pos (by omega), if_pos (by omega)]; rfl
    have v5 : gVar 5 m2 h6 = .ok a h6 := by rw [em2]; rfl
    have v4 : gVar 4 m2 h6 = .ok (.ref (rf o.1)) h6 := by rw [em2]; rfl
    have v1 : gVar 1 m2 h6 = .ok (.int (k : Nat)) h6 := by rw [em2]; rfl
    unfold gAsg
    rw [v5]
    simp only [Out.bindS, tgSub, v4, v1, putM, isD, ro, Bool.false_eq_true, if_false, ix, eh7]
    rfl
  have ne7 : ∀ {j x}, h6.get j = some x → (∀ xs, x ≠ .lst xs) → h7.get j = some x := fun {j x} g n => k7.at g fun z => by
    rw [List.mem_singleton.mp z, ro] at g
    exact n _ (Option.some.inj g).symm
  have i2 : i ∉ F ++ G := fun z => by rcases List.mem_append.mp z with y | y; exact iF.1 y; exact iF.2 y
  have ir : i ≠ rf o.1 := by have := (S.rF o ho).2.2; omega
  have n5 := k05.n
  have n6 := t6.kp.n
  refine ⟨h7, a, p', F', G', some (.ref (rf o.1)), some a, ?_, ⟨?_, S.il, ?_, ⟨?_, ?_, S.bd.t⟩, ⟨?_, fun x hx => ?_, fun x hx y hy e => ?_⟩, ⟨fun j hj => ?_, fun j hj => ?_⟩, ⟨kd6.2.1, kd6.2.2, S.kF.2.2⟩, fun x hx => ?_, ?_⟩, fun j x gj jF jG ji jr => ?_⟩
  · rw [← em]
    unfold bW2
    exact (seq_nx s1).trans ((seq_nx s2).trans ((seq_nx s3).trans (s4.trans (by rw [em2]))))
  · obtain ⟨x, b, e, q1, q2, q3⟩ := a3
    exact ⟨x, b, e, k7.at (t6.kp.at q1 i2) (by simpa using ir), q2, q3⟩
  · exact (Y6.x).kp k7 (fun j hj => by rw [List.mem_singleton.mp hj]; exact (r6 o ho).2.1) (fun j hj => by rw [List.mem_singleton.mp hj]; exact (r6 o ho).2.2)
  · have : (putD o.1 k a D).length = D.length := by unfold putD; rw [List.length_map]
    rw [this]; exact S.bd.n
  · intro x hx
    obtain ⟨y, hy, rfl⟩ := put_mem hx
    have := put1_fst (c := o.1) (k := k) (a := a) (o := y)
    rw [this.1, this.2.1]
    exact S.bd.e y hy
  · rw [cs_put]
    exact ne7 kd6.1 fun xs z => by cases z
  · obtain ⟨y, hy, rfl⟩ := put_mem hx
    rw [(put1_fst (c := o.1) (k := k) (a := a) (o := y)).1]
    by_cases z : y.1 = o.1
    · have : y = o := sp.same hy ho z
      subst this
      have e : (put1 y.1 k a y).2.2 = y.2.2.set k a := by unfold put1; rw [if_pos rfl]
      rw [e]; exact g7
    · have e : put1 o.1 k a y = y := by unfold put1; rw [if_neg z]
      rw [e]
      exact k7.at (r6 y hy).1 (by
        simp only [List.mem_singleton]
        intro q
        exact z (by rw [S.kn.inj y hy o ho q]))
  · obtain ⟨x', hx', rfl⟩ := put_mem hx
    obtain ⟨y', hy', rfl⟩ := put_mem hy
    rw [(put1_fst (c := o.1) (k := k) (a := a) (o := x')).1, (put1_fst (c := o.1) (k := k) (a := a) (o := y')).1] at e
    rw [S.kn.inj x' hx' y' hy' e]
  · rcases t6.f j hj with y | y
    · exact S.fF.1 j y
    · omega
  · rcases t6.g j hj with y | y
    · exact S.fF.2 j y
    · omega
  · obtain ⟨y, hy, rfl⟩ := put_mem hx
    rw [(put1_fst (c := o.1) (k := k) (a := a) (o := y)).1]
    exact ⟨(r6 y hy).2.1, (r6 y hy).2.2, (S.rF y hy).2.2⟩
  · have old : ∀ j ∈ F ++ G, h0.n ≤ j := fun j hj => by rcases List.mem_append.mp hj with y | y; exact S.fF.1 j y; exact S.fF.2 j y
    exact ⟨by have := k7.n; omega, fun j hj hf => by
      rw [k7.get j (by omega) (by simp; have := (S.rF o ho).2.2; omega), t6.kp.get j (by omega) (fun z => by have := old j z; omega), k05.get j (by omega) hf, S.kp.get j hj hf]⟩
  · have q5 := k05.at gj (by simpa using ji)
    obtain ⟨q6, qf, qg⟩ := t6.at q5 jF jG
    exact ⟨k7.at q6 (by simpa using jr o ho), qf, qg⟩
end
end K36
set_option Elab.async false
set_option linter.all false
set_option maxRecDepth 100000
set_option maxHeartbeats 400000
namespace K36
open MI XG XM XK DK HC PySem
open L2 (atI ixN)
theorem make1g {C n : Nat} {g : MF} {a : ME} {m : ML} {h h1 h2 : MH} {x : MV} (ea : a m h = .ok x h1) (eg : g [.ref h1.n, x] (h1.push (.ins C [])) = .ok .non h2) (hn : n = 2) : gMake C g [] n (gCons a gNil) m h = .ok (.ref h1.n) h2 := by
  subst hn
  simp [gMake, gCons, gNil, ea, Out.bind, eg]
theorem par2_ok {i j : Nat} {a b : ME} {m : ML} {h h1 h2 : MH} {x y : MV} (ea : a m h = .ok x h1) (eb : b m h1 = .ok y h2) : gPar i j (gCons a (gCons b gNil)) m h = .nx ((m.set i (some x)).set j (some y)) h2 := by
  unfold gPar
  simp only [gCons, gNil, ea, eb, Out.bind, Out.bindS]
section
variable {h0 h h' : MH} {i hp s w kd L : Nat} {D : Obs} {rf : Int → Nat} {p T f : Int} {F G : List Nat}
theorem SW.le {L' : Nat} {f' : Int} (S : SW h0 h i hp s w kd D rf L p F G T f) (l : L ≤ L') (g : f ≤ f') : SW h0 h i hp s w kd D rf L' p F G T f' := ⟨S.bx.le g, S.il, S.x.le l, S.bd, S.kn, S.fF, S.kF, S.rF, S.kp⟩
theorem SW.ups (S : SW h0 h i hp s w kd D rf L p F G T f) (u : Up h h') : SW h0 h' i hp s w kd D rf L p F G T f := ⟨S.bx.up u, S.il, S.x.up u, S.bd, S.kn.up u, S.fF, S.kF, S.rF, S.kp.trans u.kp⟩
theorem row_turn {q : Nat} {Z : List MV} {o1 o4 o5 o6 : Option MV} {o : Obj3} (S : SW h0 h i hp s w kd D rf L p F G T f) (hT2 : T < 300) (hD : D.length < 50) (hL : L + 800 < 1000000) (hf : f + 100 < 100000000000) (ho : o ∈ D) (gq : h.get q = some (.lst Z)) (nq : q ∉ F ∧ q ∉ G ∧ q ≠ i ∧ ∀ c, q ≠ rf c ∨ c ∉ cs D) :
    ∃ h' D' p' F' G' o1' o4' o5', bW3 (mW i hp kd o1 o4 o5 o6 (some (Wd o.1))) h = .nx (mW i hp kd o1' o4' o5' o6 (some (Wd o.1))) h' ∧ SW h0 h' i hp s w kd D' rf (L + 40) p' F' G' T (f + 20) ∧ cs D' = cs D ∧ h'.get q = some (.lst Z) ∧ q ∉ F' ∧ q ∉ G' := by
  have sp := S.x.mw.sep
  have nn := cs_nn sp
  have ok := sp.ok o ho
  obtain ⟨N, eN⟩ : ∃ N, N = o.2.2.length := ⟨_, rfl⟩
  have N20 : N ≤ 20 := by rw [eN]; exact ok.2.2.2.2
  obtain ⟨m', h2, e2, D2, p2, F2, G2, c1, c4, c5, em, S2, cD, o2, hq, n1, n2⟩ := for_loop (it := it1R 0 N) (t := tgName 1) (b := bW2) (N := N)
    (fun j m h' => ∃ (D' : Obs) (p' : Int) (F' G' : List Nat) (c1 c4 c5 : Option MV), m = mW i hp kd c1 c4 c5 o6 (some (Wd o.1)) ∧ SW h0 h' i hp s w kd D' rf (L + 2 * j) p' F' G' T (f + (j : Nat)) ∧ cs D' = cs D ∧ (∃ x ∈ D', x.1 = o.1 ∧ x.2.2.length = N) ∧ h'.get q = some (.lst Z) ∧ q ∉ F' ∧ q ∉ G')
    (fun _ _ _ => rng_end) (fun j m h' hj ⟨D', p', F', G', c1, c4, c5, em, S', cD, ⟨x, hx, x1, x2⟩, hq, n1, n2⟩ => by
      subst em
      have lD : D'.length = D.length := by
        have := congrArg List.length cD
        unfold cs at this
        rwa [List.length_map, List.length_map] at this
      obtain ⟨h3, a, p3, F3, G3, d4, d5, a1, a2, a3⟩ := put_turn (k := j) (o4 := c4) (o5 := c5) (o6 := o6) S' hT2 (by omega) (by omega) (by omega) hx (by omega)
      rw [x1] at a1
      obtain ⟨q1, q2, q3⟩ := a3 q _ hq n1 n2 nq.2.2.1 (fun y hy z => by
        rcases nq.2.2.2 y.1 with w | w
        · exact w z
        · exact w (by rw [← cD]; exact cs_mem.mpr ⟨y, hy, rfl⟩))
      refine ⟨.int (j : Nat), mW i hp kd (some (.int (j : Nat))) c4 c5 o6 (some (Wd o.1)), h', _, h3, rng_at0 hj, rfl, a1, putD x.1 j a D', p3, F3, G3, _, _, _, rfl, a2.le (by omega) (by omega), by rw [cs_put]; exact cD, ⟨put1 x.1 j a x, by rw [putD_eq]; exact List.mem_map_of_mem hx, by rw [(put1_fst (c := x.1) (k := j) (a := a) (o := x)).1]; exact x1, ?_⟩, q1, q2, q3⟩
      unfold put1
      rw [if_pos rfl]
      show (x.2.2.set j a).length = N
      rw [List.length_set]; exact x2)
    (N + 1) 0 (mW i hp kd o1 o4 o5 o6 (some (Wd o.1))) h (by omega) (Nat.zero_le _) ⟨D, p, F, G, o1, o4, o5, rfl, by simpa using S, rfl, ⟨o, ho, rfl, eN.symm⟩, gq, nq.1, nq.2.1⟩
  subst em
  refine ⟨h2, D2, p2, F2, G2, c1, c4, c5, ?_, S2.le (by omega) (by omega), cD, hq, n1, n2⟩
  unfold bW3 gFor
  have ix : gBin mIx (gVar 3) (gVar 7) (mW i hp kd o1 o4 o5 o6 (some (Wd o.1))) h = .ok (.ref (rf o.1)) h := by
    rw [bin_ok (i := .ref kd) (j := Wd o.1) (h1 := h) (h2 := h) rfl rfl, ixD S.kn.d nn (cs_mem.mpr ⟨o, ho, rfl⟩)]
  have ln := (Sq.ref (S.kn.r o ho)).len
  rw [← eN] at ln
  have rg : gRng1 (gCB (f1 mLenV) (gCons (gBin mIx (gVar 3) (gVar 7)) (gNil))) (mW i hp kd o1 o4 o5 o6 (some (Wd o.1))) h = .ok (it1R 0 N) h := by
    unfold gRng1
    rw [(cb1 (g := mLenV) ix).trans ln]
    simp only [Out.bind]
    rw [if_pos (by omega), Int.toNat_natCast]
  rw [rg]
  exact e2
theorem world_ok {i : Nat} {h : MH} {f : Int} (bx : Box h i f) (hf : f + 1000 < 100000000000) :
    ∃ h' hp s w kd D rf p F G, m_law_world [.ref i] h = .ok (.tup [.ref hp, .ref kd]) h' ∧ SW h h' i hp s w kd D rf 2000 p F G 84 (f + 400) ∧ D.length ≤ 14 := by
  have il := bx.lt
  let m0 : ML := [some (.ref i), none, none, none, none, none, none, none]
  obtain ⟨h1, r, b, e1, M1, k1, n1, n2⟩ := mem_new (C := 2) (h := h.push (.ins 2 [])) (s := h.n) get_top
  have pn : (h.push (.ins 2 [])).n = h.n + 1 := rfl
  have u1 : Up h h1 := up_kp Up.push k1 (by simp)
  have mk : gMake 2 m_Memory___init [.ktp []] 2 gNil m0 h = .ok (.ref h.n) h1 := by
    unfold gMake
    have e0 : gNil m0 h = .ok [] h := rfl
    rw [e0]
    simp only [Out.bind]
    rw [if_pos (by simp)]
    rw [show m_Memory___init (MV.ref h.n :: ([] ++ [.ktp []])) (h.push (.ins 2 [])) = .ok .non h1 from e1]
  obtain ⟨p, MW1⟩ := MW.new M1
  obtain ⟨G, eG⟩ : ∃ G, G = fp h.n r b [] := ⟨_, rfl⟩
  rw [← eG] at MW1
  have pn1 : (h1.push (.ins 1 [])).n = h1.n + 1 := rfl
  obtain ⟨h2, F, w, a1, a2, a3, a4⟩ := heap_new (H := 1) (h := h1.push (.ins 1 [])) (hp := h1.n) (s := h.n) (D := []) (p := p) get_top
  have u2 : Up h1 h2 := up_kp Up.push a3 (by simp)
  have mk2 : gMake 1 m_Heap___init [] 2 (gCons (gMake 2 m_Memory___init [.ktp []] 2 gNil) (gNil)) m0 h = .ok (.ref h1.n) h2 := make1g mk a1 rfl
  obtain ⟨h3, eh3⟩ : ∃ h3, h3 = h2.push (.dic []) := ⟨_, rfl⟩
  have u3 : Up h2 h3 := by rw [eh3]; exact Up.push
  have g3 : h3.get h2.n = some (.dic []) := by rw [eh3]; exact get_top
  have w0 : W0 m0 h = .nx (mW i h1.n h2.n none none none none none) h3 := by
    have d : gDic m0 h2 = .ok (.ref h2.n) h3 := by rw [eh3]; rfl
    exact par2_ok mk2 d
  have un1 := u1.n
  have un2 := u2.n
  have kn1 := k1.n
  have gl := MW1.lt
  have fl := a2.lt.2.2
  have gN : ∀ j ∈ G, h.n ≤ j := fun j hj => by
    rw [eG] at hj
    unfold fp at hj
    simp at hj
    omega
  have fN : ∀ j ∈ F, h1.n ≤ j := fun j hj => by rcases a4 j hj with y | y <;> omega
  have dj : ∀ j ∈ F, j ∉ G := fun j hj z => by
    have := fN j hj
    have := gl.2 j z
    omega
  have S0 : SW h h3 i h1.n h.n w h2.n [] (fun _ => 0) 100 p F G 0 f := by
    refine ⟨bx.up (u1.trans (u2.trans u3)), il, ⟨(MW1.frame fun j hj hl => (u2.trans u3).get j hl), a2.frame fun j hj hl => u3.get j hl, dj⟩, ⟨by decide, fun o ho => (by cases ho), by decide⟩, ⟨g3, fun o ho => (by cases ho), fun o ho => (by cases ho)⟩, ⟨fun j hj => by have := fN j hj; omega, gN⟩, ⟨fun z => by have := fl _ z; omega, fun z => by have := gl.2 _ z; omega, by omega⟩, fun o ho => (by cases ho), (u1.trans (u2.trans u3)).kp⟩
  -- objects
  obtain ⟨n, h4, n15, t1, bx4, k4⟩ := tkc (m := mW i h1.n h2.n none none none none none) 15 S0.bx (by decide) (by decide) (by omega) rfl
  have un3 := u3.n
  have iF : ∀ j ∈ [i], j ∉ F := fun j hj z => by rw [List.mem_singleton.mp hj] at z; have := fN i z; omega
  have iG : ∀ j ∈ [i], j ∉ G := fun j hj z => by rw [List.mem_singleton.mp hj] at z; have := gN i z; omega
  have S1 : SW h h4 i h1.n h.n w h2.n [] (fun _ => 0) 100 p F G 0 (f + 1) := ⟨bx4, il, S0.x.kp k4 iF iG, S0.bd, S0.kn.kp k4 (fun j hj => by rw [List.mem_singleton.mp hj]; exact .inr ⟨by omega, fun o ho => by cases ho⟩), S0.fF, S0.kF, S0.rF, S0.kp.trans k4⟩
  obtain ⟨m', h5, e5, D5, rf5, p5, F5, G5, o6, o7, em, S5, l5⟩ := for_loop (it := it1R 0 n) (t := tgName 6) (b := bW1) (N := n)
    (fun j m h' => ∃ (D' : Obs) (rf' : Int → Nat) (p' : Int) (F' G' : List Nat) (o6 o7 : Option MV), m = mW i h1.n h2.n none none none o6 o7 ∧ SW h h' i h1.n h.n w h2.n D' rf' (100 + 50 * j) p' F' G' (6 * (j : Nat)) (f + 1 + (j : Nat)) ∧ D'.length = j)
    (fun _ _ _ => rng_end) (fun j m h' hj ⟨D', rf', p', F', G', o6, o7, em, S', lD⟩ => by
      subst em
      obtain ⟨h6, D6, rf6, p6, F6, G6, o7', b1, b2, b3⟩ := make_turn (o6 := some (.int (j : Nat))) (o7 := o7) S' (by omega) (by omega) (by omega) (by omega) (by omega)
      have x1 : (6 : Int) * ((j + 1 : Nat) : Int) = 6 * (j : Nat) + 6 := by omega
      have x2 : f + 1 + ((j + 1 : Nat) : Int) = f + 1 + (j : Nat) + 1 := by omega
      exact ⟨.int (j : Nat), mW i h1.n h2.n none none none (some (.int (j : Nat))) o7, h', _, h6, rng_at0 hj, rfl, b1, D6, rf6, p6, F6, G6, _, _, rfl, by rw [x1, x2]; exact b2.le (by omega) (by omega), by omega⟩)
    (n + 1) 0 (mW i h1.n h2.n none none none none none) h4 (by omega) (Nat.zero_le _) ⟨[], _, p, F, G, none, none, rfl, by simpa using S1, rfl⟩
  subst em
  have w1 : W1 (mW i h1.n h2.n none none none none none) h3 = .nx (mW i h1.n h2.n none none none o6 o7) h5 := by
    rw [t_W1]
    unfold gFor
    have rg : gRng1 (gCall m_law_take [] 2 (gCons (gVar 0) (gCons (gC (.int 15)) (gNil)))) (mW i h1.n h2.n none none none none none) h3 = .ok (it1R 0 n) h4 := by
      unfold gRng1
      rw [t1]
      simp only [Out.bind]
      rw [if_pos (by omega), Int.toNat_natCast]
    rw [rg]
    exact e5
  have bdT : Bd D5 84 := ⟨S5.bd.n, fun o ho => by have := S5.bd.e o ho; omega, by decide⟩
  have S5' : SW h h5 i h1.n h.n w h2.n D5 rf5 900 p5 F5 G5 84 (f + 20) := by
    have := S5.le (L' := 900) (f' := f + 20) (by omega) (by omega)
    exact ⟨this.bx, this.il, this.x, bdT, this.kn, this.fF, this.kF, this.rF, this.kp⟩
  -- atoms
  have sp5 := S5'.x.mw.sep
  have nn5 := cs_nn sp5
  have lc : (cs D5).length ≤ 14 := by unfold cs; rw [List.length_map]; omega
  have so := sortD_ok S5'.kn.d nn5 (by omega)
  obtain ⟨sm1, sm2, sm3⟩ := srt_mem nn5
  obtain ⟨h6, eh6⟩ : ∃ h6, h6 = h5.push (.lst ((srt (cs D5)).map Wd)) := ⟨_, rfl⟩
  have u6 : Up h5 h6 := by rw [eh6]; exact Up.push
  have g6 : h6.get h5.n = some (.lst ((srt (cs D5)).map Wd)) := by rw [eh6]; exact get_top
  rw [← eh6] at so
  have so' : gCB (f1 mSortedA) (gCons (gVar 3) (gNil)) (mW i h1.n h2.n none none none o6 o7) h5 = .ok (.ref h5.n) h6 := (cb1 (x := .ref h2.n) (h1 := h5) rfl).trans so
  have lt5 := S5'.x.lt
  have n5 := S5'.kp.n
  have rl : ∀ c, h5.n ≠ rf5 c ∨ c ∉ cs D5 := fun c => by
    by_cases z : c ∈ cs D5
    · obtain ⟨o, ho, rfl⟩ := cs_mem.mp z
      have := MH.get_lt (S5'.kn.r o ho)
      exact .inl (by omega)
    · exact .inr z
  obtain ⟨m', h7, e7, D7, p7, F7, G7, c1, c4, c5, c7, em, S7, cD7, hq, nF, nG⟩ := for_loop (it := it1L h5.n) (t := tgName 7) (b := bW3) (N := (srt (cs D5)).length)
    (fun j m h' => ∃ (D' : Obs) (p' : Int) (F' G' : List Nat) (c1 c4 c5 c7 : Option MV), m = mW i h1.n h2.n c1 c4 c5 o6 c7 ∧ SW h h' i h1.n h.n w h2.n D' rf5 (900 + 40 * j) p' F' G' 84 (f + 20 + 20 * (j : Nat)) ∧ cs D' = cs D5 ∧ h'.get h5.n = some (.lst ((srt (cs D5)).map Wd)) ∧ h5.n ∉ F' ∧ h5.n ∉ G')
    (fun m h' ⟨_, _, _, _, _, _, _, _, _, _, _, hq, _⟩ => by rw [itL_at hq, List.getElem?_eq_none (by simp)]) (fun j m h' hj ⟨D', p', F', G', c1, c4, c5, c7, em, S', cD, hq, n1, n2⟩ => by
      subst em
      have hx : (srt (cs D5))[j]? = some (srt (cs D5))[j] := List.getElem?_eq_getElem hj
      have hm : (srt (cs D5))[j] ∈ cs D' := by rw [cD]; exact sm2 _ (List.getElem_mem hj)
      obtain ⟨o, ho, eo⟩ := cs_mem.mp hm
      have lD : D'.length ≤ 14 := by
        have := congrArg List.length cD
        unfold cs at this
        rw [List.length_map, List.length_map] at this
        omega
      obtain ⟨h8, D8, p8, F8, G8, d1, d4, d5, b1, b2, b3, b4, b5, b6⟩ := row_turn (o1 := c1) (o4 := c4) (o5 := c5) (o6 := o6) S' (by decide) (by omega) (by omega) (by omega) ho hq ⟨n1, n2, by omega, fun c => by rw [cD]; exact rl c⟩
      rw [eo] at b1
      refine ⟨Wd (srt (cs D5))[j], mW i h1.n h2.n c1 c4 c5 o6 (some (Wd (srt (cs D5))[j])), h', _, h8, by rw [itL_at hq, List.getElem?_map, hx]; rfl, rfl, b1, D8, p8, F8, G8, _, _, _, _, rfl, b2.le (by omega) (by omega), b3.trans cD, b4, b5, b6⟩)
    ((srt (cs D5)).length + 1) 0 (mW i h1.n h2.n none none none o6 o7) h6 (by omega) (Nat.zero_le _) ⟨D5, p5, F5, G5, none, none, none, o7, rfl, by simpa using S5'.ups u6, rfl, g6, fun z => by have := lt5.1 _ z; omega, fun z => by have := lt5.2 _ z; omega⟩
  subst em
  have w2 : W2 (mW i h1.n h2.n none none none o6 o7) h5 = .nx (mW i h1.n h2.n c1 c4 c5 o6 c7) h7 := by
    rw [t_W2]
    unfold gFor
    rw [iter_ref so' g6]
    simp only [Out.bindS]
    rw [itL_size g6, List.length_map]
    exact e7
  have lD7 : D7.length ≤ 14 := by
    have := congrArg List.length cD7
    unfold cs at this
    rw [List.length_map, List.length_map] at this
    omega
  refine ⟨h7, h1.n, h.n, w, h2.n, D7, rf5, p7, F7, G7, ?_, S7.le (by omega) (by omega), lD7⟩
  rw [t_W]
  exact body_rt ((seq_nx w0).trans ((seq_nx w1).trans ((seq_nx w2).trans rfl)))
end
end K36
set_option Elab.async false
set_option linter.all false
set_option maxRecDepth 100000
set_option maxHeartbeats 400000
namespace K36
open MI XG XM XK DK HC PySem
open L2 (atI ixN)
def R0 : MS := gAsg (gCall m_law_world [] 1 (gCons (gVar 0) (gNil))) (tgTup [4, 6])
def R1 : MS := gAsg (gLc (gRng1 (gBin mMulA (gCall m_law_take [] 2 (gCons (gVar 0) (gCons (gC (.int 5)) (gNil)))) (gCB (f1 mInt) (gCons (gBin mNeY (gVar 6) (gDic)) (gNil))))) (.one 8) (gYes) (gCall m_law_of [] 2 (gCons (gVar 0) (gCons (gCB (f1 mSortedA) (gCons (gVar 6) (gNil))) (gNil)))) [8]) (tgName 7)
def R2 : MS := gPar 5 1 (gCons (gCB (f1 mList) (gCons (gVar 7) (gNil))) (gCons (gLst (gCons (gMeth 1 1060688232839255162994 m_Heap_refs [] 1 (gVar 4) gNil) (gCons (gLc (gIter (gCB (f1 mSortedA) (gCons (gVar 6) (gNil)))) (.one 9) (gYes) (gMeth 1 2224424513438957882035929185 m_Heap_atoms [] 2 (gVar 4) (gCons (gVar 9) (gNil))) [9]) (gNil)))) (gNil)))
def R3 : MS := gAsg (gCall m_law_sorted [] 1 (gCons (gCall m_law_closure [] 2 (gCons (gVar 6) (gCons (gVar 7) (gNil)))) (gNil))) (tgName 2)
def R4 : MS := gAsg (gCall m_reachable [] 2 (gCons (gVar 4) (gCons (gVar 7) (gNil)))) (tgName 3)
def R5 : MS := gIfS (gNot (gTru (gCall m_law_same [] 2 (gCons (gLst (gCons (gVar 3) (gCons (gCallK m_reachable [] 2 0 2 [(2, 1), (2, 0)] (gNil) (gCons (gCB (f1 mTuple) (gCons (gVar 7) (gNil))) (gCons (gVar 4) (gNil)))) (gNil)))) (gCons (gLst (gCons (gVar 2) (gCons (gVar 2) (gNil)))) (gNil)))))) (gRet (gC (.bl false))) (gNext)
def R6 : MS := gExpr (gBM "list" lApp (gVar 3) (gCons (gC (.str [109, 111, 114, 101])) (gNil)))
def R7 : MS := gIfS (gOr (gNot (gTru (gCall m_law_same [] 2 (gCons (gLst (gCons (gCall m_reachable [] 2 (gCons (gVar 4) (gCons (gVar 7) (gNil)))) (gCons (gCall m_reachable [] 2 (gCons (gVar 4) (gCons (gLst (gNil)) (gNil)))) (gNil)))) (gCons (gLst (gCons (gVar 2) (gCons (gLst (gNil)) (gNil)))) (gNil)))))) (gB (gBin mNeY (gVar 7) (gVar 5)))) (gRet (gC (.bl false))) (gNext)
def R8 : MS := gIfS (gNot (gTru (gCall m_law_same [] 2 (gCons (gLst (gCons (gMeth 1 1060688232839255162994 m_Heap_refs [] 1 (gVar 4) gNil) (gCons (gLc (gIter (gCB (f1 mSortedA) (gCons (gVar 6) (gNil)))) (.one 9) (gYes) (gMeth 1 2224424513438957882035929185 m_Heap_atoms [] 2 (gVar 4) (gCons (gVar 9) (gNil))) [9]) (gNil)))) (gCons (gVar 1) (gNil)))))) (gRet (gC (.bl false))) (gNext)
def R9 : MS := gRet (gCall m_law_same [] 2 (gCons (gCall m_reachable [] 2 (gCons (gVar 4) (gCons (gMeth 1 1060688232839255162994 m_Heap_refs [] 1 (gVar 4) gNil) (gNil)))) (gCons (gMeth 1 1060688232839255162994 m_Heap_refs [] 1 (gVar 4) gNil) (gNil))))
theorem t_R : m_law_right = gBody 10 (gSeq R0 (gSeq R1 (gSeq R2 (gSeq R3 (gSeq R4 (gSeq R5 (gSeq R6 (gSeq R7 (gSeq R8 (R9)))))))))) := rfl
theorem scs_eq {D : Obs} (sp : Sep D) : scs (cs D) D = scs (kOf D) D := by
  funext c
  unfold scs
  have e : cel (cs D) = cel (kOf D) := by
    funext a
    exact (cel_same (kOf_nn sp) (fun c => cs_kOf c) a).symm
  rw [e]
theorem rch_in {D : Obs} (sp : Sep D) {rts : List Int} (sub : ∀ c ∈ rts, c ∈ kOf D) {c : Int} (r : Rch (scs (kOf D) D) rts c) : c ∈ kOf D := by
  refine r.least (S := fun c => c ∈ kOf D) sub fun c hc d hd => ?_
  obtain ⟨o, ho, rfl⟩ := kOf_mem.mp hc
  rw [scs_of sp ho] at hd
  obtain ⟨a, _, e⟩ := List.mem_filterMap.mp hd
  exact (cel_some e).1
theorem due_eq {D : Obs} (sp : Sep D) {rts Fd M : List Int} (sub : ∀ c ∈ rts, c ∈ kOf D) (nd : Fd.Nodup) (a : ∀ c, c ∈ Fd ↔ Rch (scs (cs D) D) rts c) (b : ∀ c, c ∈ M ↔ Rch (scs (kOf D) D) rts c) : isort Fd = (kOf D).filter fun c => decide (c ∈ M) := by
  refine asc_ext (isort_lt nd) ((kOf_asc sp).filter _) fun c => ?_
  rw [(isort_perm Fd).mem_iff, a, scs_eq sp, List.mem_filter, decide_eq_true_iff, b]
  exact ⟨fun h => ⟨rch_in sp sub h, h⟩, fun h => h.2⟩
theorem sds_at {h : MH} : ∀ {r : List MV}, (∀ x ∈ r, atB x = true) → Sds h 0 20 r (r.map aD)
  | [], _ => .nil
  | x :: xs, a => .cons (.at (a x (by simp))) (sds_at fun y hy => a y (by simp [hy]))
abbrev dL (xs : List MV) : PyData := .list (xs.map aD)
theorem eL {h : MH} {q : Nat} {xs : List MV} (g : h.get q = some (.lst xs)) (l : xs.length ≤ 20) (a : ∀ x ∈ xs, atB x = true) : Sd h (.ref q) (dL xs) 1 420 := Sd.lst (n := 20) g (sds_at a) l
theorem same2 {h : MH} {q z a1 a2 b1 b2 : Nat} {xs ys : List MV} (gq : h.get q = some (.lst [.ref a1, .ref a2])) (gz : h.get z = some (.lst [.ref b1, .ref b2])) (g1 : h.get a1 = some (.lst xs)) (g2 : h.get a2 = some (.lst ys)) (g3 : h.get b1 = some (.lst xs)) (g4 : h.get b2 = some (.lst ys)) (lx : xs.length ≤ 20) (ly : ys.length ≤ 20) (ax : ∀ x ∈ xs, atB x = true) (ay : ∀ x ∈ ys, atB x = true) : m_law_same [.ref q, .ref z] h = .ok (.bl true) h :=
  same_sd (Sd.lst (n := 2) gq (.cons (eL g1 lx ax) (.cons (eL g2 ly ay) .nil)) (by simp)) (Sd.lst (n := 2) gz (.cons (eL g3 lx ax) (.cons (eL g4 ly ay) .nil)) (by simp)) rfl rfl (by decide) (by decide) (by decide)
theorem same1 {h : MH} {q z : Nat} {xs : List MV} (gq : h.get q = some (.lst xs)) (gz : h.get z = some (.lst xs)) (lx : xs.length ≤ 20) (ax : ∀ x ∈ xs, atB x = true) : m_law_same [.ref q, .ref z] h = .ok (.bl true) h :=
  same_sd (eL gq lx ax) (eL gz lx ax) rfl rfl (by decide) (by decide) (by decide)
theorem same3 {h : MH} {q z a1 a2 b1 b2 : Nat} {xs : List MV} {rows : List (List MV)} (gq : h.get q = some (.lst [.ref a1, .ref a2])) (gz : h.get z = some (.lst [.ref b1, .ref b2])) (g1 : h.get a1 = some (.lst xs)) (g2 : h.get a2 = some (.lst (rows.map .tup))) (g3 : h.get b1 = some (.lst xs)) (g4 : h.get b2 = some (.lst (rows.map .tup))) (lx : xs.length ≤ 20) (ly : rows.length ≤ 20) (ax : ∀ x ∈ xs, atB x = true) (ay : ∀ r ∈ rows, r.length ≤ 20 ∧ ∀ x ∈ r, atB x = true) : m_law_same [.ref q, .ref z] h = .ok (.bl true) h := by
  have sr : ∀ {rows : List (List MV)}, (∀ r ∈ rows, r.length ≤ 20 ∧ ∀ x ∈ r, atB x = true) → Sds h 1 420 (rows.map .tup) (rows.map fun r => .tuple (r.map aD)) := fun {rows} a => by
    induction rows with
    | nil => exact .nil
    | cons r R ih => exact .cons (Sd.tup (n := 20) (sds_at (a r (by simp)).2) (a r (by simp)).1) (ih fun y hy => a y (by simp [hy]))
  have L : ∀ {q : Nat}, h.get q = some (.lst (rows.map .tup)) → Sd h (.ref q) (.list (rows.map fun r => .tuple (r.map aD))) 2 (20 * 421) := fun {q} g => Sd.lst (n := 20) g (sr ay) (by simpa using ly)
  exact same_sd (Sd.lst (n := 2) gq (.cons ((eL g1 lx ax).le (by omega) (by omega)) (.cons (L g2) .nil)) (by simp)) (Sd.lst (n := 2) gz (.cons ((eL g3 lx ax).le (by omega) (by omega)) (.cons (L g4) .nil)) (by simp)) rfl rfl (by decide) (by decide) (by decide)
section
variable {h0 h h' : MH} {i hp s w kd L : Nat} {D : Obs} {rf : Int → Nat} {p T f : Int} {F G : List Nat}
theorem SW.box {f' : Int} (S : SW h0 h i hp s w kd D rf L p F G T f) (k : Kp [i] h h') (b : Box h' i f') : SW h0 h' i hp s w kd D rf L p F G T f' := by
  have il := S.il
  exact ⟨b, S.il, S.x.kp k (fun j hj z => by rw [List.mem_singleton.mp hj] at z; have := S.fF.1 i z; omega) (fun j hj z => by rw [List.mem_singleton.mp hj] at z; have := S.fF.2 i z; omega), S.bd, S.kn.kp k (fun j hj => by rw [List.mem_singleton.mp hj]; exact .inr ⟨by have := S.kF.2.2; omega, fun o ho => by have := (S.rF o ho).2.2; omega⟩), S.fF, S.kF, S.rF, S.kp.trans k⟩
def mRi (i : Nat) (o1 o2 o3 : Option MV) (hp : Nat) (o5 : Option MV) (kd : Nat) (o7 : Option MV) : ML := [some (.ref i), o1, o2, o3, some (.ref hp), o5, some (.ref kd), o7, none, none]
theorem roots_ok (S : SW h0 h i hp s w kd D rf L p F G T f) (lD : D.length ≤ 14) (hf : f + 100 < 100000000000) :
    ∃ (h' : MH) (q : Nat) (rts : List Int), R1 (mRi i none none none hp none kd none) h = .nx (mRi i none none none hp none kd (some (.ref q))) h' ∧ h'.get q = some (.lst (rts.map Wd)) ∧ (∀ c ∈ rts, c ∈ cs D) ∧ rts.length ≤ 4 ∧ SW h0 h' i hp s w kd D rf L p F G T (f + 10) ∧ h.n ≤ q := by
  obtain ⟨m, em⟩ : ∃ m, m = mRi i none none none hp none kd none := ⟨_, rfl⟩
  have sp := S.x.mw.sep
  have nn := cs_nn sp
  have il := S.il
  have n0 := S.kp.n
  have lc : (cs D).length ≤ 14 := by unfold cs; rw [List.length_map]; exact lD
  obtain ⟨c, h1, c5, t1, bx1, k1⟩ := tkc (m := m) 5 S.bx (by decide) (by decide) (by omega) (by rw [em]; rfl)
  have S1 := S.box k1 bx1
  obtain ⟨h2, eh2⟩ : ∃ h2, h2 = h1.push (.dic []) := ⟨_, rfl⟩
  have u2 : Up h1 h2 := by rw [eh2]; exact Up.push
  have S2 := S1.ups u2
  have kv : h2.get kd = some (.dic (dW (cs D) fun c => .ref (rf c))) := S2.kn.d
  have z2 : h2.get h1.n = some (.dic []) := by rw [eh2]; exact get_top
  have ne : gBin mNeY (gVar 6) (gDic) m h1 = .ok (.bl (!(cs D).isEmpty)) h2 := by
    have v6 : gVar 6 m h1 = .ok (.ref kd) h1 := by rw [em]; rfl
    have gd : gDic m h1 = .ok (.ref h1.n) h2 := by rw [eh2]; rfl
    rw [bin_ok v6 gd]
    unfold mNeY
    rw [if_pos (by simp [isD0, z2])]
    simp only [mD0, kv, z2]
    cases cs D <;> rfl
  obtain ⟨N, eN⟩ : ∃ N : Nat, N = if (cs D).isEmpty = true then 0 else c := ⟨_, rfl⟩
  have N4 : N ≤ 4 := by rw [eN]; split <;> omega
  have mu : gBin mMulA (gCall m_law_take [] 2 (gCons (gVar 0) (gCons (gC (.int 5)) (gNil)))) (gCB (f1 mInt) (gCons (gBin mNeY (gVar 6) (gDic)) (gNil))) m h = .ok (.int (N : Nat)) h2 := by
    have e2 : gCB (f1 mInt) (gCons (gBin mNeY (gVar 6) (gDic)) (gNil)) m h1 = .ok (.int (if (!(cs D).isEmpty) = true then 1 else 0)) h2 := (cb1 ne).trans rfl
    rw [bin_ok t1 e2, eN]
    cases (cs D).isEmpty
    · have cm : cMul (c : Nat) 1 = true := cm_r (by decide)
      simp [mMulA, isTup, isStr, mMulV, isRep, mMul, mIc, cm]
    · have cm : cMul (c : Nat) 0 = true := cm_r (by decide)
      simp [mMulA, isTup, isStr, mMulV, isRep, mMul, mIc, cm]
  have rg : gRng1 (gBin mMulA (gCall m_law_take [] 2 (gCons (gVar 0) (gCons (gC (.int 5)) (gNil)))) (gCB (f1 mInt) (gCons (gBin mNeY (gVar 6) (gDic)) (gNil)))) m h = .ok (it1R 0 N) h2 := by
    unfold gRng1
    rw [mu]
    simp only [Out.bind]
    rw [if_pos (by omega), Int.toNat_natCast]
  have n2 := (k1.trans u2.kp).n
  obtain ⟨acc, h3, e3, ⟨S3, rts, rfl, sub, lr⟩, g3⟩ := lc_loop (it := it1R 0 N) (c := .one 8) (t := gYes) (e := gCall m_law_of [] 2 (gCons (gVar 0) (gCons (gCB (f1 mSortedA) (gCons (gVar 6) (gNil))) (gNil)))) (D := h2.n) (mw := m) (N := N) (by omega)
    (fun j acc h' => SW h0 h' i hp s w kd D rf L p F G T (f + 1 + (j : Nat)) ∧ ∃ rts : List Int, acc = rts.map Wd ∧ (∀ c ∈ rts, c ∈ cs D) ∧ rts.length = j)
    (fun _ _ _ => rng_end) (fun j acc h' hj ⟨S', rts, ea, sub, lr⟩ g => by
      subst ea
      have ne0 : (cs D).length ≠ 0 := fun z => by
        have : cs D = [] := List.length_eq_zero_iff.mp z
        rw [this] at eN
        have : N = 0 := eN
        omega
      have so := sortD_ok S'.kn.d nn (by omega)
      obtain ⟨sm1, sm2, sm3⟩ := srt_mem nn
      obtain ⟨h4, eh4⟩ : ∃ h4, h4 = h'.push (.lst ((srt (cs D)).map Wd)) := ⟨_, rfl⟩
      have u4 : Up h' h4 := by rw [eh4]; exact Up.push
      have g4 : h4.get h'.n = some (.lst ((srt (cs D)).map Wd)) := by rw [eh4]; exact get_top
      rw [← eh4] at so
      have hi' := S'.bx.lt
      obtain ⟨x, h5, a1, a2, a3, a4, a5⟩ := of_ok (v := .ref h'.n) (S'.bx.up u4) (.ref g4) (fun q e => by cases e; omega) (by simp; omega) (by simp; omega) (by omega)
      obtain ⟨d, hd, rfl⟩ := List.mem_map.mp a2
      have S5 := (S'.ups u4).box a4 a3
      have gD := (u4.kp.trans a4 : Kp [i] h' h5).at g (by simp; omega)
      have ex : ∀ y, gCall m_law_of [] 2 (gCons (gVar 0) (gCons (gCB (f1 mSortedA) (gCons (gVar 6) (gNil))) (gNil))) (m.set 8 y) h' = .ok (Wd d) h5 := fun y => by
        have so' : gCB (f1 mSortedA) (gCons (gVar 6) (gNil)) (m.set 8 y) h' = .ok (.ref h'.n) h4 := (cb1 (x := .ref kd) (h1 := h') (by rw [em]; rfl)).trans so
        exact (call2 (n := 2) (x := .ref i) (y := .ref h'.n) (h1 := h') (h2 := h4) (by rw [em]; rfl) so' rfl).trans a1
      have k6 : Kp [h2.n] h5 (h5.set h2.n (.lst (rts.map Wd ++ [Wd d]))) := Kp.set (MH.get_lt gD) (by simp)
      refine ⟨.int (j : Nat), m.set 8 (some (.int (j : Nat))), h', true, h', rng_at0 hj, rfl, rfl, (fun z => nomatch z), fun _ => ⟨Wd d, h5, ex _, gD, ?_, rts ++ [d], by simp, fun y hy => ?_, by simp [lr]⟩⟩
      · have lt := S'.x.lt
        have kd2 := MH.get_lt S2.kn.d
        have q : f + 1 + ((j + 1 : Nat) : Int) = f + 1 + (j : Nat) + 1 := by omega
        rw [q]
        have S2lt := S2.x.lt
        obtain ⟨x1, x2, x3, x4, x5, x6⟩ := S5.bx
        exact ⟨⟨x1, x2, x3, k6.at x4 (by simp; omega), x5, x6⟩, S5.il, S5.x.kp k6 (fun j hj z => by rw [List.mem_singleton.mp hj] at z; have := S2lt.1 _ z; omega) (fun j hj z => by rw [List.mem_singleton.mp hj] at z; have := S2lt.2 _ z; omega), S5.bd, S5.kn.kp k6 (fun j hj => by
          rw [List.mem_singleton.mp hj]
          exact .inr ⟨by omega, fun o ho => by have := MH.get_lt (S2.kn.r o ho); omega⟩), S5.fF, S5.kF, S5.rF, ⟨by have := S5.kp.n; have := k6.n; omega, fun j hj hf => by rw [k6.get j (by have := S5.kp.n; omega) (by simp; omega), S5.kp.get j hj hf]⟩⟩
      · rcases List.mem_append.mp hy with w | w
        · exact sub y w
        · rw [List.mem_singleton.mp w]; exact sm2 d hd)
    (N + 1) 0 [] (h2.push (.lst [])) (by omega) (Nat.zero_le _) (by simp) ⟨by simpa using S2.ups Up.push, [], rfl, fun c hc => (by cases hc), rfl⟩ get_top
  refine ⟨h3, h2.n, rts, ?_, g3, sub, by omega, S3.le (Nat.le_refl _) (by omega), by omega⟩
  rw [← em]
  refine (asg_nx (v := .ref h2.n) (h' := h3) ?_).trans (by rw [em]; rfl)
  unfold gLc
  rw [rg]
  simp only [Out.bind]
  rw [show mwipe m [8] = m by rw [em]; rfl]
  exact e3
end
end K36
set_option Elab.async false
set_option linter.all false
set_option maxRecDepth 100000
set_option maxHeartbeats 400000
namespace K36
open MI XG XM XK DK HC PySem
open L2 (atI ixN)
def rws (D : Obs) (c : Int) : List MV := ((D.find? fun o => decide (o.1 = c)).map fun o => o.2.2).getD []
theorem rws_of {D : Obs} (sp : Sep D) {o : Obj3} (ho : o ∈ D) : rws D o.1 = o.2.2 := by
  unfold rws
  cases e : D.find? fun x => decide (x.1 = o.1) with
  | none =>
    have := List.find?_eq_none.mp e o ho
    simp at this
  | some x =>
    have hx := List.mem_of_find?_eq_some e
    have h1 := List.find?_some (p := fun x : Obj3 => decide (x.1 = o.1)) e
    have : x = o := sp.same hx ho (of_decide_eq_true h1)
    rw [this]; rfl
theorem cons_ok {a : ME} {r : MA} {m : ML} {h h1 h2 : MH} {x : MV} {xs : List MV} (ea : a m h = .ok x h1) (er : r m h1 = .ok xs h2) : gCons a r m h = .ok (x :: xs) h2 := by
  unfold gCons
  rw [ea]
  simp only [Out.bind]
  rw [er]
theorem lst_ok {r : MA} {m : ML} {h h1 : MH} {xs : List MV} (er : r m h = .ok xs h1) (l : xs.length ≤ 1000000) : gLst r m h = .ok (.ref h1.n) (h1.push (.lst xs)) := by
  unfold gLst
  rw [er]
  simp only [Out.bind]
  rw [if_pos l]
theorem nil_ok {m : ML} {h : MH} : gNil m h = .ok [] h := rfl
theorem nt_true {a : ME} {m : ML} {h h' : MH} (e : a m h = .ok (.bl true) h') : gNot (gTru a) m h = .ok false h' := by
  simp [gNot, gTru, e, Out.bind, mTru]
theorem or_f {a b : MT} {m : ML} {h h1 : MH} (e : a m h = .ok false h1) : gOr a b m h = b m h1 := by
  unfold gOr
  rw [e]; rfl
theorem push_up {h h' : MH} {o : MO} (e : h' = h.push o) : Up h h' ∧ h'.get h.n = some o := by
  subst e
  exact ⟨Up.push, get_top⟩
theorem wds_b {D : Obs} {T : Int} (sp : Sep D) (bd : Bd D T) {R : List Int} (a : ∀ c ∈ R, c ∈ kOf D) : ∀ x ∈ R.map Wd, atB x = true := wds_at sp bd fun c hc => (cs_kOf c).mp (a c hc)
theorem eqv_wds : ∀ R : List Int, PyData.eqvAll ((R.map Wd).map aD) ((R.map Wd).map aD) = true
  | [] => rfl
  | c :: R => by
    have := eqv_wds R
    simp [PyData.eqv, PyData.eqvAll, aD, Wd] at this ⊢
    exact this
section
variable {h h' : MH} {hp s w kd L : Nat} {D : Obs} {rf : Int → Nat} {p T f : Int} {F G : List Nat}
theorem rows_ok {m : ML} (X : HQ 1 2 h hp s w [] D L p F G) (bd : Bd D T) (K : Kn h kd D rf) (lD : D.length ≤ 14) (m4 : ∀ x h', gVar 4 (m.set 9 x) h' = .ok (.ref hp) h') (m6 : gVar 6 m h = .ok (.ref kd) h) (m9 : ∀ x h', gVar 9 ((m.set 9 none).set 9 (some x)) h' = .ok x h') (ss : ∀ x y, (m.set 9 x).set 9 y = m.set 9 y) :
    ∃ h' q, gLc (gIter (gCB (f1 mSortedA) (gCons (gVar 6) (gNil)))) (.one 9) (gYes) (gMeth 1 2224424513438957882035929185 m_Heap_atoms [] 2 (gVar 4) (gCons (gVar 9) (gNil))) [9] m h = .ok (.ref q) h' ∧ h'.get q = some (.lst (((srt (cs D)).map (rws D)).map .tup)) ∧ Up h h' := by
  have sp := X.mw.sep
  have nn := cs_nn sp
  have lc : (cs D).length ≤ 14 := by unfold cs; rw [List.length_map]; exact lD
  have so := sortD_ok K.d nn (by omega)
  obtain ⟨sm1, sm2, sm3⟩ := srt_mem nn
  obtain ⟨h1, eh1⟩ : ∃ h1, h1 = h.push (.lst ((srt (cs D)).map Wd)) := ⟨_, rfl⟩
  obtain ⟨u1, g1⟩ := push_up eh1
  rw [← eh1] at so
  have so' : gCB (f1 mSortedA) (gCons (gVar 6) (gNil)) m h = .ok (.ref h.n) h1 := (cb1 m6).trans so
  obtain ⟨h2, a1, a2, a3⟩ := comp_ix (ws := (srt (cs D)).map Wd) (ys := ((srt (cs D)).map (rws D)).map MV.tup) (sl := 9) (m := m) (h := h) (h1 := h1) (e := gMeth 1 2224424513438957882035929185 m_Heap_atoms [] 2 (gVar 4) (gCons (gVar 9) (gNil))) (iter_ref so' g1) (itL_size g1) (by simp; omega) (by simp) (fun h' u j => itL_at (u.at g1) j) (fun j x y hx hy h' u => by
    rw [List.getElem?_map] at hx
    rw [List.getElem?_map, List.getElem?_map] at hy
    cases e : (srt (cs D))[j]? with
    | none => rw [e] at hx; cases hx
    | some c =>
      rw [e] at hx hy
      cases hx
      cases hy
      obtain ⟨o, ho, rfl⟩ := cs_mem.mp (sm2 c (List.mem_of_getElem? e))
      have X' := X.up (u1.trans u)
      obtain ⟨fs0, ih0, lk0⟩ := X'.ih
      obtain ⟨h3, b1, b2⟩ := atoms_q (eO := 3) X' bd ho
      refine ⟨h3, ?_, b2⟩
      rw [rws_of sp ho]
      exact (meth1 (n := 2) (h1 := h') (h2 := h') (x := Wd o.1) (by rw [ss]; exact m4 _ _) ih0 (lk0 2224424513438957882035929185 (by decide)) (m9 _ _) rfl).trans b1)
  exact ⟨h2, h1.n, a1, a2, u1.trans a3⟩
theorem refs_call {m : ML} {e : ME} (X : HQ 1 2 h hp s w [] D L p F G) (bd : Bd D T) (ee : e m h = .ok (.ref hp) h) :
    ∃ h' q, gMeth 1 1060688232839255162994 m_Heap_refs [] 1 e gNil m h = .ok (.ref q) h' ∧ h'.get q = some (.lst ((kOf D).map Wd)) ∧ Up h h' := by
  obtain ⟨h1, q, a1, a2, a3, a4⟩ := refs_q X bd
  have ek : ((byC D).map fun o => MV.str (wd o.1)) = (kOf D).map Wd := by unfold kOf; rw [List.map_map]; rfl
  rw [ek] at a2
  obtain ⟨fs0, ih0, lk0⟩ := X.ih
  exact ⟨h1, q, (meth0 (n := 1) ee ih0 (lk0 1060688232839255162994 (by decide)) rfl).trans a1, a2, a4⟩
theorem callK2 {g : MF} {a b : ME} {m : ML} {h1 h2 : MH} {x y : MV} (ea : a m h = .ok x h1) (eb : b m h1 = .ok y h2) : gCallK g [] 2 0 2 [(2, 1), (2, 0)] (gNil) (gCons a (gCons b gNil)) m h = g [y, x] h2 := by
  unfold gCallK
  rw [nil_ok]
  simp only [Out.bind]
  rw [cons_ok ea (cons_ok eb nil_ok)]
  rfl
theorem ne_same {q z : Nat} {R : List Int} (g1 : h.get q = some (.lst (R.map Wd))) (g2 : h.get z = some (.lst (R.map Wd))) (a : ∀ x ∈ R.map Wd, atB x = true) : mNeY (.ref q) (.ref z) h = .ok (.bl false) h := by
  have e1 : toD h 61 (.ref q) = some (.list ((R.map Wd).map aD)) := toD_lst (n := 60) (g := aD) g1 fun x hx => toD_at (a x hx)
  have e2 : toD h 61 (.ref z) = some (.list ((R.map Wd).map aD)) := toD_lst (n := 60) (g := aD) g2 fun x hx => toD_at (a x hx)
  have ok : okD (.list ((R.map Wd).map aD)) = true := by
    unfold okD SeqAt.shaped
    have h1 : (PyData.list ((R.map Wd).map aD)).canLay0 = true := lay_all a
    have h2 : (PyData.list ((R.map Wd).map aD)).depth = 1 := by simp only [PyData.depth, dep_all]
    rw [h1, h2]; rfl
  have eq : PyData.eqv (.list ((R.map Wd).map aD)) (.list ((R.map Wd).map aD)) = true := by
    simp only [PyData.eqv]
    exact eqv_wds R
  unfold mNeY
  rw [if_neg (by simp [isD0, g2])]
  unfold mNeX
  rw [if_pos (show isRow (MV.ref q) = true from rfl)]
  unfold mEqB
  rw [e1, e2]
  dsimp only
  rw [if_pos ⟨ok, ok⟩, eq]
  rfl
end
end K36
set_option Elab.async false
set_option linter.all false
set_option maxRecDepth 100000
set_option maxHeartbeats 400000
namespace K36
open MI XG XM XK DK HC PySem
open L2 (atI ixN)
theorem t_law : m_law = mLaw (2 : Nat) (3 : Nat) m_law_right := rfl
theorem rch_nil {sc : Int → List Int} {c : Int} (r : Rch sc [] c) : False := r.least (S := fun _ => False) (fun c hc => by cases hc) (fun c hc => hc.elim)
theorem right36 : Right m_law_right 1000 := by
  intro h i f bx hf0 hf
  have hi := bx.lt
  -- the world, the roots
  obtain ⟨h1, hp, s, w, kd, D, rf, p, F, G, w1, S1, lD⟩ := world_ok bx (by omega)
  have s0 : R0 [some (.ref i), none, none, none, none, none, none, none, none, none] h = .nx (mRi i none none none hp none kd none) h1 := by
    have cl : gCall m_law_world [] 1 (gCons (gVar 0) (gNil)) [some (.ref i), none, none, none, none, none, none, none, none, none] h = .ok (.tup [.ref hp, .ref kd]) h1 := (call1 (n := 1) (x := .ref i) (h2 := h) rfl rfl).trans w1
    unfold R0 gAsg
    rw [cl]
    rfl
  have lt1 := S1.x.lt
  obtain ⟨h2, q7, rts, s1, g7, sub0, lr, S2, n7⟩ := roots_ok S1 lD (by omega)
  have sp := S2.x.mw.sep
  have sub : ∀ c ∈ rts, c ∈ kOf D := fun c hc => (cs_kOf c).mpr (sub0 c hc)
  have q7F : q7 ∉ F ∧ q7 ∉ G := ⟨fun z => by have := lt1.1 _ z; omega, fun z => by have := lt1.2 _ z; omega⟩
  have lt2 := S2.x.lt
  -- what is kept, what was before
  obtain ⟨m2, em2⟩ : ∃ m2, m2 = mRi i none none none hp none kd (some (.ref q7)) := ⟨_, rfl⟩
  obtain ⟨h3, eh3⟩ : ∃ h3, h3 = h2.push (.lst (rts.map Wd)) := ⟨_, rfl⟩
  obtain ⟨u3, gk⟩ := push_up eh3
  have kl : gCB (f1 mList) (gCons (gVar 7) (gNil)) m2 h2 = .ok (.ref h2.n) h3 := (cb1 (x := .ref q7) (h1 := h2) (by rw [em2]; rfl)).trans (by rw [list_ok (.ref g7), eh3])
  have X3 := S2.x.up u3
  obtain ⟨h4, F4, q1, a1, a2, a3, a4, a5, Y4, t4⟩ := refs_x X3 S2.bd
  have ek : ((byC D).map fun o => MV.str (wd o.1)) = (kOf D).map Wd := by unfold kOf; rw [List.map_map]; rfl
  rw [ek] at a2
  obtain ⟨fs0, ih0, lk0⟩ := X3.hw.ih
  have rc : gMeth 1 1060688232839255162994 m_Heap_refs [] 1 (gVar 4) gNil m2 h3 = .ok (.ref q1) h4 := (meth0 (n := 1) (by rw [em2]; rfl) ih0 (lk0 1060688232839255162994 (by decide)) rfl).trans a1
  have kd4 := t4.at (S2.kn.up u3).d S2.kF.1 S2.kF.2.1
  have r4 : ∀ x ∈ D, h4.get (rf x.1) = some (.lst x.2.2) ∧ rf x.1 ∉ F4 ∧ rf x.1 ∉ G := fun x hx => t4.at ((S2.kn.up u3).r x hx) (S2.rF x hx).1 (S2.rF x hx).2.1
  have K4 : Kn h4 kd D rf := ⟨kd4.1, fun o ho => (r4 o ho).1, S2.kn.inj⟩
  have g74 := (t4.at (u3.at g7) q7F.1 q7F.2).1
  have gk4 := (t4.at gk (fun z => by have := lt2.1 _ z; omega) (fun z => by have := lt2.2 _ z; omega)).1
  obtain ⟨h5, q2, b1, b2, u5⟩ := rows_ok (m := m2) Y4 S2.bd K4 lD (fun _ _ => by rw [em2]; rfl) (by rw [em2]; rfl) (fun _ _ => by rw [em2]; rfl) (fun _ _ => by rw [em2]; rfl)
  obtain ⟨h6, eh6⟩ : ∃ h6, h6 = h5.push (.lst [MV.ref q1, .ref q2]) := ⟨_, rfl⟩
  obtain ⟨u6, gb⟩ := push_up eh6
  have bl := lst_ok (cons_ok rc (cons_ok b1 nil_ok)) (by simp)
  rw [← eh6] at bl
  obtain ⟨m3, em3⟩ : ∃ m3, m3 = mRi i (some (.ref h5.n)) none none hp (some (.ref h2.n)) kd (some (.ref q7)) := ⟨_, rfl⟩
  have s2 : R2 m2 h2 = .nx m3 h6 := (par2_ok kl bl).trans (by rw [em2, em3]; rfl)
  have u46 := u5.trans u6
  have Y6 := Y4.up u46
  have K6 := K4.up u46
  have g76 := u46.at g74
  have gk6 := u46.at gk4
  have q16 := u46.at a2
  have q26 := u6.at b2
  -- what is due
  obtain ⟨h7, qF, Fd, c1, c2, c3, c4, u7, _⟩ := closure_ok (rv := .ref q7) sp S2.bd (by omega) K6 (.ref g76) sub0 (by omega)
  have c4' : ∀ c ∈ Fd, c ∈ kOf D := fun c hc => by
    have := (c4 c).mp hc
    rw [scs_eq sp] at this
    exact rch_in sp sub this
  have lk : (kOf D).length ≤ 14 := by rw [kOf_len]; exact lD
  obtain ⟨h8, qd, d1, d2, u8, _⟩ := sorted_ok c2 (fun c hc => by
    obtain ⟨o, ho, rfl⟩ := kOf_mem.mp (c4' c hc)
    have := S2.bd.e o ho
    have := sz_pos o
    exact ⟨(sp.ok o ho).1, by omega⟩) (by have := nd_len c3 c4'; omega)
  obtain ⟨m4, em4⟩ : ∃ m4, m4 = mRi i (some (.ref h5.n)) (some (.ref qd)) none hp (some (.ref h2.n)) kd (some (.ref q7)) := ⟨_, rfl⟩
  have s3 : R3 m3 h6 = .nx m4 h8 := by
    have e1 := (call2 (n := 2) (g := m_law_closure) (a := gVar 6) (b := gVar 7) (m := m3) (x := .ref kd) (y := .ref q7) (h := h6) (h1 := h6) (h2 := h6) (by rw [em3]; rfl) (by rw [em3]; rfl) rfl).trans c1
    exact (asg_nx ((call1 (n := 1) e1 rfl).trans d1)).trans (by rw [em3, em4]; rfl)
  have u68 := u7.trans u8
  have Y8 := Y6.up u68
  have g78 := u68.at g76
  -- found
  obtain ⟨h9, qf, M, f1', f2, f3, u9, nf⟩ := reach_ok (rv := .ref q7) Y8 S2.bd (.ref g78) sub (by omega) (by omega)
  rw [← due_eq sp sub c3 c4 f3] at f2
  obtain ⟨m5, em5⟩ : ∃ m5, m5 = mRi i (some (.ref h5.n)) (some (.ref qd)) (some (.ref qf)) hp (some (.ref h2.n)) kd (some (.ref q7)) := ⟨_, rfl⟩
  have s4 : R4 m4 h8 = .nx m5 h9 :=
    (asg_nx ((call2 (n := 2) (x := .ref hp) (y := .ref q7) (h1 := h8) (h2 := h8) (by rw [em4]; rfl) (by rw [em4]; rfl) rfl).trans f1')).trans (by rw [em4, em5]; rfl)
  have wi : ∀ x ∈ (isort Fd).map Wd, atB x = true := wds_b sp S2.bd fun c hc => c4' c ((isort_perm Fd).mem_iff.mp hc)
  have li : ((isort Fd).map Wd).length ≤ 20 := by
    rw [List.length_map, (isort_perm Fd).length_eq]
    have := nd_len c3 c4'; omega
  -- by keywords
  have Y9 := Y8.up u9
  have g79 := u9.at g78
  obtain ⟨hA, qg, Mg, i1, i2, i3, uA, _⟩ := reach_ok (rv := .tup (rts.map Wd)) Y9 S2.bd (.tup _) sub (by omega) (by omega)
  rw [← due_eq sp sub c3 c4 i3] at i2
  have s5 : ∃ hB, R5 m5 h9 = .nx m5 hB ∧ Up h9 hB := by
    have tp : gCB (f1 mTuple) (gCons (gVar 7) (gNil)) m5 h9 = .ok (.tup (rts.map Wd)) h9 := (cb1 (x := .ref q7) (h1 := h9) (by rw [em5]; rfl)).trans (Sq.ref g79).tuple
    have ck := (callK2 (g := m_reachable) (b := gVar 4) tp (y := .ref hp) (h2 := h9) (by rw [em5]; rfl)).trans i1
    have l1 := lst_ok (cons_ok (a := gVar 3) (m := m5) (h := h9) (h1 := h9) (x := .ref qf) (by rw [em5]; rfl) (cons_ok ck nil_ok)) (by simp)
    obtain ⟨hB, ehB⟩ : ∃ hB, hB = hA.push (.lst [.ref qf, .ref qg]) := ⟨_, rfl⟩
    obtain ⟨uB, gB⟩ := push_up ehB
    rw [← ehB] at l1
    obtain ⟨hC, ehC⟩ : ∃ hC, hC = hB.push (.lst [.ref qd, .ref qd]) := ⟨_, rfl⟩
    obtain ⟨uC, gC⟩ := push_up ehC
    have l2 : gLst (gCons (gVar 2) (gCons (gVar 2) (gNil))) m5 hB = .ok (.ref hB.n) hC := by rw [ehC, em5]; rfl
    have u9C := uA.trans (uB.trans uC)
    have sm := same2 (uC.at gB) gC (u9C.at f2) (uC.at (uB.at i2)) (u9C.at (u9.at d2)) (u9C.at (u9.at d2)) li li wi wi
    exact ⟨hC, (ifS_f (h1 := hC) (nt_true ((call2 (n := 2) l1 l2 rfl).trans sm))).trans rfl, u9C⟩
  obtain ⟨hB, s5, uB⟩ := s5
  -- what is found is the law's own
  have fB := uB.at f2
  obtain ⟨hC, ehC⟩ : ∃ hC, hC = hB.set qf (.lst ((isort Fd).map Wd ++ [.str [109, 111, 114, 101]])) := ⟨_, rfl⟩
  have kC : Kp [qf] hB hC := by rw [ehC]; exact Kp.set (MH.get_lt fB) (by simp)
  have s6 : R6 m5 hB = .nx m5 hC := by
    have ty : isTy hB "list" (.ref qf) = true := by simp [isTy, fB]
    have v3 : gVar 3 m5 hB = .ok (.ref qf) hB := by rw [em5]; rfl
    have ll : ((isort Fd).map Wd).length < 1000000 := by omega
    refine expr_nx (v := .non) ?_
    simp only [gBM, v3, Out.bind, ty, if_pos, gCons, gNil, gC, lApp, fB, ll, ehC]
  have lt8 := Y8.x.lt
  have n89 := u9.n
  have u8B := u9.trans uB
  have u8C : Up h8 hC := ⟨by have := kC.n; have := u8B.n; omega, fun j hj => by rw [kC.get j (by have := u8B.n; omega) (by simp; omega), u8B.get j hj]⟩
  have YC := Y8.up u8C
  have g7C := u8C.at g78
  have gkC := u8C.at (u68.at gk6)
  have dC := u8C.at d2
  -- asked again
  obtain ⟨hD, qa, Ma, j1, j2, j3, uD, _⟩ := reach_ok (rv := .ref q7) YC S2.bd (.ref g7C) sub (by omega) (by omega)
  rw [← due_eq sp sub c3 c4 j3] at j2
  obtain ⟨hE, ehE⟩ : ∃ hE, hE = hD.push (.lst ([] : List MV)) := ⟨_, rfl⟩
  obtain ⟨uE, gE⟩ := push_up ehE
  have YE := (YC.up uD).up uE
  obtain ⟨hF, qe, Me, k1, k2, k3, uF, _⟩ := reach_ok (rv := .ref hD.n) (rts := []) YE S2.bd (.ref gE) (fun c hc => by cases hc) (by decide) (by omega)
  have e0 : ((kOf D).filter fun c => decide (c ∈ Me)) = [] := by
    rw [List.filter_eq_nil_iff]
    intro c _ z
    exact rch_nil ((k3 c).mp (of_decide_eq_true z))
  rw [e0] at k2
  have s7 : ∃ hZ, R7 m5 hC = .nx m5 hZ ∧ Up hC hZ := by
    have r1 := (call2 (n := 2) (g := m_reachable) (a := gVar 4) (b := gVar 7) (m := m5) (x := .ref hp) (y := .ref q7) (h := hC) (h1 := hC) (h2 := hC) (by rw [em5]; rfl) (by rw [em5]; rfl) rfl).trans j1
    have r2 := (call2 (n := 2) (g := m_reachable) (a := gVar 4) (b := gLst (gNil)) (m := m5) (x := .ref hp) (y := .ref hD.n) (h := hD) (h1 := hD) (h2 := hE) (by rw [em5]; rfl) (by rw [ehE]; rfl) rfl).trans k1
    have l1 := lst_ok (cons_ok r1 (cons_ok r2 nil_ok)) (by simp)
    obtain ⟨hG, ehG⟩ : ∃ hG, hG = hF.push (.lst [.ref qa, .ref qe]) := ⟨_, rfl⟩
    obtain ⟨uG, gG⟩ := push_up ehG
    rw [← ehG] at l1
    obtain ⟨hH, ehH⟩ : ∃ hH, hH = hG.push (.lst ([] : List MV)) := ⟨_, rfl⟩
    obtain ⟨uH, gH⟩ := push_up ehH
    obtain ⟨hI, ehI⟩ : ∃ hI, hI = hH.push (.lst [.ref qd, .ref hG.n]) := ⟨_, rfl⟩
    obtain ⟨uI, gI⟩ := push_up ehI
    have l2 : gLst (gCons (gVar 2) (gCons (gLst (gNil)) (gNil))) m5 hG = .ok (.ref hH.n) hI := by rw [ehI, ehH, em5]; rfl
    have uGI := uH.trans uI
    have uDI := uE.trans (uF.trans (uG.trans uGI))
    have uCI := uD.trans uDI
    have sm := same2 (xs := (isort Fd).map Wd) (ys := []) (uGI.at gG) gI (uDI.at j2) (uGI.at (uG.at k2)) (uCI.at dC) (uI.at gH) li (by simp) wi (fun x hx => by cases hx)
    have wr : ∀ x ∈ rts.map Wd, atB x = true := wds_b sp S2.bd sub
    have ns := ne_same (uCI.at g7C) (uCI.at gkC) wr
    refine ⟨hI, (ifS_f (h1 := hI) ((or_f (nt_true ((call2 (n := 2) l1 l2 rfl).trans sm))).trans ?_)).trans rfl, uCI⟩
    unfold gB
    rw [bin_ok (x := gVar 7) (y := gVar 5) (i := .ref q7) (j := .ref h2.n) (h1 := hI) (h2 := hI) (by rw [em5]; rfl) (by rw [em5]; rfl), ns]
    rfl
  obtain ⟨hZ, s7, uZ⟩ := s7
  -- nothing else has changed
  have YZ := YC.up uZ
  have u6C := u68.trans u8C
  have KZ := (K6.up u6C).up uZ
  have s8 : ∃ hY, R8 m5 hZ = .nx m5 hY ∧ Up hZ hY := by
    obtain ⟨hA, q3, x1, x2, v1⟩ := refs_call (m := m5) (e := gVar 4) YZ S2.bd (by rw [em5]; rfl)
    obtain ⟨hB', q4, y1, y2, v2⟩ := rows_ok (m := m5) (YZ.up v1) S2.bd (KZ.up v1) lD (fun _ _ => by rw [em5]; rfl) (by rw [em5]; rfl) (fun _ _ => by rw [em5]; rfl) (fun _ _ => by rw [em5]; rfl)
    have l1 := lst_ok (cons_ok x1 (cons_ok y1 nil_ok)) (by simp)
    obtain ⟨hY, ehY⟩ : ∃ hY, hY = hB'.push (.lst [.ref q3, .ref q4]) := ⟨_, rfl⟩
    obtain ⟨v3, gY⟩ := push_up ehY
    rw [← ehY] at l1
    have uu := u6C.trans (uZ.trans (v1.trans (v2.trans v3)))
    have sm := same3 gY (uu.at gb) (v3.at (v2.at x2)) (v3.at y2) (uu.at q16) (uu.at q26) (by simp; omega) (by
      have nn := cs_nn sp
      have := (srt_mem nn).2.2
      rw [List.length_map, this]
      unfold cs
      rw [List.length_map]; omega) (wds_b sp S2.bd fun c hc => hc) (fun r hr => by
      obtain ⟨c, hc, rfl⟩ := List.mem_map.mp hr
      obtain ⟨o, ho, rfl⟩ := cs_mem.mp ((srt_mem (cs_nn sp)).2.1 c hc)
      rw [rws_of sp ho]
      exact ⟨(sp.ok o ho).2.2.2.2, (sp.ok o ho).2.2.2.1⟩)
    exact ⟨hY, (ifS_f (h1 := hY) (nt_true ((call2 (n := 2) (b := gVar 1) l1 (y := .ref h5.n) (h2 := hY) (by rw [em5]; rfl) rfl).trans sm))).trans rfl, v1.trans (v2.trans v3)⟩
  obtain ⟨hY, s8, uY⟩ := s8
  -- all are reached from all
  have YY := YZ.up uY
  have s9 : ∃ hX, R9 m5 hY = .rt (.bl true) hX ∧ Up hY hX := by
    obtain ⟨hA, q3, x1, x2, v1⟩ := refs_call (m := m5) (e := gVar 4) YY S2.bd (by rw [em5]; rfl)
    obtain ⟨hB', q4, M4, y1, y2, y3, v2, _⟩ := reach_ok (rv := .ref q3) (YY.up v1) S2.bd (.ref x2) (fun c hc => hc) (by omega) (by omega)
    have ef : ((kOf D).filter fun c => decide (c ∈ M4)) = kOf D := by
      rw [List.filter_eq_self]
      intro c hc
      exact decide_eq_true ((y3 c).mpr (.root hc))
    rw [ef] at y2
    obtain ⟨hC', q5, z1, z2, v3⟩ := refs_call (m := m5) (e := gVar 4) ((YY.up v1).up v2) S2.bd (by rw [em5]; rfl)
    have r1 := (call2 (n := 2) (g := m_reachable) (a := gVar 4) (m := m5) (x := .ref hp) (h1 := hY) (by rw [em5]; rfl) x1 rfl).trans y1
    have sm := same1 (v3.at y2) z2 (by simp; omega) (wds_b sp S2.bd fun c hc => hc)
    refine ⟨hC', ?_, v1.trans (v2.trans v3)⟩
    have := (call2 (n := 2) (g := m_law_same) r1 z1 rfl).trans sm
    unfold R9 gRet
    rw [this]
    rfl
  obtain ⟨hX, s9, uX⟩ := s9
  have u6X := u6C.trans (uZ.trans (uY.trans uX))
  have n2 := S2.kp.n
  have old : ∀ j ∈ F ++ G, h.n ≤ j := fun j hj => by rcases List.mem_append.mp hj with y | y; exact S2.fF.1 j y; exact S2.fF.2 j y
  have iF : i ∉ F ++ G := fun z => by have := old i z; omega
  have u4X := u46.trans u6X
  refine ⟨hX, ?_, ?_, keep_of ?_⟩
  · rw [t_R]
    rw [← em2] at s1
    exact body_rt ((seq_nx s0).trans ((seq_nx s1).trans ((seq_nx s2).trans ((seq_nx s3).trans ((seq_nx s4).trans ((seq_nx s5).trans ((seq_nx s6).trans ((seq_nx s7).trans ((seq_nx s8).trans s9)))))))))
  · obtain ⟨a, b, e, x1, x2, x3⟩ := S2.bx
    exact ⟨a, b, e, u4X.at (t4.kp.at (u3.at x1) iF), x2, by omega⟩
  · refine ⟨by have := u3.n; have := t4.kp.n; have := u4X.n; omega, fun j hj hf => ?_⟩
    have := u3.n
    have := t4.kp.n
    rw [u4X.get j (by omega), t4.kp.get j (by omega) (fun z => by have := old j z; omega), u3.get j (by omega), S2.kp.get j hj hf]
theorem law_true {ns : List Int} (hl : ns.length ≤ 63) : ∃ h', m_law [.fls (ns.map .int)] .empty = .ok (.bl true) h' := by
  rw [t_law]
  exact law_gen right36 (by decide) (by decide) (by decide) (by decide) hl
end K36
set_option Elab.async false
set_option linter.all false
set_option maxRecDepth 100000
set_option maxHeartbeats 0
namespace K36
open PySem PySem.Spec PyProof.Rows L2 JB MI
abbrev R : PySem.W.OpenRow := PySem.W.OpenLaw.row PySem.Challenge.rw_lastingrun_k36_reachable_objects
abbrev hk : PySem.W.Hook := hookM 5 fa fn fc
def ob (s : PySem.W.SharedT) : He.AlD × Bool := obM 5 fa fn fc (HandSHeadRun.getT s)
theorem ob_eq (s : PySem.W.SharedT) : ob s = hk.obs s.abs := obM_eq (HandSHeadRun.getT_eq s)
def loose : List Str := (["_wall", "NoObject", "NoPlace", "Idle", "Marks", "reachable", "Heap", "PAGE", "without_end", "Memory", "_law_cells", "_law_box", "_law_take", "_law_of", "_law_same", "_law_closure", "_law_sorted", "_law_world", "_law_right"] : List Str)
theorem run (w : World) : HandSHeadRun.RunEq R (PySem.W.view R.prog [24]) hk ob 8000 loose w := by
  intro os
  kernel_rfl
theorem facts {P : Program} {w : World} {K : PySem.W.Frag} {h : Heap} {mg : Str → Option Value} {f : Addr} (X : K.In h) (G : h.Ns mainGlobals mg) (hfa : mg ("law" : Str) = some (.ref f)) (c : He.SaysD fa fn K) (cx : fc.all (fun f => f.ok K) = true) :
    ∃ fd : FuncData, (∀ (s : Shared) (v : Value), BindsTo s fd ⟨[v], []⟩ [("_law_script", v)]) ∧ ∀ base : Heap, K.In base → base.Ns mainGlobals mg → FnG P w K mg base (L2.CX P w) 9 f fd ["_law_script"] (spM ⟨K, tN K⟩ 1 m_law) := by
  have F : W K mg := ⟨⟨h, X, G⟩, c, cx⟩
  obtain ⟨fd, D⟩ := c.def_ (34) (d := d_law) rfl
  have e := hfa.symm.trans (He.glo_ok X G (c.fact 0 (f := .glo "law") rfl))
  cases e
  have b := FunD.bindsA (ps := ["_law_script"]) D fun _ _ _ _ _ _ us hl => match us, hl with | [_], _ => rfl
  exact ⟨fd, fun s v => b s [v] rfl, fun base _ _ => fn_law F D⟩
end K36
open PySem PySem.W PySem.Calls PyProof.Rows
set_option maxRecDepth 100000 in
set_option maxHeartbeats 0 in
theorem PySem.Challenge.cw_lastingrun_k36_reachable_objects_holds : PySem.Challenge.rw_lastingrun_k36_reachable_objects.Holds := by
  w_on; o_law
  refine HandSHeadRun.head_any (r := OpenLaw.row PySem.Challenge.rw_lastingrun_k36_reachable_objects) (q := view (OpenLaw.row PySem.Challenge.rw_lastingrun_k36_reachable_objects).prog [24]) (H := K36.hk) (ob := K36.ob) (M := 8000) (loose := K36.loose) (d := HandSHeadRun.topDef (OpenLaw.row PySem.Challenge.rw_lastingrun_k36_reachable_objects).prog 24) (kwd := []) K36.ob_eq
    (by kernel_rfl) (fun s => by kernel_rfl) K36.run (by kernel_rfl) (by kernel_rfl) (by kernel_rfl) (by rfl) (by first | assumption | decide +kernel) (by decide +kernel) ⟨rfl, rfl, rfl, rfl, rfl, by decide +kernel⟩ ?hw ?hc
  case hw => w_witness2
  case hc =>
    refine MI.walk_GE (l := PySem.Challenge.rw_lastingrun_k36_reachable_objects) (n := 63) (k := 9) (x := "_law_script") rfl (by decide) (by kernel_rfl) ⟨rfl, by decide, by decide⟩ ?F
    intro w mg fa h Y G hmg0
    obtain ⟨K, KX, c, cx⟩ := Y
    have hmg : mg ("law" : PySem.Str) = some (.ref fa) := by
      have e : (HandSHeadRun.topDef (OpenLaw.row PySem.Challenge.rw_lastingrun_k36_reachable_objects).prog 24).name = ("law" : PySem.Str) := by kernel_rfl
      rw [← e]
      exact hmg0
    obtain ⟨fd, hb, hF⟩ := K36.facts (P := (PySem.Challenge.rw_lastingrun_k36_reachable_objects).prog) (w := w) KX G hmg c cx
    refine ⟨K, fd, _, KX, hb, fun H a ns hl hO hS => ?_, hF⟩
    obtain ⟨h', e⟩ := K36.law_true hl
    exact MI.law_sp (Z := ⟨K, K36.tN K⟩) hO hS e
