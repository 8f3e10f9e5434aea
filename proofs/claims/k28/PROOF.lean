import PyProof.Rows.All
import HandS.ForMost
import HandS.ForExc
import HandS.Evl
import HandS.Defaults
import HandS.Wide
import PyProof.ReprRoads
import PyProof.EqLayable
import HandS.TupLe
import HandS.TupAny
import PyProof.Rows.RuleB_pow
import HandS.Style
import HandS.SetFor
import HandS.Conv
import HandS.IsInst
import HandS.Dict
import KE.SortData
import HandS.Iter
import KE.KDictZip
import HandS.WideBits
import HandS.Records
import HandS.Deep
import PyProof.LongRange
import HandS.DictComp
import HandS.SortKw
import KE.DataMinMax
import PySem.Challenge.RW_idealtwin_k28_unsure_cells
import Wide.All
import OpenK.AllK
import Wide.FinOn
set_option Elab.async false
set_option linter.all false
set_option maxRecDepth 100000
set_option maxHeartbeats 4000000
namespace G
open PySem PySem.Spec PyProof.Rows L2
/-- a def's promise where no repr is under way -/
structure FnG (P : Program) (w : World) (K : PySem.W.Frag) (mg : Str → Option Value) (base : Heap)
    (CX : CXT) (k : Nat) (f : Addr) (fd : FuncData) (ps : List Str) (sp : Sp) : Prop where
  len : ∀ vs H Q E, sp vs H Q E → vs.length = ps.length
  run : ∀ (A : Around) (outer : List Env) (s : Shared) (H : Hp) (args : Args) (us : List Value)
    (vs : List V) (Q : VK) (E : XK), A.guards = some [] → Room k A → Env0 P w K mg base A outer s H →
    BindsTo s fd args (ps.zip us) → Vals vs us → sp vs H Q E →
    codeAny (model P w) A (.call (.ref f) args) (CR CX outer P w H s Q E) s
theorem guards_deeper {A : Around} (h : A.guards = some []) (env : Env) : (A.deeper env).guards = some [] := by
  show A.guards = some []
  exact h
theorem kind_par {N ps : List Str} {sc : Scope} {n : Nat} (S : FnScope N ps sc) (us : List Value) :
    ∀ y ∈ ps.zip us, sc.names.lookup y.1 = some .local ∨
      (sc.names.lookup y.1 = some .cell ∧ ((cellsFrom n sc.names []).lookup y.1).isSome = true) := by
  rintro ⟨x, u⟩ hy
  have hx := (List.of_mem_zip hy).1
  cases S.par x hx with
  | inl q => exact Or.inl q
  | inr q => exact Or.inr ⟨q, PySem.W.cellsFrom_some _ _ _ (Or.inl q)⟩
theorem body_end {CX : CXT} {P : Program} {w : World} {K : PySem.W.Frag} {mg : Str → Option Value}
    {base : Heap} {N : List Str} {qual : Str} {sc : Scope} {f : Addr} {cd : Value} {A : Around}
    {outer : List Env} {s s' : Shared} {H : Hp} {Q : VK} {E : XK} {fl : Flow}
    (h : SP (cxOf CX P w K mg base N qual sc f cd A outer s H E) [] { nx := fun _ H' => Q .non H', rt := Q } fl s') :
    match fl with
    | .ret u => CE outer P w H s Q u s'
    | .next => CE outer P w H s Q .none s'
    | _ => False := by
  cases fl with
  | ret u =>
    obtain ⟨v, σ', H', J, rv, q⟩ := h
    exact ⟨v, H', J.os, J.bare, J.base, J.hok, rv, q⟩
  | next =>
    obtain ⟨σ', H', J, q⟩ := h
    exact ⟨V.non, H', J.os, J.bare, J.base, J.hok, rfl, q⟩
  | brk =>
    obtain ⟨_, _, _, q⟩ := h
    exact q
  | cont =>
    obtain ⟨_, _, _, q⟩ := h
    exact q
theorem fnG_of {CX : CXT} {P : Program} {w : World} {K : PySem.W.Frag} {mg : Str → Option Value} {base : Heap}
    {k : Nat} {f : Addr} {name qual : Str} {params : Arguments} {body : List Stmt} {sc : Scope}
    {dV kV doc pm cdv ct oc : Value} {an od : Option Addr} {osl : Array (Option Value)} {N ps : List Str} {sp : Sp}
    (lk : K.lookup f = some ⟨oc, od, .func (PySem.W.fnOf name qual params body sc dV kV doc pm an cdv ct), osl⟩)
    (hcd : PySem.W.codeIn K cdv qual = true) (S : FnScope N ps sc)
    (len : ∀ vs H Q E, sp vs H Q E → vs.length = ps.length)
    (go : ∀ (A : Around) (outer : List Env) (s : Shared) (H : Hp) (vs : List V) (Q : VK) (E : XK),
      A.guards = some [] → Room k (A.deeper (envOfC qual sc s.heap.objs.size f cdv)) → sp vs H Q E →
      ∃ t, PSs (cxOf CX P w K mg base N qual sc f cdv A outer s H E) body t ∧
        t { nx := fun _ H' => Q .non H', rt := Q } (start N vs) H) :
    FnG P w K mg base CX (k + 1) f (PySem.W.fnOf name qual params body sc dV kV doc pm an cdv ct) ps sp := by
  refine ⟨len, ?_⟩
  intro A outer s H args us vs Q E hgd hr e0 hb r hsp
  have inK : K.In s.heap := e0.mod.kin.keeps fun b o e => And.left (e0.bs b o e)
  have noL : s.heap.NoLimit := e0.mod.nolimit.keeps fun b o e => And.left (e0.bs b o e)
  refine codeAny_call_function hr.depth (inK _ _ lk) rfl S.co S.gen rfl (PySem.W.codeRec_of inK hcd) (hb _ _ _ _ ?_)
  refine wpAny_newFunctionEnv_cells S.kind (kind_par S us) ?_
  intro env he s1 x
  subst he
  refine ⟨noL.keeps x.toInCall.keep, codeAny_func ?_⟩
  obtain ⟨t, ht, hq⟩ := go A outer s H vs Q E hgd (hr.deeper _) hsp
  have I0 := inv_start (CX := CX) (K := K) (mg := mg) (base := base) (P := P) (w := w) (f := f) (cd := cdv) (E := E)
    S hr.hd e0 (len _ _ _ _ hsp) r x
  refine wpAny_mono (ht.run [] s1 (start N vs) H _ I0 hq) ?_ ?_
  · intro fl s' hs
    have z := body_end hs
    cases fl with
    | ret u => exact z
    | next => exact z
    | brk => exact False.elim z
    | cont => exact False.elim z
  · intro e s' hs
    exact hs
section
variable {X : Cx} {CX : CXT} {k : Nat} {f : Addr} {fd : FuncData} {ps : List Str} {sp : Sp} {E : XK}
theorem after_call {pins : List (Addr × Obj)} {σ : L2.St} {H : Hp} {s : Shared} {Q : VK} (hx : Passes CX X E)
    (I : Inv X pins σ H s) {r : Result} {s' : Shared} (h : CR CX X.stack X.prog X.w H s Q E r s') :
    match r with
    | .ok (.ret u) => EP X pins σ Q u s'
    | .ok _ => False
    | .error e => X.xe e s' := by
  cases r with
  | error e => exact hx pins σ H s e s' I h
  | ok fl =>
    cases fl with
    | ret u => exact I.after h
    | next => exact h
    | brk => exact h
    | cont => exact h
theorem run_G {pins : List (Addr × Obj)} {σ : L2.St} {H : Hp} {s : Shared} {Q : VK} {us : List Value} {vs : List V}
    (F : FnG X.prog X.w X.K X.mg X.base CX k f fd ps sp) (hgd : X.A.guards = some []) (hr : Room k X.A)
    (hb : Binds X.K fd ps []) (hx : Passes CX X E) (I : Inv X pins σ H s) (r : Vals vs us) (h : sp vs H Q E) :
    wpAny (model X.prog X.w) X.A (call (.ref f) us) (EP X pins σ Q) X.xe s := by
  have hl : (us ++ []).length = ps.length := by
    rw [List.append_nil, ← r.length]
    exact F.len _ _ _ _ h
  have hb' := hb s us I.kIn hl
  rw [List.append_nil] at hb'
  refine wpAny_call (codeAny_mono (F.run X.A X.stack s H ⟨us, []⟩ us vs Q E hgd hr I.env0 hb' r h) ?_)
  intro q s' hq
  have z := after_call hx I hq
  cases q with
  | error e => exact z
  | ok fl =>
    cases fl with
    | ret u => exact z
    | next => exact z
    | brk => exact z
    | cont => exact z
def tCallG (sp : Sp) (E : XK) (t : TA) : TE := fun σ H Q => t σ H fun vs H1 => sp vs H1 Q E
theorem pe_G {x : Str} {p pos : Pos} {e : Expr} {es : List Expr} {t : TA}
    (F : FnG X.prog X.w X.K X.mg X.base CX k f fd ps sp) (hgd : X.A.guards = some []) (hr : Room k X.A)
    (hg : Gl X x) (hm : X.mg x = some (.ref f)) (hk : PySem.W.keepIn X.K (.ref f) = true) (hb : Binds X.K fd ps [])
    (hx : Passes CX X E) (ha : PA X (e :: es) t) (hdb : (x == ("__debug__" : Str)) = false := by decide)
    (he : starEach (e :: es) X.env = (false, eval e X.env) :: starEach es X.env := by rfl)
    (hpl : (backTo pos (starEach es X.env)).any (·.1) = false := by rfl) :
    PE X (.Call (.Name x p) (e :: es) [] pos) (tCallG sp E t) := by
  refine ⟨?_⟩
  intro pins s σ H Q I h
  refine wpAny_Call_Name_kw (ld_glob I hg hm ?_ hdb)
  refine PySem.W.callWith_K (h₀ := X.base) I.ok.mod.kin hk (thn (ha.run pos pins s σ H _ I h) ?_) he hpl
  rintro us s1 ⟨vs, H1, I1, r, q⟩
  exact ⟨I1.kIn, run_G F hgd hr hb hx I1 r q⟩
end
/-- the law's end: from its promise where no repr is under way -/
theorem core_run {P : Program} {w : World} {K : PySem.W.Frag} {mg mb : Str → Option Value} {CX : CXT} {k : Nat}
    {fa a : Addr} {fd : FuncData} {x : Str} {sp : Sp} {s₁ : Shared} {vs : List Value} {ns : List Int} {H : Hp}
    (KX : K.In s₁.heap) (hns : s₁.heap.Ns mainGlobals mg) (hb : s₁.heap.Ns builtinsNs mb)
    (hbb : ∀ x : Str, x ≠ "__name__" → mb x = bootBuiltins x) (hlim : s₁.heap.NoLimit) (hg : s₁.gens = #[])
    (ha : s₁.heap.get? a = some { cls := .type "list", data := .seq vs.toArray }) (hr : Room k callerA)
    (F : ∀ base : Heap, K.In base → base.Ns mainGlobals mg → FnG P w K mg base CX k fa fd [x] sp)
    (hbind : ∀ (s : Shared) (u : Value), BindsTo s fd ⟨[u], []⟩ [(x, u)])
    (hO : ∀ b, H b = none ∨ ∃ ob xs, H b = some (.frz ob (.lst xs))) (hok : HOk P w H s₁.heap)
    (hA : ∀ b, H b ≠ none → b = a) (hK : H a ≠ none → K.lookup a = none)
    (hsp : sp [.ref a] H (fun v _ => v = .bl true) fun _ _ _ => False)
    (hCX : ∀ e s', CX [] H s₁ (fun _ _ _ => False) e s' → False) :
    codeAny (model P w) callerA (.call (.ref fa) ⟨[.ref a], []⟩) (fun r s' =>
      r = .ok (.ret (.bool true)) ∧ OldK s₁.heap s'.heap ∧ s'.os = s₁.os ∧ AllBare s'.gens) s₁ := by
  -- what is not tracked stays
  have stay : ∀ {b : Addr} {o : Obj}, s₁.heap.get? b = some o → b ≠ a → (hidT s₁.heap H).get? b = some o := by
    intro b o e hne
    refine hidT_get e ?_
    cases q : H b with
    | none => rfl
    | some u => exact absurd (hA b (by rw [q]; exact Option.some_ne_none u)) hne
  have tab : ∀ {b : Addr} {m : Str → Option Value}, s₁.heap.Ns b m → (hidT s₁.heap H).Ns b m := by
    rintro b m ⟨o, es, ep, e, d, r⟩
    refine ⟨o, es, ep, stay e ?_, d, r⟩
    intro z
    subst z
    rw [ha] at e
    cases e
    cases d
  have kin : K.In (hidT s₁.heap H) := by
    intro b o e
    refine hidT_get (KX b o e) ?_
    cases q : H b with
    | none => rfl
    | some u =>
      have e1 : b = a := hA b (by rw [q]; exact Option.some_ne_none u)
      subst e1
      have e2 := hK (by rw [q]; exact Option.some_ne_none u)
      rw [e] at e2
      cases e2
  have hM : Mod K mg (hidT s₁.heap H) := by
    obtain ⟨mc, l1, l2⟩ := hlim
    exact ⟨kin, tab hns, ⟨mb, tab hb, hbb⟩, ⟨mc, tab l1, l2⟩⟩
  have e0 : Env0 P w K mg (hidT s₁.heap H) callerA [] s₁ H := by
    refine ⟨rfl, hM, fun b o e => of_hidT e, Nat.le_of_eq (hidT_size _ _), trivial, ?_, hok, .of_eq hg⟩
    intro b hb
    cases hb
  refine codeAny_mono ((F _ kin (tab hns)).run callerA [] s₁ H ⟨[.ref a], []⟩ [.ref a] [.ref a] _ _ rfl hr e0
    (hbind s₁ (.ref a)) (.cons rfl .nil) hsp) ?_
  intro r s' h
  cases r with
  | error e => exact (hCX e s' h).elim
  | ok fl =>
    cases fl with
    | next => exact False.elim h
    | brk => exact False.elim h
    | cont => exact False.elim h
    | ret u =>
      obtain ⟨v, H', os, bare, un, hok', r', q⟩ := h
      have q' : v = .bl true := q
      subst q'
      have r2 : u = Value.bool true := r'
      subst r2
      refine ⟨rfl, OldK.of_keep ?_, os, bare⟩
      intro b o e
      cases q : H b with
      | none => exact un.keep b o e q (by intro z; cases z) (by intro z; cases z)
      | some u =>
        rcases hO b with z | ⟨ob, xs, z⟩
        · rw [q] at z
          cases z
        · have z2 := un.frzs b ob _ z
          have e1 := (hok b _ z).1
          have e2 := (hok' b _ z2).1
          rw [e] at e1
          cases e1
          exact e2
theorem call_G {P : Program} {w : World} {K : PySem.W.Frag} {mg mb : Str → Option Value} {CX : CXT} {k : Nat}
    {fa a : Addr} {fd : FuncData} {x : Str} {sp : Sp} {s₁ : Shared} {vs : List Value} {ns : List Int}
    (KX : K.In s₁.heap) (hns : s₁.heap.Ns mainGlobals mg) (hb : s₁.heap.Ns builtinsNs mb)
    (hbb : ∀ x : Str, x ≠ "__name__" → mb x = bootBuiltins x) (hlim : s₁.heap.NoLimit) (hg : s₁.gens = #[])
    (ha : s₁.heap.get? a = some { cls := .type "list", data := .seq vs.toArray }) (hi : IntsAre vs ns)
    (hl : ns.length ≤ sizeLine) (hr : Room k callerA)
    (F : ∀ base : Heap, K.In base → base.Ns mainGlobals mg → FnG P w K mg base CX k fa fd [x] sp)
    (hbind : ∀ (s : Shared) (u : Value), BindsTo s fd ⟨[u], []⟩ [(x, u)])
    (hsp : ∀ H : Hp, SqL K H a (ns.map V.int) → sp [.ref a] H (fun v _ => v = .bl true) fun _ _ _ => False)
    (hCX : ∀ H e s', CX [] H s₁ (fun _ _ _ => False) e s' → False) :
    codeAny (model P w) callerA (.call (.ref fa) ⟨[.ref a], []⟩) (fun r s' =>
      r = .ok (.ret (.bool true)) ∧ OldK s₁.heap s'.heap ∧ s'.os = s₁.os ∧ AllBare s'.gens) s₁ := by
  have rv := vals_ints hi
  have lenV := hi.length
  cases hk : K.lookup a with
  | some o =>
    have e := KX a o hk
    rw [ha] at e
    cases e
    refine core_run (H := fun _ => none) (ns := ns) KX hns hb hbb hlim hg ha hr F hbind (fun b => Or.inl rfl)
      (fun b u z => by cases z) (fun b z => absurd rfl z) (fun z => absurd rfl z) (hsp _ ?_) (hCX _)
    refine Or.inr ⟨_, vs.toArray, _, hk, rfl, rfl, rfl, ?_, by simpa using rv⟩
    rw [List.size_toArray, lenV]
    exact hl
  | none =>
    let Hs : Hp := fun b => if b = a then some (.frz { cls := .type "list", data := .seq vs.toArray } (.lst (ns.map V.int))) else none
    have at_a : Hs a = some (.frz { cls := .type "list", data := .seq vs.toArray } (.lst (ns.map V.int))) := if_pos rfl
    have off : ∀ b, b ≠ a → Hs b = none := fun b hne => if_neg hne
    refine core_run (H := Hs) (ns := ns) KX hns hb hbb hlim hg ha hr F hbind (fun b => ?_)
      (fun b u z => ?_) (fun b z => ?_) (fun _ => hk) (hsp _ (Or.inl (Or.inr ⟨_, at_a⟩))) (hCX _)
    · by_cases q : b = a
      · subst q
        exact Or.inr ⟨_, _, at_a⟩
      · exact Or.inl (off b q)
    · by_cases q : b = a
      · subst q
        rw [at_a] at z
        cases z
        exact ⟨ha, by rw [List.length_map]; exact hl, vs, _, rv, ha⟩
      · rw [off b q] at z
        cases z
    · by_cases q : b = a
      · exact q
      · exact absurd (off b q) z
/-- what k_head leaves, from a promise where no repr is under way -/
theorem walk_G {l : PySem.W.OpenLaw} {n k : Nat} {q : Program} {loose : List Str}
    {XP : (Str → Option Value) → Heap → Prop} {YP : World → Heap → Prop} {d : DefRec} {K : Params → PySem.W.Frag}
    {CX : World → CXT} {sp : PySem.W.Frag → Sp} {x : Str}
    (hn : l.most = some n) (hn2 : n ≤ sizeLine) (hdf : d.params.defaults = []) (hr : Room k callerA)
    (hY : ∀ (w : World) (h : Heap), YP w h → (K w.params).In h)
    (F : ∀ (w : World) (mg : Str → Option Value) (fa : Addr) (h : Heap), (K w.params).In h →
      h.Ns mainGlobals mg → mg d.name = some (.ref fa) →
      ∃ fd : FuncData, (∀ (s : Shared) (u : Value), BindsTo s fd ⟨[u], []⟩ [(x, u)]) ∧
        ∀ base : Heap, (K w.params).In base → base.Ns mainGlobals mg →
          FnG l.prog w (K w.params) mg base (CX w) k fa fd [x] (sp (K w.params)))
    (hsp : ∀ (K : PySem.W.Frag) (H : Hp) (a : Addr) (ns : List Int), ns.length ≤ n → SqL K H a (ns.map V.int) →
      sp K [.ref a] H (fun v _ => v = .bl true) fun _ _ _ => False)
    (hCX : ∀ (w : World) (H : Hp) (s : Shared) (e : Value) (s' : Shared), CX w [] H s (fun _ _ _ => False) e s' → False) :
    PySem.W.WalkO q loose XP YP l.row.toRowW d [] (fun f vs => PySem.call f vs) := by
  refine Att.attach_call hn hdf ?_
  intro w s₀ s₁ mg mb fa o pm cd doc a vs ns G Y ho hd hcd hmg hobj hints hlen hg
  have KX := hY w _ Y
  obtain ⟨fd, hb, hF⟩ := F w mg fa _ KX G.T.g hmg
  exact call_G KX G.T.g G.T.b G.T.builtins G.T.nolimit hg hobj hints (Nat.le_trans hlen hn2) hr hF hb
    (fun H hS => hsp _ H a ns hlen hS) (fun H e s' => hCX w H s₁ e s')
end G

set_option Elab.async false
set_option linter.all false
set_option maxRecDepth 100000
set_option maxHeartbeats 4000000
namespace Dl
open PySem PySem.Spec PyProof.Rows L2 Evl

abbrev D := PyData

theorem ex_l {K : PySem.W.Frag} {H H' : Hp} {a : Addr} {xs : List V} (e : Ex H H') : SqL K H a xs → SqL K H' a xs
  | .inl h => .inl (ex_rd e h)
  | .inr h => .inr h
mutual
inductive Rep (K : PySem.W.Frag) (F : Hp) : V → D → Prop
  | non : Rep K F .non .none
  | bl (b : Bool) : Rep K F (.bl b) (.bool b)
  | int (i : Int) : Rep K F (.int i) (.int i)
  | str (x : Str) : Rep K F (.str x) (.str x)
  | lst {a : Addr} {xs : List V} {ds : List D} : SqL K F a xs → Reps K F xs ds → Rep K F (.ref a) (.list ds)
  | tup {a : Addr} {xs : List V} {ds : List D} : SqT K F a xs → Reps K F xs ds → Rep K F (.ref a) (.tuple ds)
inductive Reps (K : PySem.W.Frag) (F : Hp) : List V → List D → Prop
  | nil : Reps K F [] []
  | cons {v : V} {d : D} {vs : List V} {ds : List D} : Rep K F v d → Reps K F vs ds → Reps K F (v :: vs) (d :: ds)
end
section
variable {K : PySem.W.Frag} {F F' H H' : Hp}
mutual
theorem Rep.mono {v : V} {d : D} (e : Ex F F') : Rep K F v d → Rep K F' v d
  | .non => .non
  | .bl b => .bl b
  | .int i => .int i
  | .str x => .str x
  | .lst h r => .lst (ex_l e h) (Reps.mono e r)
  | .tup h r => .tup (ex_t e h) (Reps.mono e r)
theorem Reps.mono {vs : List V} {ds : List D} (e : Ex F F') : Reps K F vs ds → Reps K F' vs ds
  | .nil => .nil
  | .cons h r => .cons (Rep.mono e h) (Reps.mono e r)
end
theorem Reps.length : ∀ {vs : List V} {ds : List D}, Reps K F vs ds → vs.length = ds.length
  | _, _, .nil => rfl
  | _, _, .cons _ r => congrArg (· + 1) (Reps.length r)
theorem Reps.get : ∀ {vs : List V} {ds : List D} {i : Nat} {d : D}, Reps K F vs ds → ds[i]? = some d → ∃ v, vs[i]? = some v ∧ Rep K F v d
  | _, _, _, _, .nil, e => by simp at e
  | _, _, 0, _, .cons h _, e => by
    simp at e
    subst e
    exact ⟨_, rfl, h⟩
  | _, _, i + 1, d, .cons _ r, e => by
    obtain ⟨v, a, b⟩ := Reps.get (i := i) (d := d) r (by simpa using e)
    exact ⟨v, by simpa using a, b⟩
theorem Reps.getV : ∀ {vs : List V} {ds : List D} {i : Nat} {v : V}, Reps K F vs ds → vs[i]? = some v → ∃ d, ds[i]? = some d ∧ Rep K F v d
  | _, _, _, _, .nil, e => by simp at e
  | _, _, 0, _, .cons h _, e => by
    simp at e
    subst e
    exact ⟨_, rfl, h⟩
  | _, _, i + 1, v, .cons _ r, e => by
    obtain ⟨d, a, b⟩ := Reps.getV (i := i) (v := v) r (by simpa using e)
    exact ⟨d, by simpa using a, b⟩
theorem Reps.append : ∀ {vs ws : List V} {ds es : List D}, Reps K F vs ds → Reps K F ws es → Reps K F (vs ++ ws) (ds ++ es)
  | _, _, _, _, .nil, s => s
  | _, _, _, _, .cons h r, s => .cons h (Reps.append r s)
theorem Reps.take : ∀ {vs : List V} {ds : List D} (n : Nat), Reps K F vs ds → Reps K F (vs.take n) (ds.take n)
  | _, _, 0, _ => .nil
  | _, _, _ + 1, .nil => .nil
  | _, _, n + 1, .cons h r => .cons h (Reps.take n r)
theorem Reps.drop : ∀ {vs : List V} {ds : List D} (n : Nat), Reps K F vs ds → Reps K F (vs.drop n) (ds.drop n)
  | _, _, 0, r => r
  | _, _, _ + 1, .nil => .nil
  | _, _, n + 1, .cons _ r => Reps.drop n r
theorem Reps.set {v : V} {d : D} (h : Rep K F v d) : ∀ {vs : List V} {ds : List D} (i : Nat), Reps K F vs ds → Reps K F (vs.set i v) (ds.set i d)
  | _, _, _, .nil => .nil
  | _, _, 0, .cons _ r => .cons h r
  | _, _, i + 1, .cons q r => .cons q (Reps.set h i r)
theorem Reps.eraseIdx : ∀ {vs : List V} {ds : List D} (i : Nat), Reps K F vs ds → Reps K F (vs.eraseIdx i) (ds.eraseIdx i)
  | _, _, _, .nil => .nil
  | _, _, 0, .cons _ r => r
  | _, _, i + 1, .cons q r => .cons q (Reps.eraseIdx i r)
theorem Reps.one {v : V} {d : D} (h : Rep K F v d) : Reps K F [v] [d] := .cons h .nil
theorem Reps.replicate {v : V} {d : D} (h : Rep K F v d) : ∀ n, Reps K F (List.replicate n v) (List.replicate n d)
  | 0 => .nil
  | n + 1 => .cons h (Reps.replicate h n)
theorem Rep.int_inv {v : V} {i : Int} (h : Rep K F v (.int i)) : v = .int i := by
  cases h
  rfl
theorem Rep.bool_inv {v : V} {b : Bool} (h : Rep K F v (.bool b)) : v = .bl b := by
  cases h
  rfl
theorem Rep.str_inv {v : V} {x : Str} (h : Rep K F v (.str x)) : v = .str x := by
  cases h
  rfl
theorem Rep.none_inv {v : V} (h : Rep K F v .none) : v = .non := by
  cases h
  rfl
theorem Rep.list_inv {v : V} {ds : List D} (h : Rep K F v (.list ds)) : ∃ a xs, v = .ref a ∧ SqL K F a xs ∧ Reps K F xs ds := by
  cases h with
  | lst h r => exact ⟨_, _, rfl, h, r⟩
theorem Rep.tuple_inv {v : V} {ds : List D} (h : Rep K F v (.tuple ds)) : ∃ a xs, v = .ref a ∧ SqT K F a xs ∧ Reps K F xs ds := by
  cases h with
  | tup h r => exact ⟨_, _, rfl, h, r⟩
theorem Rep.nodict {v : V} {kvs : List (D × D)} (h : Rep K F v (.dict kvs)) : False := by cases h
theorem Reps.ints : ∀ ns : List Int, Reps K F (ns.map V.int) (ns.map PyData.int)
  | [] => .nil
  | n :: r => .cons (.int n) (Reps.ints r)
end
/-! ### what the model's own reading of data says -/
section
variable {X : Cx} {pins : List (Addr × Obj)} {σ : L2.St} {H F : Hp} {s : Shared}
mutual
theorem Rep.reads {v : V} {u : Value} {d : D} (I : Inv X pins σ H s) (e : Ex F H) : Rep X.K F v d → RelV v u → ∃ as, Reads s.heap u d as
  | .non, r => by
    cases (show u = Value.none from r)
    exact ⟨_, .none⟩
  | .bl b, r => by
    cases (show u = Value.bool b from r)
    exact ⟨_, .bool b⟩
  | .int i, r => by
    obtain ⟨t, rfl⟩ := r
    exact ⟨_, .int i t⟩
  | .str x, r => by
    obtain ⟨t, rfl⟩ := r
    exact ⟨_, .str x t⟩
  | .lst (a := a) (xs := xs) (ds := ds) h q, r => by
    cases (show u = Value.ref a from r)
    obtain ⟨its, rv, ⟨o, n, ho, hc, _, hd⟩, _⟩ := I.list (ex_l e h)
    obtain ⟨as, ra⟩ := Reps.reads I e q rv
    exact ⟨_, .list ho hc hd (by simpa using ra)⟩
  | .tup (a := a) (xs := xs) (ds := ds) h q, r => by
    cases (show u = Value.ref a from r)
    obtain ⟨its, rv, ht, _⟩ := I.tuple (ex_t e h)
    obtain ⟨o, ho, hc, n, hd⟩ := ht
    obtain ⟨as, ra⟩ := Reps.reads I e q rv
    exact ⟨_, .tuple ho hc hd (by simpa using ra)⟩
theorem Reps.reads {vs : List V} {us : List Value} {ds : List D} (I : Inv X pins σ H s) (e : Ex F H) : Reps X.K F vs ds → Vals vs us → ∃ as, ReadsAll s.heap us ds as
  | .nil, r => by
    cases r
    exact ⟨_, .nil⟩
  | .cons h q, r => by
    cases r with
    | cons r1 r2 =>
      obtain ⟨as, a⟩ := Rep.reads I e h r1
      obtain ⟨bs, b⟩ := Reps.reads I e q r2
      exact ⟨_, .cons a b⟩
end
end
end Dl

set_option Elab.async false
set_option linter.all false
set_option maxRecDepth 100000
set_option maxHeartbeats 4000000
namespace Dl
open PySem PySem.Spec PyProof.Rows L2 Evl
/-! ### slots -/
/-- what stood at a def's entry: what is frozen, all, the list that is lent -/
structure Cd where
  F0 : Hp
  B : Hp
  cell : Option Addr
inductive Slot where
  | no
  | any
  | dat (d : D)
  | own (ds : List D)
  | cel (ds : List D)
  | obj (u : HO)
abbrev Env := List Slot
def SlotOk (K : PySem.W.Frag) (B : Cd) (F H : Hp) : Slot → Option V → Prop
  | .no, o => o = none
  | .any, _ => True
  | .dat d, o => ∃ v, o = some v ∧ Rep K F v d
  | .own ds, o => ∃ p xs, o = some (.ref p) ∧ F p = none ∧ B.B p = none ∧ H p = some (.lst xs) ∧ Reps K F xs ds
  | .cel ds, o => ∃ p xs, o = some (.ref p) ∧ F p = none ∧ B.cell = some p ∧ H p = some (.lst xs) ∧ Reps K F xs ds
  | .obj u, o => ∃ p, o = some (.ref p) ∧ F p = none ∧ B.B p = none ∧ H p = some u
def Slot.owns : Slot → Bool
  | .own _ => true
  | .cel _ => true
  | .obj _ => true
  | _ => false
structure RelP (K : PySem.W.Frag) (B : Cd) (F : Hp) (ρ : Env) (σ : L2.St) (H : Hp) : Prop where
  fh : Ex F H
  len : ρ.length = σ.length
  ok : ∀ (i : Nat) (s : Slot) (o : Option V), ρ[i]? = some s → σ[i]? = some o → SlotOk K B F H s o
  ne : ∀ (i j : Nat) (s t : Slot) (p : Addr), i ≠ j → ρ[i]? = some s → ρ[j]? = some t → s.owns = true → t.owns = true →
    σ[i]? = some (some (.ref p)) → σ[j]? = some (some (.ref p)) → False
/-- what evaluation may do: more is laid, nothing that stood is touched, what was not frozen but stood is not frozen now -/
structure Step (F H F' H' : Hp) : Prop where
  ff : Ex F F'
  fh : Ex F' H'
  hh : Ex H H'
  nn : ∀ a, F a = none → H a ≠ none → F' a = none
theorem ex_some {H H' : Hp} {a : Addr} (e : Ex H H') (h : H a ≠ none) : H' a ≠ none := by
  cases q : H a with
  | none => exact absurd q h
  | some o =>
    rw [e a o q]
    exact Option.some_ne_none o
theorem Step.refl {F H : Hp} (e : Ex F H) : Step F H F H := ⟨Ex.refl F, e, Ex.refl H, fun _ h _ => h⟩
theorem Step.trans {F H F' H' F'' H'' : Hp} (a : Step F H F' H') (b : Step F' H' F'' H'') : Step F H F'' H'' :=
  ⟨a.ff.trans b.ff, b.fh, a.hh.trans b.hh, fun x h1 h2 => b.nn x (a.nn x h1 h2) (ex_some a.hh h2)⟩
/-- a new object, frozen at once -/
theorem Step.new {F H : Hp} {p : Addr} {o : HO} (e : Ex F H) (hp : H p = none) : Step F H (upd F p o) (upd H p o) := by
  have fp : F p = none := fresh_back e hp
  refine ⟨Ex.new fp, ?_, Ex.new hp, ?_⟩
  · intro a u h
    by_cases q : a = p
    · subst q
      rw [upd_same] at h ⊢
      exact h
    · rw [upd_ne q] at h ⊢
      exact e a u h
  · intro a h1 h2
    by_cases q : a = p
    · subst q
      exact absurd hp h2
    · rw [upd_ne q]
      exact h1
/-- a new object that is not frozen -/
theorem Step.lay {F H : Hp} {p : Addr} {o : HO} (e : Ex F H) (hp : H p = none) : Step F H F (upd H p o) :=
  ⟨Ex.refl F, e.trans (Ex.new hp), Ex.new hp, fun _ h _ => h⟩
section
variable {K : PySem.W.Frag} {B : Cd} {F F' H H' : Hp} {ρ : Env} {σ : L2.St}
theorem SlotOk.step {s : Slot} {o : Option V} (st : Step F H F' H') (h : SlotOk K B F H s o) : SlotOk K B F' H' s o := by
  cases s with
  | no => exact h
  | any => trivial
  | dat d =>
    obtain ⟨v, a, b⟩ := h
    exact ⟨v, a, b.mono st.ff⟩
  | own ds =>
    obtain ⟨p, xs, a, b, c, d, e⟩ := h
    exact ⟨p, xs, a, st.nn p b (by rw [d]; exact Option.some_ne_none _), c, st.hh p _ d, e.mono st.ff⟩
  | cel ds =>
    obtain ⟨p, xs, a, b, c, d, e⟩ := h
    exact ⟨p, xs, a, st.nn p b (by rw [d]; exact Option.some_ne_none _), c, st.hh p _ d, e.mono st.ff⟩
  | obj u =>
    obtain ⟨p, a, b, c, d⟩ := h
    exact ⟨p, a, st.nn p b (by rw [d]; exact Option.some_ne_none _), c, st.hh p _ d⟩
theorem RelP.step (st : Step F H F' H') (h : RelP K B F ρ σ H) : RelP K B F' ρ σ H' :=
  ⟨st.fh, h.len, fun i s o a b => (h.ok i s o a b).step st, h.ne⟩
theorem RelP.var {i : Nat} {d : D} (h : RelP K B F ρ σ H) (e : ρ[i]? = some (.dat d)) : ∃ v, σ[i]? = some (some v) ∧ Rep K F v d := by
  have hi : i < σ.length := by
    rw [← h.len]
    exact (List.getElem?_eq_some_iff.mp e).1
  obtain ⟨v, a, b⟩ := h.ok i _ σ[i] e (List.getElem?_eq_getElem hi)
  exact ⟨v, by rw [List.getElem?_eq_getElem hi, a], b⟩
theorem RelP.ownv {i : Nat} {ds : List D} (h : RelP K B F ρ σ H) (e : ρ[i]? = some (.own ds)) :
    ∃ p xs, σ[i]? = some (some (.ref p)) ∧ F p = none ∧ B.B p = none ∧ H p = some (.lst xs) ∧ Reps K F xs ds := by
  have hi : i < σ.length := by
    rw [← h.len]
    exact (List.getElem?_eq_some_iff.mp e).1
  obtain ⟨p, xs, a, b⟩ := h.ok i _ σ[i] e (List.getElem?_eq_getElem hi)
  exact ⟨p, xs, by rw [List.getElem?_eq_getElem hi, a], b⟩
theorem RelP.objv {i : Nat} {u : HO} (h : RelP K B F ρ σ H) (e : ρ[i]? = some (.obj u)) :
    ∃ p, σ[i]? = some (some (.ref p)) ∧ F p = none ∧ B.B p = none ∧ H p = some u := by
  have hi : i < σ.length := by
    rw [← h.len]
    exact (List.getElem?_eq_some_iff.mp e).1
  obtain ⟨p, a, b⟩ := h.ok i _ σ[i] e (List.getElem?_eq_getElem hi)
  exact ⟨p, by rw [List.getElem?_eq_getElem hi, a], b⟩
theorem RelP.celv {i : Nat} {ds : List D} (h : RelP K B F ρ σ H) (e : ρ[i]? = some (.cel ds)) :
    ∃ p xs, σ[i]? = some (some (.ref p)) ∧ F p = none ∧ B.cell = some p ∧ H p = some (.lst xs) ∧ Reps K F xs ds := by
  have hi : i < σ.length := by
    rw [← h.len]
    exact (List.getElem?_eq_some_iff.mp e).1
  obtain ⟨p, xs, a, b⟩ := h.ok i _ σ[i] e (List.getElem?_eq_getElem hi)
  exact ⟨p, xs, by rw [List.getElem?_eq_getElem hi, a], b⟩
/-- a slot is set to what owns nothing -/
theorem RelP.put {i : Nat} {s : Slot} {o : Option V} (h : RelP K B F ρ σ H) (n : s.owns = false) (ok : SlotOk K B F H s o) :
    RelP K B F (ρ.set i s) (σ.set i o) H := by
  refine ⟨h.fh, by simp [h.len], ?_, ?_⟩
  · intro j t u e1 e2
    by_cases q : i = j
    · subst q
      have hi : i < ρ.length := by
        have := (List.getElem?_eq_some_iff.mp e1).1
        simpa using this
      rw [List.getElem?_set_self hi] at e1
      rw [List.getElem?_set_self (by rw [← h.len]; exact hi)] at e2
      cases e1
      cases e2
      exact ok
    · rw [List.getElem?_set_ne q] at e1 e2
      exact h.ok j t u e1 e2
  · intro j k t u p hjk e1 e2 o1 o2 s1 s2
    have away : ∀ {j : Nat} {t : Slot}, (ρ.set i s)[j]? = some t → t.owns = true → i ≠ j := by
      intro j t e o1 q
      subst q
      have hi : i < ρ.length := by
        have := (List.getElem?_eq_some_iff.mp e).1
        simpa using this
      rw [List.getElem?_set_self hi] at e
      cases e
      rw [n] at o1
      cases o1
    have a1 := away e1 o1
    have a2 := away e2 o2
    rw [List.getElem?_set_ne a1] at e1 s1
    rw [List.getElem?_set_ne a2] at e2 s2
    exact h.ne j k t u p hjk e1 e2 o1 o2 s1 s2
theorem RelP.dat {i : Nat} {v : V} {d : D} (h : RelP K B F ρ σ H) (r : Rep K F v d) : RelP K B F (ρ.set i (.dat d)) (σ.set i (some v)) H :=
  h.put rfl ⟨v, rfl, r⟩
/-- an owned address is not another owned slot's -/
theorem RelP.mine {i j : Nat} {s t : Slot} {p q : Addr} (h : RelP K B F ρ σ H) (hij : i ≠ j) (e1 : ρ[i]? = some s) (e2 : ρ[j]? = some t) (o1 : s.owns = true) (o2 : t.owns = true)
    (s1 : σ[i]? = some (some (.ref p))) (s2 : σ[j]? = some (some (.ref q))) : p ≠ q := by
  intro e
  subst e
  exact h.ne i j s t p hij e1 e2 o1 o2 s1 s2
/-- an owning slot's address stands in the heap, unfrozen -/
theorem SlotOk.addr {s : Slot} {o : Option V} (h : SlotOk K B F H s o) (ow : s.owns = true) : ∃ p, o = some (.ref p) ∧ F p = none ∧ H p ≠ none := by
  cases s with
  | no => cases ow
  | any => cases ow
  | dat d => cases ow
  | own ds =>
    obtain ⟨p, xs, a, b, c, d, _⟩ := h
    exact ⟨p, a, b, by rw [d]; exact Option.some_ne_none _⟩
  | cel ds =>
    obtain ⟨p, xs, a, b, c, d, _⟩ := h
    exact ⟨p, a, b, by rw [d]; exact Option.some_ne_none _⟩
  | obj u =>
    obtain ⟨p, a, b, c, d⟩ := h
    exact ⟨p, a, b, by rw [d]; exact Option.some_ne_none _⟩
/-- a slot is set to a new owned object, at p that no other slot owns -/
theorem RelP.take {i : Nat} {s : Slot} {p : Addr} (h : RelP K B F ρ σ H) (ow : s.owns = true) (ok : SlotOk K B F H s (some (.ref p)))
    (fresh : ∀ (j : Nat) (t : Slot), j ≠ i → ρ[j]? = some t → t.owns = true → σ[j]? ≠ some (some (.ref p))) : RelP K B F (ρ.set i s) (σ.set i (some (.ref p))) H := by
  refine ⟨h.fh, by simp [h.len], ?_, ?_⟩
  · intro j t u e1 e2
    by_cases q : i = j
    · subst q
      have hi : i < ρ.length := by
        have := (List.getElem?_eq_some_iff.mp e1).1
        simpa using this
      rw [List.getElem?_set_self hi] at e1
      rw [List.getElem?_set_self (by rw [← h.len]; exact hi)] at e2
      cases e1
      cases e2
      exact ok
    · rw [List.getElem?_set_ne q] at e1 e2
      exact h.ok j t u e1 e2
  · have one : ∀ (j : Nat) (t : Slot) (q : Addr), j ≠ i → (ρ.set i s)[j]? = some t → t.owns = true → (σ.set i (some (.ref p)))[j]? = some (some (.ref q)) → q ≠ p := by
      intro j t q hj e o1 s1 z
      subst z
      rw [List.getElem?_set_ne (Ne.symm hj)] at e s1
      exact fresh j t hj e o1 s1
    have at_i : ∀ (t : Slot) (q : Addr), (ρ.set i s)[i]? = some t → (σ.set i (some (V.ref p)))[i]? = some (some (.ref q)) → q = p := by
      intro t q e s1
      have hi : i < σ.length := by
        have := (List.getElem?_eq_some_iff.mp s1).1
        simpa using this
      rw [List.getElem?_set_self hi] at s1
      cases s1
      rfl
    intro j k t u q hjk e1 e2 o1 o2 s1 s2
    by_cases hj : j = i
    · subst hj
      have z := at_i t q e1 s1
      exact one k u q (Ne.symm hjk) e2 o2 s2 z
    · by_cases hk : k = i
      · subst hk
        have z := at_i u q e2 s2
        exact one j t q hj e1 o1 s1 z
      · rw [List.getElem?_set_ne (Ne.symm hj)] at e1 s1
        rw [List.getElem?_set_ne (Ne.symm hk)] at e2 s2
        exact h.ne j k t u q hjk e1 e2 o1 o2 s1 s2
/-- at a new address -/
theorem RelP.takeNew {i : Nat} {s : Slot} {p : Addr} {o : HO} (h : RelP K B F ρ σ H) (hp : H p = none) (ow : s.owns = true) (ok : SlotOk K B F (upd H p o) s (some (.ref p))) :
    RelP K B F (ρ.set i s) (σ.set i (some (.ref p))) (upd H p o) := by
  have h1 : RelP K B F ρ σ (upd H p o) := h.step (Step.lay h.fh hp)
  refine h1.take ow ok ?_
  intro j t _ e o1 z
  obtain ⟨q, a, _, d⟩ := (h.ok j t _ e z).addr o1
  cases a
  exact d hp
/-! ### the slots of a comprehension's own names -/
def wipeD (ρ : Env) : List Nat → Env
  | [] => ρ
  | v :: vs => (wipeD ρ vs).set v .no
theorem RelP.wiped (h : RelP K B F ρ σ H) : ∀ vs : List Nat, RelP K B F (wipeD ρ vs) (wipe σ vs) H
  | [] => h
  | v :: vs => (RelP.wiped h vs).put rfl rfl
theorem wipe_at (σ : L2.St) : ∀ (vs : List Nat) (j : Nat), (wipe σ vs)[j]? = if j ∈ vs then (σ[j]?).map (fun _ => none) else σ[j]?
  | [], j => by simp [wipe]
  | v :: vs, j => by
    unfold wipe
    have ih := wipe_at σ vs j
    by_cases q : v = j
    · subst q
      by_cases hv : v < σ.length
      · rw [List.getElem?_set_self (by rw [wipe_length]; exact hv)]
        simp [hv]
      · rw [List.getElem?_eq_none (by simp [wipe_length]; omega)]
        simp [hv]
    · rw [List.getElem?_set_ne q, ih]
      have e : (j ∈ v :: vs) ↔ (j ∈ vs) := by
        constructor
        · intro z
          rcases List.mem_cons.mp z with z | z
          · exact absurd z.symm q
          · exact z
        · exact List.mem_cons_of_mem _
      by_cases z : j ∈ vs
      · rw [if_pos z, if_pos (e.mpr z)]
      · rw [if_neg z, if_neg (fun y => z (e.mp y))]
theorem wipe_set (σ : L2.St) {vs : List Nat} {i : Nat} (x : Option V) (hi : i ∈ vs) : wipe (σ.set i x) vs = wipe σ vs := by
  apply List.ext_getElem?
  intro j
  rw [wipe_at, wipe_at]
  by_cases q : i = j
  · subst q
    rw [if_pos hi, if_pos hi]
    by_cases hv : i < σ.length
    · rw [List.getElem?_set_self hv]
      simp [hv]
    · rw [List.getElem?_eq_none (by simp; omega), List.getElem?_eq_none (by omega)]
  · rw [List.getElem?_set_ne q]
theorem wipe_wipe (σ : L2.St) (vs : List Nat) : wipe (wipe σ vs) vs = wipe σ vs := by
  apply List.ext_getElem?
  intro j
  rw [wipe_at, wipe_at]
  by_cases q : j ∈ vs
  · rw [if_pos q, if_pos q]
    cases σ[j]? <;> rfl
  · rw [if_neg q, if_neg q]
end
end Dl

set_option Elab.async false
set_option linter.all false
set_option maxRecDepth 100000
set_option maxHeartbeats 4000000
namespace Dl
open PySem PySem.Spec PyProof.Rows L2 Evl
/-! ### readings over data -/
abbrev DPr := Env → (D → Prop) → Prop
abbrev DTr := Env → (Bool → Prop) → Prop
abbrev DAr := Env → (List D → Prop) → Prop
def SimP (K : PySem.W.Frag) (te : TE) (de : DPr) : Prop :=
  ∀ (B : Cd) (F : Hp) (ρ : Env) (σ : L2.St) (H : Hp) (P : D → Prop) (Q : VK), RelP K B F ρ σ H → de ρ P →
    (∀ v d F' H', P d → Rep K F' v d → Step F H F' H' → Q v H') → te σ H Q
def SimT (K : PySem.W.Frag) (tt : TT) (dt : DTr) : Prop :=
  ∀ (B : Cd) (F : Hp) (ρ : Env) (σ : L2.St) (H : Hp) (P : Bool → Prop) (Q : Bool → Hp → Prop), RelP K B F ρ σ H → dt ρ P →
    (∀ b F' H', P b → Step F H F' H' → Q b H') → tt σ H Q
def SimA (K : PySem.W.Frag) (ta : TA) (da : DAr) : Prop :=
  ∀ (B : Cd) (F : Hp) (ρ : Env) (σ : L2.St) (H : Hp) (P : List D → Prop) (Q : List V → Hp → Prop), RelP K B F ρ σ H → da ρ P →
    (∀ vs ds F' H', P ds → Reps K F' vs ds → Step F H F' H' → Q vs H') → ta σ H Q
/-- a new list that nobody else holds, not frozen yet -/
def SimN (K : PySem.W.Frag) (te : TE) (da : DAr) : Prop :=
  ∀ (B : Cd) (F : Hp) (ρ : Env) (σ : L2.St) (H : Hp) (P : List D → Prop) (Q : VK), RelP K B F ρ σ H → da ρ P →
    (∀ p vs ds F' H', P ds → H p = none → F' p = none → H' p = some (.lst vs) → Reps K F' vs ds → Step F H F' H' → Q (.ref p) H') → te σ H Q
def DP {ι : Type} (K : PySem.W.Frag) (X : ι → Cx) (e : Expr) (de : DPr) : Prop := ∃ te, (∀ c, PE (X c) e te) ∧ SimP K te de
def DT {ι : Type} (K : PySem.W.Frag) (X : ι → Cx) (e : Expr) (dt : DTr) : Prop := ∃ tt, (∀ c, PT (X c) e tt) ∧ SimT K tt dt
def DW {ι : Type} (K : PySem.W.Frag) (X : ι → Cx) (e : Expr) (dt : DTr) : Prop := ∃ tt, (∀ c, PW (X c) e tt) ∧ SimT K tt dt
def DA {ι : Type} (K : PySem.W.Frag) (X : ι → Cx) (es : List Expr) (da : DAr) : Prop := ∃ ta, (∀ c, PA (X c) es ta) ∧ SimA K ta da
def DN {ι : Type} (K : PySem.W.Frag) (X : ι → Cx) (e : Expr) (da : DAr) : Prop := ∃ te, (∀ c, PE (X c) e te) ∧ SimN K te da
/-- from a step that laid p unfrozen to one that has it frozen -/
theorem Step.freeze {F H F' H' : Hp} {p : Addr} {o : HO} (st : Step F H F' H') (h0 : H p = none) (hl : H' p = some o) : Step F H (upd F' p o) H' := by
  refine ⟨?_, ?_, st.hh, ?_⟩
  · intro x u hx
    by_cases q : x = p
    · subst q
      have a := st.hh
      have b := st.fh x u (st.ff x u hx)
      rw [upd_same]
      rw [hl] at b
      exact b
    · rw [upd_ne q]
      exact st.ff x u hx
  · intro x u hx
    by_cases q : x = p
    · subst q
      rw [upd_same] at hx
      rw [hl]
      exact hx
    · rw [upd_ne q] at hx
      exact st.fh x u hx
  · intro x h1 h2
    by_cases q : x = p
    · subst q
      exact absurd h0 h2
    · rw [upd_ne q]
      exact st.nn x h1 h2
section
variable {ι : Type} {K : PySem.W.Frag} {X : ι → Cx} {e a b c : Expr} {pos : Pos} {da db dc : DPr} {dt du : DTr} {es : List Expr}
def dFreeze (dn : DAr) : DPr := fun ρ P => dn ρ fun ds => P (.list ds)
theorem SimN.frozen {K : PySem.W.Frag} {te : TE} {dn : DAr} (h : SimN K te dn) : SimP K te (dFreeze dn) := by
  intro B F ρ σ H P Q R hd k
  refine h B F ρ σ H _ Q R hd ?_
  intro p vs ds F' H' hp h0 f0 hl rs st
  have st2 := st.freeze h0 hl
  refine k _ _ _ _ hp (.lst (Or.inl (Or.inl upd_same)) (rs.mono (Ex.new f0))) st2
theorem dp_new {dn : DAr} (h : DN K X e dn) : DP K X e (dFreeze dn) := let ⟨te, p, s⟩ := h; ⟨te, p, s.frozen⟩

def dVar (i : Nat) : DPr := fun ρ P => ∃ d, ρ[i]? = some (.dat d) ∧ P d
theorem dp_var {i : Nat} {x : Str} (h : ∀ c, PE (X c) (.Name x pos) (tVar i)) : DP K X (.Name x pos) (dVar i) := by
  refine ⟨_, h, ?_⟩
  intro B F ρ σ H P Q R hd k
  obtain ⟨d, e, p⟩ := hd
  obtain ⟨v, hv, r⟩ := R.var e
  exact ⟨v, hv, k v d F H p r (Step.refl R.fh)⟩
def dC (d : D) : DPr := fun _ P => P d
theorem sim_c {K : PySem.W.Frag} {v : V} {d : D} (h : ∀ F, Rep K F v d) : SimP K (tC v) (dC d) := by
  intro B F ρ σ H P Q R hd k
  exact k v d F H hd (h F) (Step.refl R.fh)
theorem dp_int {i j pos} : DP K X (.Constant (.int i) j pos) (dC (.int i)) := ⟨_, fun _ => pe_int, sim_c fun _ => .int i⟩
theorem dp_bl {b j pos} : DP K X (.Constant (.bool b) j pos) (dC (.bool b)) := ⟨_, fun _ => pe_bl, sim_c fun _ => .bl b⟩
theorem dp_non {j pos} : DP K X (.Constant .none j pos) (dC .none) := ⟨_, fun _ => pe_non, sim_c fun _ => .non⟩
theorem dp_str {x j pos} : DP K X (.Constant (.str x) j pos) (dC (.str x)) := ⟨_, fun _ => pe_str, sim_c fun _ => .str x⟩
theorem dp_glob {x : Str} {v : V} {d : D} (h : ∀ c, PE (X c) (.Name x pos) (tC v)) (hr : ∀ F, Rep K F v d) : DP K X (.Name x pos) (dC d) := ⟨_, h, sim_c hr⟩

/-! #### operators -/
def OpD (K : PySem.W.Frag) (r : R2) (f : D → D → (D → Prop) → Prop) : Prop :=
  ∀ (F H : Hp) (x y : V) (dx dy : D) (P : D → Prop) (Q : VK), Ex F H → Rep K F x dx → Rep K F y dy → f dx dy P →
    (∀ v d F' H', P d → Rep K F' v d → Step F H F' H' → Q v H') → r x y H Q
def dOp (f : D → D → (D → Prop) → Prop) (da db : DPr) : DPr := fun ρ P => da ρ fun x => db ρ fun y => f x y P
theorem SimP.op {K : PySem.W.Frag} {r : R2} {f : D → D → (D → Prop) → Prop} {ta tb : TE} (hf : OpD K r f) (ha : SimP K ta da) (hb : SimP K tb db) : SimP K (tOp r ta tb) (dOp f da db) := by
  intro B F ρ σ H P Q R hd k
  refine ha B F ρ σ H _ _ R hd ?_
  intro v1 d1 F1 H1 p1 r1 s1
  refine hb B F1 ρ σ H1 _ _ (R.step s1) p1 ?_
  intro v2 d2 F2 H2 p2 r2 s2
  refine hf F2 H2 v1 v2 d1 d2 P Q s2.fh (r1.mono s2.ff) r2 p2 ?_
  intro v d F3 H3 p3 r3 s3
  exact k v d F3 H3 p3 r3 ((s1.trans s2).trans s3)
theorem dp_bin {op : Operator} {r : R2} {f : D → D → (D → Prop) → Prop} (ho : ∀ c, OpR (X c) (binaryOp op) r) (hf : OpD K r f) (ha : DP K X a da) (hb : DP K X b db) : DP K X (.BinOp a op b pos) (dOp f da db) := by
  obtain ⟨ta, pa, sa⟩ := ha
  obtain ⟨tb, pb, sb⟩ := hb
  exact ⟨_, fun c => pe_op (ho c) (pa c) (pb c), SimP.op hf sa sb⟩
theorem dp_cmp {op : CmpOp} {r : R2} {f : D → D → (D → Prop) → Prop} (ho : ∀ c, OpR (X c) (compareOp op) r) (hf : OpD K r f) (ha : DP K X a da) (hb : DP K X b db)
    (hm : behindInMarks op b = false := by first | exact nobehind _ (by decide) (by decide) | rfl) : DP K X (.Compare a [op] [b] pos) (dOp f da db) := by
  obtain ⟨ta, pa, sa⟩ := ha
  obtain ⟨tb, pb, sb⟩ := hb
  exact ⟨_, fun c => pe_cmpR (ho c) (pa c) (pb c) hm, SimP.op hf sa sb⟩
def dChain (f g : D → D → (D → Prop) → Prop) (da db dc : DPr) : DPr := fun ρ P => da ρ fun x => db ρ fun y => f x y fun z => ∃ b, z = .bool b ∧ if b = true then dc ρ fun w => g y w P else P (.bool false)
theorem SimP.chain {r r' : R2} {f g : D → D → (D → Prop) → Prop} {ta tb tc : TE} (hf : OpD K r f) (hg : OpD K r' g) (sa : SimP K ta da) (sb : SimP K tb db) (sc : SimP K tc dc) : SimP K (tChain r r' ta tb tc) (dChain f g da db dc) := by
  intro B F ρ σ H P Q R hd k
  refine sa B F ρ σ H _ _ R hd ?_
  intro v1 d1 F1 H1 p1 r1 s1
  refine sb B F1 ρ σ H1 _ _ (R.step s1) p1 ?_
  intro v2 d2 F2 H2 p2 r2 s2
  refine hf F2 H2 v1 v2 d1 d2 _ _ s2.fh (r1.mono s2.ff) r2 p2 ?_
  intro v d F3 H3 p3 r3 s3
  obtain ⟨z, rfl, p3⟩ := p3
  have e := r3.bool_inv
  subst e
  refine ⟨z, rfl, ?_⟩
  cases z with
  | false => exact k _ _ F3 H3 p3 (.bl false) ((s1.trans s2).trans s3)
  | true =>
    show tc σ H3 fun w' H4 => r' v2 w' H4 Q
    have p3' : dc ρ fun w => g d2 w P := p3
    refine sc B F3 ρ σ H3 _ _ (R.step ((s1.trans s2).trans s3)) p3' ?_
    intro v4 d4 F4 H4 p4 r4 s4
    refine hg F4 H4 v2 v4 d2 d4 P Q s4.fh (r2.mono (s3.ff.trans s4.ff)) r4 p4 ?_
    intro v5 d5 F5 H5 p5 r5 s5
    exact k v5 d5 F5 H5 p5 r5 ((((s1.trans s2).trans s3).trans s4).trans s5)
theorem dp_chain {op op' : CmpOp} {r r' : R2} {f g : D → D → (D → Prop) → Prop} (ho : ∀ c, OpR (X c) (compareOp op) r) (ho' : ∀ c, OpR (X c) (compareOp op') r') (hf : OpD K r f) (hg : OpD K r' g) (ha : DP K X a da) (hb : DP K X b db) (hc : DP K X c dc)
    (hm : lastMarks [op, op'] [b, c] = false := by with_unfolding_all rfl) : DP K X (.Compare a [op, op'] [b, c] pos) (dChain f g da db dc) := by
  obtain ⟨ta, pa, sa⟩ := ha
  obtain ⟨tb, pb, sb⟩ := hb
  obtain ⟨tc, pc, sc⟩ := hc
  exact ⟨_, fun i => pe_chain (ho i) (ho' i) (pa i) (pb i) (pc i) hm, SimP.chain hf hg sa sb sc⟩
def UnD (K : PySem.W.Frag) (r : V → Hp → VK → Prop) (f : D → (D → Prop) → Prop) : Prop :=
  ∀ (F H : Hp) (x : V) (dx : D) (P : D → Prop) (Q : VK), Ex F H → Rep K F x dx → f dx P →
    (∀ v d F' H', P d → Rep K F' v d → Step F H F' H' → Q v H') → r x H Q
def dUn (f : D → (D → Prop) → Prop) (da : DPr) : DPr := fun ρ P => da ρ fun x => f x P
theorem dp_un {op : UnaryOp} {r : V → Hp → VK → Prop} {f : D → (D → Prop) → Prop} (ho : ∀ c, UnR (X c) (unaryOp op) r) (hf : UnD K r f) (ha : DP K X a da) : DP K X (.UnaryOp op a pos) (dUn f da) := by
  obtain ⟨ta, pa, sa⟩ := ha
  refine ⟨_, fun c => pe_un (ho c) (pa c), ?_⟩
  intro B F ρ σ H P Q R hd k
  refine sa B F ρ σ H _ _ R hd ?_
  intro v1 d1 F1 H1 p1 r1 s1
  refine hf F1 H1 v1 d1 P Q s1.fh r1 p1 ?_
  intro v d F3 H3 p3 r3 s3
  exact k v d F3 H3 p3 r3 (s1.trans s3)
/-! #### tests -/
def dB (da : DPr) : DTr := fun ρ P => da ρ fun x => ∃ b, x = .bool b ∧ P b
theorem SimP.asB {K : PySem.W.Frag} {ta : TE} (h : SimP K ta da) : SimT K (tB ta) (dB da) := by
  intro B F ρ σ H P Q R hd k
  refine h B F ρ σ H _ _ R hd ?_
  intro v d F1 H1 p1 r1 s1
  obtain ⟨b, rfl, p⟩ := p1
  have e := r1.bool_inv
  subst e
  exact ⟨b, rfl, k b F1 H1 p s1⟩
theorem dt_val (h : DP K X e da) (he : ∀ c whole, isTrue e (X c).env whole = (do let v ← whole; standAt e.pos; holding [v] (truthy v)) := by intro _ _; rfl) : DT K X e (dB da) := by
  obtain ⟨te, p, s⟩ := h
  exact ⟨_, fun c => pt_val (p c) (he c), s.asB⟩
theorem SimP.test {ta : TE} (h : SimP K ta da) : SimT K (tTest ta) (dB da) := by
  intro B F ρ σ H P Q R hd k
  refine h B F ρ σ H _ _ R hd ?_
  intro v d F1 H1 p1 r1 s1
  obtain ⟨b, rfl, p⟩ := p1
  have e := r1.bool_inv
  subst e
  exact ⟨b, rfl, k b F1 H1 p s1⟩
theorem dt_cmp {op : CmpOp} {r : R2} {f : D → D → (D → Prop) → Prop} (ho : ∀ c, OpR (X c) (compareOp op) r) (hf : OpD K r f) (ha : DP K X a da) (hb : DP K X b db)
    (hm : behindInMarks op b = false := by first | exact nobehind _ (by decide) (by decide) | rfl) : DT K X (.Compare a [op] [b] pos) (dB (dOp f da db)) := by
  obtain ⟨ta, pa, sa⟩ := ha
  obtain ⟨tb, pb, sb⟩ := hb
  exact ⟨_, fun c => pt_cmpR (ho c) (pa c) (pb c) hm, (SimP.op hf sa sb).test⟩
theorem dt_chain {op op' : CmpOp} {r r' : R2} {f g : D → D → (D → Prop) → Prop} (ho : ∀ c, OpR (X c) (compareOp op) r) (ho' : ∀ c, OpR (X c) (compareOp op') r') (hf : OpD K r f) (hg : OpD K r' g) (ha : DP K X a da) (hb : DP K X b db) (hc : DP K X c dc)
    (hm : lastMarks [op, op'] [b, c] = false := by with_unfolding_all rfl) : DT K X (.Compare a [op, op'] [b, c] pos) (dB (dChain f g da db dc)) := by
  obtain ⟨ta, pa, sa⟩ := ha
  obtain ⟨tb, pb, sb⟩ := hb
  obtain ⟨tc, pc, sc⟩ := hc
  exact ⟨_, fun i => pt_chain (ho i) (ho' i) (pa i) (pb i) (pc i) hm, (SimP.chain hf hg sa sb sc).test⟩
def dAnd (dt du : DTr) : DTr := fun ρ P => dt ρ fun b => if b = true then du ρ P else P false
def dOr (dt du : DTr) : DTr := fun ρ P => dt ρ fun b => if b = true then P true else du ρ P
def dNot (dt : DTr) : DTr := fun ρ P => dt ρ fun b => P (!b)
theorem SimT.and {K : PySem.W.Frag} {tt tu : TT} (h : SimT K tt dt) (h' : SimT K tu du) : SimT K (tAnd tt tu) (dAnd dt du) := by
  intro B F ρ σ H P Q R hd k
  refine h B F ρ σ H _ _ R hd ?_
  intro b F1 H1 p1 s1
  cases b with
  | false => exact k false F1 H1 p1 s1
  | true =>
    show tu σ H1 Q
    refine h' B F1 ρ σ H1 P Q (R.step s1) p1 ?_
    intro c F2 H2 p2 s2
    exact k c F2 H2 p2 (s1.trans s2)
theorem SimT.or {K : PySem.W.Frag} {tt tu : TT} (h : SimT K tt dt) (h' : SimT K tu du) : SimT K (tOr tt tu) (dOr dt du) := by
  intro B F ρ σ H P Q R hd k
  refine h B F ρ σ H _ _ R hd ?_
  intro b F1 H1 p1 s1
  cases b with
  | true => exact k true F1 H1 p1 s1
  | false =>
    show tu σ H1 Q
    refine h' B F1 ρ σ H1 P Q (R.step s1) p1 ?_
    intro c F2 H2 p2 s2
    exact k c F2 H2 p2 (s1.trans s2)
theorem dw_and1 (h : DT K X a dt) : DW K X (.BoolOp .And [a] pos) dt := let ⟨_, p, s⟩ := h; ⟨_, fun c => pw_and1 (p c), s⟩
theorem dw_or1 (h : DT K X a dt) : DW K X (.BoolOp .Or [a] pos) dt := let ⟨_, p, s⟩ := h; ⟨_, fun c => pw_or1 (p c), s⟩
theorem dw_and {rest : List Expr} (h : DT K X a dt) (h' : DW K X (.BoolOp .And (b :: rest) pos) du) : DW K X (.BoolOp .And (a :: b :: rest) pos) (dAnd dt du) :=
  let ⟨_, p, s⟩ := h; let ⟨_, p', s'⟩ := h'; ⟨_, fun c => pw_and (p c) (p' c), s.and s'⟩
theorem dw_or {rest : List Expr} (h : DT K X a dt) (h' : DW K X (.BoolOp .Or (b :: rest) pos) du) : DW K X (.BoolOp .Or (a :: b :: rest) pos) (dOr dt du) :=
  let ⟨_, p, s⟩ := h; let ⟨_, p', s'⟩ := h'; ⟨_, fun c => pw_or (p c) (p' c), s.or s'⟩
theorem DW.t (h : DW K X e dt) : DT K X e dt := let ⟨_, p, s⟩ := h; ⟨_, fun c => (p c).pt, s⟩
theorem dt_not (h : DT K X a dt) : DT K X (.UnaryOp .Not a pos) (dNot dt) := by
  obtain ⟨tt, p, s⟩ := h
  refine ⟨_, fun c => pt_not (p c), ?_⟩
  intro B F ρ σ H P Q R hd k
  refine s B F ρ σ H _ _ R hd ?_
  intro b F1 H1 p1 s1
  exact k (!b) F1 H1 p1 s1
/-! #### and, or, not as values (of bools) -/
def dAndV (da db : DPr) : DPr := fun ρ P => da ρ fun x => ∃ b, x = .bool b ∧ if b = true then db ρ P else P (.bool false)
def dOrV (da db : DPr) : DPr := fun ρ P => da ρ fun x => ∃ b, x = .bool b ∧ if b = true then P (.bool true) else db ρ P
def dNotV (da : DPr) : DPr := fun ρ P => da ρ fun x => ∃ b, x = .bool b ∧ P (.bool (!b))
theorem dp_one {op} (h : DP K X a da) : DP K X (.BoolOp op [a] pos) da := let ⟨_, p, s⟩ := h; ⟨_, fun c => pe_one (p c), s⟩
theorem dp_and {rest : List Expr} (h : DP K X a da) (h' : DP K X (.BoolOp .And (b :: rest) pos) db) : DP K X (.BoolOp .And (a :: b :: rest) pos) (dAndV da db) := by
  obtain ⟨ta, p, s⟩ := h
  obtain ⟨tb, p', s'⟩ := h'
  refine ⟨_, fun c => pe_and (p c) (p' c), ?_⟩
  intro B F ρ σ H P Q R hd k
  refine s B F ρ σ H _ _ R hd ?_
  intro v d F1 H1 p1 r1 s1
  obtain ⟨z, rfl, p1⟩ := p1
  have e := r1.bool_inv
  subst e
  refine ⟨z, rfl, ?_⟩
  cases z with
  | false => exact k _ _ F1 H1 p1 (.bl false) s1
  | true =>
    refine s' B F1 ρ σ H1 P Q (R.step s1) p1 ?_
    intro v d F2 H2 p2 r2 s2
    exact k v d F2 H2 p2 r2 (s1.trans s2)
theorem dp_or {rest : List Expr} (h : DP K X a da) (h' : DP K X (.BoolOp .Or (b :: rest) pos) db) : DP K X (.BoolOp .Or (a :: b :: rest) pos) (dOrV da db) := by
  obtain ⟨ta, p, s⟩ := h
  obtain ⟨tb, p', s'⟩ := h'
  refine ⟨_, fun c => pe_or (p c) (p' c), ?_⟩
  intro B F ρ σ H P Q R hd k
  refine s B F ρ σ H _ _ R hd ?_
  intro v d F1 H1 p1 r1 s1
  obtain ⟨z, rfl, p1⟩ := p1
  have e := r1.bool_inv
  subst e
  refine ⟨z, rfl, ?_⟩
  cases z with
  | true => exact k _ _ F1 H1 p1 (.bl true) s1
  | false =>
    refine s' B F1 ρ σ H1 P Q (R.step s1) p1 ?_
    intro v d F2 H2 p2 r2 s2
    exact k v d F2 H2 p2 r2 (s1.trans s2)
theorem dp_not (h : DP K X a da) : DP K X (.UnaryOp .Not a pos) (dNotV da) := by
  obtain ⟨ta, p, s⟩ := h
  refine ⟨_, fun c => pe_not (p c), ?_⟩
  intro B F ρ σ H P Q R hd k
  refine s B F ρ σ H _ _ R hd ?_
  intro v d F1 H1 p1 r1 s1
  obtain ⟨z, rfl, p1⟩ := p1
  have e := r1.bool_inv
  subst e
  exact ⟨z, rfl, k _ _ F1 H1 p1 (.bl _) s1⟩
def dIf (dt : DTr) (da db : DPr) : DPr := fun ρ P => dt ρ fun b => if b = true then da ρ P else db ρ P
theorem dp_if (hc : DT K X c dt) (ha : DP K X a da) (hb : DP K X b db) : DP K X (.IfExp c a b pos) (dIf dt da db) := by
  obtain ⟨tc, pc, sc⟩ := hc
  obtain ⟨ta, pa, sa⟩ := ha
  obtain ⟨tb, pb, sb⟩ := hb
  refine ⟨_, fun c => pe_ifExp (pc c) (pa c) (pb c), ?_⟩
  intro B F ρ σ H P Q R hd k
  refine sc B F ρ σ H _ _ R hd ?_
  intro z F1 H1 p1 s1
  cases z with
  | true =>
    refine sa B F1 ρ σ H1 P Q (R.step s1) p1 ?_
    intro v d F2 H2 p2 r2 s2
    exact k v d F2 H2 p2 r2 (s1.trans s2)
  | false =>
    refine sb B F1 ρ σ H1 P Q (R.step s1) p1 ?_
    intro v d F2 H2 p2 r2 s2
    exact k v d F2 H2 p2 r2 (s1.trans s2)
/-! #### displays, calls of built-ins -/
def dNil : DAr := fun _ P => P []
def dCons (da : DPr) (dr : DAr) : DAr := fun ρ P => da ρ fun x => dr ρ fun xs => P (x :: xs)
theorem da_nil : DA K X [] dNil := ⟨_, fun _ => pa_nil, fun B F ρ σ H P Q R hd k => k [] [] F H hd .nil (Step.refl R.fh)⟩
theorem da_cons {dr : DAr} (h : DP K X a da) (h' : DA K X es dr)
    (hs : ∀ c, starEach (a :: es) (X c).env = (false, eval a (X c).env) :: starEach es (X c).env := by intro _; rfl) : DA K X (a :: es) (dCons da dr) := by
  obtain ⟨ta, p, s⟩ := h
  obtain ⟨tr, p', s'⟩ := h'
  refine ⟨_, fun c => pa_cons (p c) (p' c) (hs c), ?_⟩
  intro B F ρ σ H P Q R hd k
  refine s B F ρ σ H _ _ R hd ?_
  intro v d F1 H1 p1 r1 s1
  refine s' B F1 ρ σ H1 _ _ (R.step s1) p1 ?_
  intro vs ds F2 H2 p2 r2 s2
  exact k (v :: vs) (d :: ds) F2 H2 p2 (.cons (r1.mono s2.ff) r2) (s1.trans s2)
def dTup (dr : DAr) : DPr := fun ρ P => dr ρ fun ds => ds.length ≤ 100000 ∧ P (.tuple ds)
theorem dp_tup {dr : DAr} {x1} (h : DA K X es dr) : DP K X (.Tuple es x1 pos) (dTup dr) := by
  obtain ⟨ta, p, s⟩ := h
  refine ⟨_, fun c => pe_tup (p c), ?_⟩
  intro B F ρ σ H P Q R hd k
  refine s B F ρ σ H _ _ R hd ?_
  intro vs ds F1 H1 p1 r1 s1
  refine ⟨by rw [r1.length]; exact sz_of p1.1, ?_⟩
  intro q hq
  exact k _ _ _ _ p1.2 (.tup (st_of upd_same) (r1.mono (Ex.new (fresh_back s1.fh hq)))) (s1.trans (Step.new s1.fh hq))
def dLst (dr : DAr) : DAr := fun ρ P => dr ρ fun ds => ds.length ≤ 100000 ∧ P ds
theorem dn_lst {dr : DAr} (h : DA K X es dr) : DN K X (.List es pos) (dLst dr) := by
  obtain ⟨ta, p, s⟩ := h
  refine ⟨_, fun c => pe_lst (p c), ?_⟩
  intro B F ρ σ H P Q R hd k
  refine s B F ρ σ H _ _ R hd ?_
  intro vs ds F1 H1 p1 r1 s1
  refine ⟨by rw [r1.length]; exact sz_of p1.1, ?_⟩
  intro q hq
  have f0 := fresh_back s1.fh hq
  have h0 := fresh_back s1.hh hq
  exact k q vs ds F1 _ p1.2 h0 f0 upd_same r1 (s1.trans (Step.lay s1.fh hq))
/-- a call on values -/
def CallD (K : PySem.W.Frag) (r : List V → Hp → VK → Prop) (g : List D → (D → Prop) → Prop) : Prop :=
  ∀ (F H : Hp) (vs : List V) (ds : List D) (P : D → Prop) (Q : VK), Ex F H → Reps K F vs ds → g ds P →
    (∀ v d F' H', P d → Rep K F' v d → Step F H F' H' → Q v H') → r vs H Q
/-- a call that gives a new list -/
def CallDN (K : PySem.W.Frag) (r : List V → Hp → VK → Prop) (g : List D → (List D → Prop) → Prop) : Prop :=
  ∀ (F H : Hp) (vs : List V) (ds : List D) (P : List D → Prop) (Q : VK), Ex F H → Reps K F vs ds → g ds P →
    (∀ p vs ds F' H', P ds → H p = none → F' p = none → H' p = some (.lst vs) → Reps K F' vs ds → Step F H F' H' → Q (.ref p) H') → r vs H Q
def dCall (g : List D → (D → Prop) → Prop) (dr : DAr) : DPr := fun ρ P => dr ρ fun ds => g ds P
def dCallN (g : List D → (List D → Prop) → Prop) (dr : DAr) : DAr := fun ρ P => dr ρ fun ds => g ds P
theorem SimA.call {K : PySem.W.Frag} {ta : TA} {dr : DAr} {r : List V → Hp → VK → Prop} {g : List D → (D → Prop) → Prop} {te : TE} (h : SimA K ta dr) (hg : CallD K r g) (ht : ∀ σ H Q, (ta σ H fun vs H1 => r vs H1 Q) → te σ H Q) : SimP K te (dCall g dr) := by
  intro B F ρ σ H P Q R hd k
  refine ht σ H Q (h B F ρ σ H _ _ R hd ?_)
  intro vs ds F1 H1 p1 r1 s1
  refine hg F1 H1 vs ds P Q s1.fh r1 p1 ?_
  intro v d F2 H2 p2 r2 s2
  exact k v d F2 H2 p2 r2 (s1.trans s2)
theorem SimA.callN {K : PySem.W.Frag} {ta : TA} {dr : DAr} {r : List V → Hp → VK → Prop} {g : List D → (List D → Prop) → Prop} {te : TE} (h : SimA K ta dr) (hg : CallDN K r g) (ht : ∀ σ H Q, (ta σ H fun vs H1 => r vs H1 Q) → te σ H Q) : SimN K te (dCallN g dr) := by
  intro B F ρ σ H P Q R hd k
  refine ht σ H Q (h B F ρ σ H _ _ R hd ?_)
  intro vs ds F1 H1 p1 r1 s1
  refine hg F1 H1 vs ds P Q s1.fh r1 p1 ?_
  intro p vs ds F2 H2 p2 h0 f0 hl r2 s2
  exact k p vs ds F2 H2 p2 (fresh_back s1.hh h0) f0 hl r2 (s1.trans s2)
variable {x : Str} {p : Pos} {id T : String} {r : List V → Hp → VK → Prop} {g : List D → (D → Prop) → Prop} {gn : List D → (List D → Prop) → Prop} {dr : DAr}
/-- a call of a built-in, from its rule over each context -/
theorem dp_call (ha : DA K X es dr) (hd : CallD K r g) (pe : ∀ c {ta : TA}, PA (X c) es ta → PE (X c) e (tCB r ta)) : DP K X e (dCall g dr) := by
  obtain ⟨ta, pa, sa⟩ := ha
  exact ⟨_, fun c => pe c (pa c), SimA.call sa hd fun σ H Q h => h⟩
theorem dn_call (ha : DA K X es dr) (hd : CallDN K r gn) (pe : ∀ c {ta : TA}, PA (X c) es ta → PE (X c) e (tCB r ta)) : DN K X e (dCallN gn dr) := by
  obtain ⟨ta, pa, sa⟩ := ha
  exact ⟨_, fun c => pe c (pa c), SimA.callN sa hd fun σ H Q h => h⟩
end
end Dl

set_option Elab.async false
set_option linter.all false
set_option maxRecDepth 100000
set_option maxHeartbeats 4000000
namespace Dl
open PySem PySem.Spec PyProof.Rows L2 Evl
/-- an operator's reading from what it does to data -/
def rG (K : PySem.W.Frag) (g : D → D → (D → Prop) → Prop) : R2 := fun x y H Q =>
  ∃ F dx dy P, Ex F H ∧ Rep K F x dx ∧ Rep K F y dy ∧ g dx dy P ∧ ∀ v d F' H', P d → Rep K F' v d → Step F H F' H' → Q v H'
theorem rG_d {K : PySem.W.Frag} {g : D → D → (D → Prop) → Prop} : OpD K (rG K g) g := fun F H x y dx dy P Q e a b h k => ⟨F, dx, dy, P, e, a, b, h, k⟩
theorem toG {X : Cx} {f : Value → Value → Sem Value} {r : R2} {g : D → D → (D → Prop) → Prop} (h : OpR X f r) (hd : OpD X.K r g) : OpR X f (rG X.K g) := by
  intro pins s σ H x y v u Q I rx ry ⟨F, dx, dy, P, e, a, b, hg, k⟩
  exact h pins s σ H x y v u Q I rx ry (hd F H x y dx dy P Q e a b hg k)
def gOr (g g' : D → D → (D → Prop) → Prop) : D → D → (D → Prop) → Prop := fun x y P => g x y P ∨ g' x y P
theorem orG {X : Cx} {f : Value → Value → Sem Value} {g g' : D → D → (D → Prop) → Prop} (h : OpR X f (rG X.K g)) (h' : OpR X f (rG X.K g')) : OpR X f (rG X.K (gOr g g')) := by
  intro pins s σ H x y v u Q I rx ry ⟨F, dx, dy, P, e, a, b, hg, k⟩
  rcases hg with hg | hg
  · exact h pins s σ H x y v u Q I rx ry ⟨F, dx, dy, P, e, a, b, hg, k⟩
  · exact h' pins s σ H x y v u Q I rx ry ⟨F, dx, dy, P, e, a, b, hg, k⟩
/-- two ints in -/
def gII (f : Int → Int → (D → Prop) → Prop) : D → D → (D → Prop) → Prop
  | .int i, .int j, P => f i j P
  | _, _, _ => False
theorem gII_inv {f : Int → Int → (D → Prop) → Prop} {x y : D} {P : D → Prop} (h : gII f x y P) : ∃ i j, x = .int i ∧ y = .int j ∧ f i j P := by
  cases x <;> cases y <;> first | exact False.elim h | exact ⟨_, _, rfl, rfl, h⟩
section
variable {X : Cx}
theorem gii {K : PySem.W.Frag} {g : Int → Int → V} {d : Int → Int → D} (hr : ∀ i j F, Rep K F (g i j) (d i j)) : OpD K (rI0 g) (gII fun i j P => P (d i j)) := by
  intro F H x y dx dy P Q e a b h k
  obtain ⟨i, j, rfl, rfl, h⟩ := gII_inv h
  exact ⟨i, j, a.int_inv, b.int_inv, k _ _ F H h (hr i j F) (Step.refl e)⟩
theorem giiC {K : PySem.W.Frag} {C C' : Int → Int → Prop} {g : Int → Int → V} {d : Int → Int → D} (hc : ∀ i j, C' i j → C i j) (hr : ∀ i j F, Rep K F (g i j) (d i j)) : OpD K (rI C g) (gII fun i j P => C' i j ∧ P (d i j)) := by
  intro F H x y dx dy P Q e a b h k
  obtain ⟨i, j, rfl, rfl, h⟩ := gII_inv h
  exact ⟨i, j, a.int_inv, b.int_inv, hc i j h.1, k _ _ F H h.2 (hr i j F) (Step.refl e)⟩
/-- a bound for great ints: 4000 bits -/
def big : Nat := 2 ^ 4000
theorem big_of {x : Int} (h1 : -(10 ^ 200) ≤ x) (h2 : x ≤ 10 ^ 200) : x.natAbs < big := by
  have h : x.natAbs ≤ 10 ^ 200 := by omega
  refine Nat.lt_of_le_of_lt h ?_
  unfold big
  decide +kernel
theorem big_int {x : Int} (h2 : x ≤ 10 ^ 200) : x < (big : Int) := by
  have h : (10 ^ 200 : Nat) < big := by
    unfold big
    decide +kernel
  omega
theorem big_nat {x : Nat} (h : x ≤ 10 ^ 200) : x < big := by
  refine Nat.lt_of_le_of_lt h ?_
  unfold big
  decide +kernel
def gAddI := gII fun i j P => P (.int (i + j))
def gSub := gII fun i j P => P (.int (i - j))
def gMulI := gII fun i j P => (i.natAbs < big ∧ j.natAbs < big) ∧ P (.int (i * j))
def gDiv := gII fun i j P => (0 < j ∧ j < (big : Int)) ∧ P (.int (i / j))
def gMod := gII fun i j P => 0 < j ∧ P (.int (i % j))
def gPow := gII fun i j P => (0 ≤ j ∧ j ≤ 1000 ∧ i.natAbs < big) ∧ P (.int (i ^ j.toNat))
theorem og_addI : OpR X (binaryOp .Add) (rG X.K gAddI) := toG op_add (gii fun i j F => .int _)
theorem og_sub : OpR X (binaryOp .Sub) (rG X.K gSub) := toG op_sub (gii fun i j F => .int _)
theorem og_mulI : OpR X (binaryOp .Mult) (rG X.K gMulI) := toG op_mulW (giiC (fun i j h => wide_mul (a := 4000) (b := 4000) h.1 h.2 (by decide) (by decide) (by decide)) fun i j F => .int _)
theorem og_div : OpR X (binaryOp .FloorDiv) (rG X.K gDiv) := toG op_fdivW (giiC (fun i j h => wide_div (b := 4000) h.1 (by have h1 := h.1; have h2 := h.2; show j.natAbs < big; omega) (by decide) (by decide)) fun i j F => .int _)
theorem og_mod : OpR X (binaryOp .Mod) (rG X.K gMod) := toG op_mod (giiC (fun i j h => h) fun i j F => .int _)
theorem bits_le {a : Int} {n : Nat} (h : a.natAbs < 2 ^ n) : Builtin.Int.intBits a ≤ n := by
  unfold Builtin.Int.intBits
  split
  · omega
  · rename_i hz
    have hz' : a.natAbs ≠ 0 := by simpa using hz
    have := (Nat.log2_lt hz').mpr h
    omega
theorem op_powW : OpR X (binaryOp .Pow) (rI (fun i j => 0 ≤ j ∧ j ≤ 1000 ∧ i.natAbs < big) fun i j => .int (i ^ j.toNat)) := opI fun i j _ _ _ _ _ hc q => by
  refine pow_int hc.1 ?_ q
  have b := bits_le (n := 4000) hc.2.2
  have c := hc.2.1
  have c0 := hc.1
  have h1 : ((Builtin.Int.intBits i : Nat) : Int) ≤ 4000 := by omega
  have h2 : ((Builtin.Int.intBits i : Nat) : Int) * j ≤ 4000 * 1000 := Int.mul_le_mul h1 c c0 (by decide)
  have h3 : (4000 * 1000 : Int) ≤ 2 ^ 27 := by decide
  exact Int.le_trans h2 h3
theorem og_pow : OpR X (binaryOp .Pow) (rG X.K gPow) := toG op_powW (giiC (fun i j h => h) fun i j F => .int _)
/-! list + list, tuple + tuple, list * int -/
def gCat : D → D → (D → Prop) → Prop
  | .list a, .list b, P => a.length + b.length ≤ 100000 ∧ P (.list (a ++ b))
  | _, _, _ => False
def rCatR (K : PySem.W.Frag) : R2 := fun x y H Q => ∃ l b xs zs, x = .ref l ∧ y = .ref b ∧ SqL K H l xs ∧ SqL K H b zs ∧ xs.length + zs.length ≤ sizeLine ∧ ∀ p, H p = none → Q (.ref p) (upd H p (.lst (xs ++ zs)))
theorem op_catR : OpR X (binaryOp .Add) (rCatR X.K) := by
  intro pins s σ H x y v u Q I rx ry h
  obtain ⟨l, b, xs, zs, rfl, rfl, hl, hb, hz, q⟩ := h
  cases (show v = Value.ref l from rx)
  cases (show u = Value.ref b from ry)
  obtain ⟨is, r, ⟨⟨cls, dd, data, sl⟩, n, ho, hc, hdd, hd⟩, _⟩ := I.list hl
  obtain ⟨js, r2, ⟨⟨cls2, dd2, data2, sl2⟩, n2, ho2, hc2, hdd2, hd2⟩, _⟩ := I.list hb
  have n1 := r.length
  have m2 := r2.length
  simp only at hc hd hc2 hd2
  subst hc hd hc2 hd2
  refine concat_meets ⟨_, ho, rfl⟩ ⟨_, ho2, rfl⟩ noFill_list_add seq_list_add PySem.F.slot_list_add PySem.F.entry_list_add (PySem.F.args_list_add_2 _ _) (list_addW l b is.toArray js.toArray n n2 dd dd2 sl sl2 (by rw [List.size_toArray, List.size_toArray, ← n1, ← m2]; exact hz)) ⟨ho, ho2, ?_⟩
  rw [show is.toArray ++ js.toArray = (is ++ js).toArray by simp]
  exact ⟨.ref _, _, I.lnew (t' := s.toks) (r.append r2) (by rw [List.length_append]; exact hz), rfl, q _ I.fresh⟩
theorem cat_d {K : PySem.W.Frag} : OpD K (rCatR K) gCat := by
  intro F H x y dx dy P Q e a b h k
  cases dx <;> cases dy <;> try exact False.elim h
  rename_i as bs
  obtain ⟨l, xs, rfl, hl, rl⟩ := a.list_inv
  obtain ⟨m, ys, rfl, hm, rm⟩ := b.list_inv
  refine ⟨l, m, xs, ys, rfl, rfl, ex_l e hl, ex_l e hm, ?_, ?_⟩
  · rw [rl.length, rm.length]
    exact sz_of h.1
  · intro p hp
    exact k _ _ _ _ h.2 (.lst (Or.inl (Or.inl upd_same)) ((rl.append rm).mono (Ex.new (fresh_back e hp)))) (Step.new e hp)
theorem og_cat : OpR X (binaryOp .Add) (rG X.K gCat) := toG op_catR cat_d
def gCatT : D → D → (D → Prop) → Prop
  | .tuple a, .tuple b, P => a.length + b.length ≤ 100000 ∧ P (.tuple (a ++ b))
  | _, _, _ => False
theorem og_catT : OpR X (binaryOp .Add) (rG X.K gCatT) := by
  refine toG op_catA ?_
  intro F H x y dx dy P Q e a b h k
  cases dx <;> cases dy <;> try exact False.elim h
  rename_i as bs
  obtain ⟨l, xs, rfl, hl, rl⟩ := a.tuple_inv
  obtain ⟨m, ys, rfl, hm, rm⟩ := b.tuple_inv
  refine ⟨l, m, xs, ys, rfl, rfl, ex_t e hl, ex_t e hm, by rw [rl.length, rm.length]; exact sz_of h.1, ?_, ?_, ?_⟩
  · intro z
    subst z
    cases rl
    exact k _ _ F H h.2 b (Step.refl e)
  · intro z1 z
    subst z
    cases rm
    have := h.2
    rw [List.append_nil] at this
    exact k _ _ F H this a (Step.refl e)
  · intro _ _ p hp
    exact k _ _ _ _ h.2 (.tup (st_of upd_same) ((rl.append rm).mono (Ex.new (fresh_back e hp)))) (Step.new e hp)
def gAddS : D → D → (D → Prop) → Prop
  | .str a, .str b, P => a.length + b.length ≤ sizeLine ∧ P (.str (a ++ b))
  | _, _, _ => False
theorem og_addS : OpR X (binaryOp .Add) (rG X.K gAddS) := by
  refine toG op_add_str ?_
  intro F H x y dx dy P Q e a b h k
  cases dx <;> cases dy <;> try exact False.elim h
  exact ⟨_, _, a.str_inv, b.str_inv, h.1, k _ _ F H h.2 (.str _) (Step.refl e)⟩
/-- + of data -/
def gAdd : D → D → (D → Prop) → Prop
  | .int i, .int j, P => P (.int (i + j))
  | .list a, .list b, P => a.length + b.length ≤ 100000 ∧ P (.list (a ++ b))
  | .tuple a, .tuple b, P => a.length + b.length ≤ 100000 ∧ P (.tuple (a ++ b))
  | .str a, .str b, P => a.length + b.length ≤ sizeLine ∧ P (.str (a ++ b))
  | _, _, _ => False
theorem og_add : OpR X (binaryOp .Add) (rG X.K gAdd) := by
  intro pins s σ H x y v u Q I rx ry ⟨F, dx, dy, P, e, a, b, hg, k⟩
  cases dx <;> cases dy <;> try exact False.elim hg
  · exact og_addI pins s σ H x y v u Q I rx ry ⟨F, _, _, P, e, a, b, hg, k⟩
  · exact og_addS pins s σ H x y v u Q I rx ry ⟨F, _, _, P, e, a, b, hg, k⟩
  · exact og_cat pins s σ H x y v u Q I rx ry ⟨F, _, _, P, e, a, b, hg, k⟩
  · exact og_catT pins s σ H x y v u Q I rx ry ⟨F, _, _, P, e, a, b, hg, k⟩
/-! comparisons -/
def gLt := gII fun i j P => P (.bool (decide (i < j)))
def gLe := gII fun i j P => P (.bool (decide (i ≤ j)))
def gGt := gII fun i j P => P (.bool (decide (j < i)))
def gGe := gII fun i j P => P (.bool (decide (j ≤ i)))
theorem og_lt : OpR X (compareOp .Lt) (rG X.K gLt) := toG op_lt (gii fun i j F => .bl _)
theorem og_le : OpR X (compareOp .LtE) (rG X.K gLe) := toG op_le (gii fun i j F => .bl _)
theorem og_gt : OpR X (compareOp .Gt) (rG X.K gGt) := toG op_gt (gii fun i j F => .bl _)
theorem og_ge : OpR X (compareOp .GtE) (rG X.K gGe) := toG op_ge (gii fun i j F => .bl _)
/-- == of any data -/
def isStr : D → Bool
  | .str _ => true
  | _ => false
def gEq : D → D → (D → Prop) → Prop := fun x y P => ((isStr x = true ∧ isStr y = true) ∨ (PySem.SeqAt.shaped x = true ∧ PySem.SeqAt.shaped y = true)) ∧ P (.bool (PyData.eqv x y))
def gNe : D → D → (D → Prop) → Prop := fun x y P => ((isStr x = true ∧ isStr y = true) ∨ (PySem.SeqAt.shaped x = true ∧ PySem.SeqAt.shaped y = true)) ∧ P (.bool (!PyData.eqv x y))
theorem og_eq (hu : X.A.units + 64 < cLine) : OpR X (compareOp .Eq) (rG X.K gEq) := by
  intro pins s σ H x y v u Q I rx ry ⟨F, dx, dy, P, e, a, b, hg, k⟩
  rcases hg.1 with ⟨h1, h2⟩ | hsh
  · cases dx <;> try exact absurd h1 Bool.false_ne_true
    cases dy <;> try exact absurd h2 Bool.false_ne_true
    cases a.str_inv
    cases b.str_inv
    refine op_eq pins s σ H _ _ v u Q I rx ry ⟨rfl, ?_⟩
    rw [dec_str]
    have hp := hg.2
    rw [PyData.eqv] at hp
    exact k _ _ F H hp (.bl _) (Step.refl e)
  · obtain ⟨as, ra⟩ := a.reads I e rx
    obtain ⟨bs, rb⟩ := b.reads I e ry
    exact PyProof.Rows.eq_dataH ra rb hsh.1 hsh.2 hu ⟨.bl _, H, I, rfl, k _ _ F H hg.2 (.bl _) (Step.refl e)⟩
theorem og_ne (hu : X.A.units + 64 < cLine) : OpR X (compareOp .NotEq) (rG X.K gNe) := by
  intro pins s σ H x y v u Q I rx ry ⟨F, dx, dy, P, e, a, b, hg, k⟩
  rcases hg.1 with ⟨h1, h2⟩ | hsh
  · cases dx <;> try exact absurd h1 Bool.false_ne_true
    cases dy <;> try exact absurd h2 Bool.false_ne_true
    cases a.str_inv
    cases b.str_inv
    refine op_ne pins s σ H _ _ v u Q I rx ry ⟨rfl, ?_⟩
    rw [dec_str]
    have hp := hg.2
    rw [PyData.eqv] at hp
    exact k _ _ F H hp (.bl _) (Step.refl e)
  · obtain ⟨as, ra⟩ := a.reads I e rx
    obtain ⟨bs, rb⟩ := b.reads I e ry
    exact PyProof.Rows.ne_dataH ra rb hsh.1 hsh.2 hu ⟨.bl _, H, I, rfl, k _ _ F H hg.2 (.bl _) (Step.refl e)⟩
/-! what the readings say of data that is told -/
section
variable {f : Int → Int → (D → Prop) → Prop} {i j : Int} {P : D → Prop} {as bs : List D}
theorem gII_int : gII f (.int i) (.int j) P = f i j P := rfl
theorem gAdd_int : gAdd (.int i) (.int j) P = P (.int (i + j)) := rfl
theorem gAdd_list : gAdd (.list as) (.list bs) P = (as.length + bs.length ≤ 100000 ∧ P (.list (as ++ bs))) := rfl
theorem gAdd_tuple : gAdd (.tuple as) (.tuple bs) P = (as.length + bs.length ≤ 100000 ∧ P (.tuple (as ++ bs))) := rfl
theorem gSub_int : gSub (.int i) (.int j) P = P (.int (i - j)) := rfl
theorem gMulI_int : gMulI (.int i) (.int j) P = ((i.natAbs < big ∧ j.natAbs < big) ∧ P (.int (i * j))) := rfl
theorem gDiv_int : gDiv (.int i) (.int j) P = ((0 < j ∧ j < (big : Int)) ∧ P (.int (i / j))) := rfl
theorem gMod_int : gMod (.int i) (.int j) P = (0 < j ∧ P (.int (i % j))) := rfl
theorem gPow_int : gPow (.int i) (.int j) P = ((0 ≤ j ∧ j ≤ 1000 ∧ i.natAbs < big) ∧ P (.int (i ^ j.toNat))) := rfl
theorem gLt_int : gLt (.int i) (.int j) P = P (.bool (decide (i < j))) := rfl
theorem gLe_int : gLe (.int i) (.int j) P = P (.bool (decide (i ≤ j))) := rfl
theorem gGt_int : gGt (.int i) (.int j) P = P (.bool (decide (j < i))) := rfl
theorem gGe_int : gGe (.int i) (.int j) P = P (.bool (decide (j ≤ i))) := rfl
end
end
end Dl

set_option Elab.async false
set_option linter.all false
set_option maxRecDepth 100000
set_option maxHeartbeats 4000000
namespace Dl
open PySem PySem.Spec PyProof.Rows L2 Evl
section
variable {ι : Type} {K : PySem.W.Frag} {X : ι → Cx} {Y : Cx} {e a b c : Expr} {pos : Pos} {da db dc : DPr} {dt du : DTr} {es : List Expr}
/-! #### items -/
def gIx : D → D → (D → Prop) → Prop
  | .list ds, .int i, P => ∃ d, atI ds i = some d ∧ P d
  | .tuple ds, .int i, P => ∃ d, atI ds i = some d ∧ P d
  | _, _, _ => False
theorem gIx_list {ds : List D} {i : Int} {P : D → Prop} : gIx (.list ds) (.int i) P = ∃ d, atI ds i = some d ∧ P d := rfl
theorem gIx_tuple {ds : List D} {i : Int} {P : D → Prop} : gIx (.tuple ds) (.int i) P = ∃ d, atI ds i = some d ∧ P d := rfl
theorem Reps.atI {F : Hp} {vs : List V} {ds : List D} {i : Int} {d : D} (r : Reps K F vs ds) (h : L2.atI ds i = some d) : ∃ v, L2.atI vs i = some v ∧ Rep K F v d := by
  unfold L2.atI at h ⊢
  rw [r.length]
  cases q : ixN ds.length i with
  | none =>
    rw [q] at h
    cases h
  | some j =>
    rw [q] at h
    exact r.get h
theorem ix_d : IxR Y (rG Y.K gIx) := by
  intro value slice pins s σ H x y v u Q I rx ry ⟨F, dx, dy, P, e, ra, rb, hg, k⟩ hs
  cases dx <;> cases dy <;> try exact False.elim hg
  · obtain ⟨d, hd, p⟩ := hg
    obtain ⟨l, xs, rfl, hl, rl⟩ := ra.list_inv
    obtain ⟨w, hw, rw⟩ := rl.atI hd
    exact ix_list value slice pins s σ H _ y v u Q I rx ry ⟨l, xs, _, w, rfl, rb.int_inv, ex_l e hl, hw, k _ _ F H p rw (Step.refl e)⟩ hs
  · obtain ⟨d, hd, p⟩ := hg
    obtain ⟨l, xs, rfl, hl, rl⟩ := ra.tuple_inv
    obtain ⟨w, hw, rw⟩ := rl.atI hd
    exact ix_tup value slice pins s σ H _ y v u Q I rx ry ⟨l, xs, _, w, rfl, rb.int_inv, ex_t e hl, hw, k _ _ F H p rw (Step.refl e)⟩ hs
theorem dp_ix (ha : DP K X a da) (hb : DP K X b db) (hs : PlainIx b) (hK : ∀ c, (X c).K = K := by intro _; rfl) : DP K X (.Subscript a b pos) (dOp gIx da db) := by
  obtain ⟨ta, pa, sa⟩ := ha
  obtain ⟨tb, pb, sb⟩ := hb
  exact ⟨_, fun c => pe_ix (hK c ▸ ix_d) (pa c) (pb c) hs, SimP.op rG_d sa sb⟩
/-- an item of an owned list -/
def dIxOwn (i : Nat) (db : DPr) : DPr := fun ρ P => ∃ ds, ρ[i]? = some (.own ds) ∧ db ρ fun y => ∃ j d, y = .int j ∧ atI ds j = some d ∧ P d
theorem dp_ixOwn {i : Nat} (ha : ∀ c, PE (X c) a (tVar i)) (hb : DP K X b db) (hs : PlainIx b) (hK : ∀ c, (X c).K = K := by intro _; rfl) : DP K X (.Subscript a b pos) (dIxOwn i db) := by
  obtain ⟨tb, pb, sb⟩ := hb
  refine ⟨tOp (rIxL K) (tVar i) tb, fun c => pe_ix (hK c ▸ ix_list) (ha c) (pb c) hs, ?_⟩
  intro B F ρ σ H P Q R hd k
  obtain ⟨ds, ho, hd⟩ := hd
  obtain ⟨p, xs, hv, f0, b0, hl, rs⟩ := R.ownv ho
  refine ⟨_, hv, ?_⟩
  refine sb B F ρ σ H _ _ R hd ?_
  intro v d F1 H1 p1 r1 s1
  obtain ⟨j, d', rfl, hj, p1⟩ := p1
  obtain ⟨w, hw, rw⟩ := rs.atI hj
  exact ⟨p, xs, j, w, rfl, r1.int_inv, Or.inl (Or.inl (s1.hh _ _ hl)), hw, k _ _ F1 H1 p1 (rw.mono s1.ff) s1⟩
def dIxCel (i : Nat) (db : DPr) : DPr := fun ρ P => ∃ ds, ρ[i]? = some (.cel ds) ∧ db ρ fun y => ∃ j d, y = .int j ∧ atI ds j = some d ∧ P d
theorem dp_ixCel {i : Nat} (ha : ∀ c, PE (X c) a (tVar i)) (hb : DP K X b db) (hs : PlainIx b) (hK : ∀ c, (X c).K = K := by intro _; rfl) : DP K X (.Subscript a b pos) (dIxCel i db) := by
  obtain ⟨tb, pb, sb⟩ := hb
  refine ⟨tOp (rIxL K) (tVar i) tb, fun c => pe_ix (hK c ▸ ix_list) (ha c) (pb c) hs, ?_⟩
  intro B F ρ σ H P Q R hd k
  obtain ⟨ds, ho, hd⟩ := hd
  obtain ⟨p, xs, hv, f0, b0, hl, rs⟩ := R.celv ho
  refine ⟨_, hv, ?_⟩
  refine sb B F ρ σ H _ _ R hd ?_
  intro v d F1 H1 p1 r1 s1
  obtain ⟨j, d', rfl, hj, p1⟩ := p1
  obtain ⟨w, hw, rw⟩ := rs.atI hj
  exact ⟨p, xs, j, w, rfl, r1.int_inv, Or.inl (Or.inl (s1.hh _ _ hl)), hw, k _ _ F1 H1 p1 (rw.mono s1.ff) s1⟩
/-! #### what is read off an owned list for a moment -/
def scalD : D → Bool
  | .none => true
  | .bool _ => true
  | .int _ => true
  | .str _ => true
  | _ => false
theorem Rep.scal {F F' : Hp} {v : V} {d : D} (h : Rep K F v d) (s : scalD d = true) : Rep K F' v d := by
  cases h with
  | non => exact .non
  | bl b => exact .bl b
  | int i => exact .int i
  | str x => exact .str x
  | lst _ _ => cases s
  | tup _ _ => cases s
theorem Reps.scal {F F' : Hp} : ∀ {vs : List V} {ds : List D}, Reps K F vs ds → ds.all scalD = true → Reps K F' vs ds
  | _, _, .nil, _ => .nil
  | _, _, .cons h r, s => by
    rw [List.all_cons, Bool.and_eq_true] at s
    exact .cons (h.scal s.1) (Reps.scal r s.2)
theorem RelP.peek {B : Cd} {F H : Hp} {ρ : Env} {σ : L2.St} {i : Nat} {ds : List D} (R : RelP K B F ρ σ H) (ho : ρ[i]? = some (.own ds)) :
    ∃ F1, Ex F F1 ∧ RelP K B F1 (ρ.set i (.dat (.list ds))) σ H := by
  obtain ⟨p, xs, hv, f0, b0, hl, rs⟩ := R.ownv ho
  have e1 : Ex F (upd F p (.lst xs)) := Ex.new f0
  refine ⟨upd F p (.lst xs), e1, ?_⟩
  have hi : i < ρ.length := (List.getElem?_eq_some_iff.mp ho).1
  refine ⟨?_, by simp [R.len], ?_, ?_⟩
  · intro x u hx
    by_cases q : x = p
    · subst q
      rw [upd_same] at hx
      rw [hl]
      exact hx
    · rw [upd_ne q] at hx
      exact R.fh x u hx
  · intro j s o h1 h2
    by_cases q : i = j
    · subst q
      rw [List.getElem?_set_self hi] at h1
      cases h1
      rw [hv] at h2
      cases h2
      exact ⟨_, rfl, .lst (Or.inl (Or.inl upd_same)) (rs.mono e1)⟩
    · rw [List.getElem?_set_ne q] at h1
      have ok := R.ok j s o h1 h2
      cases s with
      | no => exact ok
      | any => trivial
      | dat d =>
        obtain ⟨v, z, r⟩ := ok
        exact ⟨v, z, r.mono e1⟩
      | own es =>
        obtain ⟨p', ys, z, f1, b1, h3, r⟩ := ok
        subst z
        have np : p' ≠ p := R.mine (Ne.symm q) h1 ho rfl rfl h2 hv
        exact ⟨p', ys, rfl, by rw [upd_ne np]; exact f1, b1, h3, r.mono e1⟩
      | cel es =>
        obtain ⟨p', ys, z, f1, b1, h3, r⟩ := ok
        subst z
        have np : p' ≠ p := R.mine (Ne.symm q) h1 ho rfl rfl h2 hv
        exact ⟨p', ys, rfl, by rw [upd_ne np]; exact f1, b1, h3, r.mono e1⟩
      | obj u =>
        obtain ⟨p', z, f1, b1, h3⟩ := ok
        subst z
        have np : p' ≠ p := R.mine (Ne.symm q) h1 ho rfl rfl h2 hv
        exact ⟨p', rfl, by rw [upd_ne np]; exact f1, b1, h3⟩
  · intro j k s t p' hjk h1 h2 o1 o2 s1 s2
    have away : ∀ {j : Nat} {t : Slot}, (ρ.set i (.dat (.list ds)))[j]? = some t → t.owns = true → i ≠ j := by
      intro j t e o q
      subst q
      rw [List.getElem?_set_self hi] at e
      cases e
      cases o
    have a1 := away h1 o1
    have a2 := away h2 o2
    rw [List.getElem?_set_ne a1] at h1
    rw [List.getElem?_set_ne a2] at h2
    exact R.ne j k s t p' hjk h1 h2 o1 o2 s1 s2
def dPeek (i : Nat) (de : DPr) : DPr := fun ρ P => ∃ ds, ρ[i]? = some (.own ds) ∧ de (ρ.set i (.dat (.list ds))) fun d => scalD d = true ∧ P d
theorem dp_peek (i : Nat) (h : DP K X e da) : DP K X e (dPeek i da) := by
  obtain ⟨te, pe, se⟩ := h
  refine ⟨te, pe, ?_⟩
  intro B F ρ σ H P Q R hd k
  obtain ⟨ds, ho, hd⟩ := hd
  obtain ⟨F1, e1, R1⟩ := R.peek ho
  refine se B F1 _ σ H _ Q R1 hd ?_
  intro v d F' H' p1 r1 s1
  exact k v d F H' p1.2 (r1.scal p1.1) ⟨Ex.refl F, R.fh.trans s1.hh, s1.hh, fun a h _ => h⟩
def dPeekT (i : Nat) (dt : DTr) : DTr := fun ρ P => ∃ ds, ρ[i]? = some (.own ds) ∧ dt (ρ.set i (.dat (.list ds))) P
theorem dt_peek (i : Nat) (h : DT K X e dt) : DT K X e (dPeekT i dt) := by
  obtain ⟨te, pe, se⟩ := h
  refine ⟨te, pe, ?_⟩
  intro B F ρ σ H P Q R hd k
  obtain ⟨ds, ho, hd⟩ := hd
  obtain ⟨F1, e1, R1⟩ := R.peek ho
  refine se B F1 _ σ H _ Q R1 hd ?_
  intro b F' H' p1 s1
  exact k b F H' p1 ⟨Ex.refl F, R.fh.trans s1.hh, s1.hh, fun a h _ => h⟩
def dPeekN (i : Nat) (dn : DAr) : DAr := fun ρ P => ∃ ds, ρ[i]? = some (.own ds) ∧ dn (ρ.set i (.dat (.list ds))) fun es => es.all scalD = true ∧ P es
theorem dn_peek (i : Nat) {dn : DAr} (h : DN K X e dn) : DN K X e (dPeekN i dn) := by
  obtain ⟨te, pe, se⟩ := h
  refine ⟨te, pe, ?_⟩
  intro B F ρ σ H P Q R hd k
  obtain ⟨ds, ho, hd⟩ := hd
  obtain ⟨F1, e1, R1⟩ := R.peek ho
  refine se B F1 _ σ H _ Q R1 hd ?_
  intro p vs es F' H' p1 h0 f0 hl r1 s1
  have fp : F p = none := fresh_back R.fh h0
  exact k p vs es F H' p1.2 h0 fp hl (r1.scal p1.1) ⟨Ex.refl F, R.fh.trans s1.hh, s1.hh, fun a h _ => h⟩
/-! #### slices -/
abbrev DOr := Env → (Option Int → Prop) → Prop
def SimO (K : PySem.W.Frag) (to : TO) (d : DOr) : Prop :=
  ∀ (B : Cd) (F : Hp) (ρ : Env) (σ : L2.St) (H : Hp) (P : Option Int → Prop) (Q : Option Int → Hp → Prop), RelP K B F ρ σ H → d ρ P →
    (∀ o F' H', P o → Step F H F' H' → Q o H') → to σ H Q
def DO {ι : Type} (K : PySem.W.Frag) (X : ι → Cx) (e : Option Expr) (d : DOr) : Prop := ∃ to, (∀ c, PO (X c) e to) ∧ SimO K to d
def dNoPart : DOr := fun _ P => P none
def dPart (da : DPr) : DOr := fun ρ P => da ρ fun x => ∃ i, x = .int i ∧ P (some i)
theorem do_none : DO K X none dNoPart := ⟨_, fun _ => po_none, fun B F ρ σ H P Q R hd k => k none F H hd (Step.refl R.fh)⟩
theorem do_some (h : DP K X e da) : DO K X (some e) (dPart da) := by
  obtain ⟨te, p, s⟩ := h
  refine ⟨_, fun c => po_some (p c), ?_⟩
  intro B F ρ σ H P Q R hd k
  refine s B F ρ σ H _ _ R hd ?_
  intro v d F1 H1 p1 r1 s1
  obtain ⟨i, rfl, p1⟩ := p1
  exact ⟨i, r1.int_inv, k _ F1 H1 p1 s1⟩
def cutD {α : Type} (xs : List α) (lo hi : Option Int) : List α := (xs.drop (HT.sIx xs.length 0 lo)).take (HT.sIx xs.length xs.length hi - HT.sIx xs.length 0 lo)
theorem Reps.cut {F : Hp} {vs : List V} {ds : List D} (r : Reps K F vs ds) (lo hi : Option Int) : Reps K F (cutV vs lo hi) (cutD ds lo hi) := by
  unfold cutV cutD
  rw [r.length]
  exact (r.drop _).take _
def dSlN (da : DPr) (dl dh : DOr) : DAr := fun ρ P => da ρ fun x => dl ρ fun l => dh ρ fun u => ∃ ds, x = .list ds ∧ P (cutD ds l u)
theorem dn_slice {lo hi : Option Expr} {p2 : Pos} {dl dh : DOr} (ha : DP K X a da) (hl : DO K X lo dl) (hh : DO K X hi dh) (hK : ∀ c, (X c).K = K := by intro _; rfl) : DN K X (.Subscript a (.Slice lo hi none p2) pos) (dSlN da dl dh) := by
  obtain ⟨ta, pa, sa⟩ := ha
  obtain ⟨tl, pl, sl⟩ := hl
  obtain ⟨th, ph, sh⟩ := hh
  refine ⟨tSl (rSlL K) ta tl th, fun c => pe_slice (hK c ▸ sl_list) (pa c) (pl c) (ph c), ?_⟩
  intro B F ρ σ H P Q R hd k
  refine sa B F ρ σ H _ _ R hd ?_
  intro v1 d1 F1 H1 p1 r1 s1
  refine sl B F1 ρ σ H1 _ _ (R.step s1) p1 ?_
  intro o2 F2 H2 p2 s2
  refine sh B F2 ρ σ H2 _ _ (R.step (s1.trans s2)) p2 ?_
  intro o3 F3 H3 p3 s3
  obtain ⟨ds, rfl, p3⟩ := p3
  obtain ⟨l, xs, rfl, hl, rl⟩ := r1.list_inv
  have st := (s1.trans s2).trans s3
  refine ⟨l, xs, rfl, ex_l (s2.ff.trans (s3.ff.trans s3.fh)) hl, ?_⟩
  intro q hq
  have f0 := fresh_back s3.fh hq
  exact k q _ _ F3 _ p3 (fresh_back st.hh hq) f0 upd_same ((rl.mono (s2.ff.trans s3.ff)).cut _ _) (st.trans (Step.lay s3.fh hq))
/-- of a list or of a tuple -/
def gSl (x : D) (l u : Option Int) (P : D → Prop) : Prop :=
  match x with
  | .list ds => P (.list (cutD ds l u))
  | .tuple ds => P (.tuple (cutD ds l u))
  | _ => False
def dSl (da : DPr) (dl dh : DOr) : DPr := fun ρ P => da ρ fun x => dl ρ fun l => dh ρ fun u => gSl x l u P
theorem cut_whole {α : Type} {xs : List α} {lo hi : Option Int} (h : HT.sIx xs.length 0 lo = 0 ∧ HT.sIx xs.length xs.length hi = xs.length) : cutD xs lo hi = xs := by
  unfold cutD
  rw [h.1, h.2]
  simp
theorem dp_slice {lo hi : Option Expr} {p2 : Pos} {dl dh : DOr} (ha : DP K X a da) (hl : DO K X lo dl) (hh : DO K X hi dh) (hK : ∀ c, (X c).K = K := by intro _; rfl) : DP K X (.Subscript a (.Slice lo hi none p2) pos) (dSl da dl dh) := by
  obtain ⟨ta, pa, sa⟩ := ha
  obtain ⟨tl, pl, sl⟩ := hl
  obtain ⟨th, ph, sh⟩ := hh
  refine ⟨tSl (fun x lo hi H Q => rSlL K x lo hi H Q ∨ rSlA K x lo hi H Q) ta tl th, fun c => pe_slice (hK c ▸ SlR.or sl_list sl_tupA) (pa c) (pl c) (ph c), ?_⟩
  intro B F ρ σ H P Q R hd k
  refine sa B F ρ σ H _ _ R hd ?_
  intro v1 d1 F1 H1 p1 r1 s1
  refine sl B F1 ρ σ H1 _ _ (R.step s1) p1 ?_
  intro o2 F2 H2 p2 s2
  refine sh B F2 ρ σ H2 _ _ (R.step (s1.trans s2)) p2 ?_
  intro o3 F3 H3 p3 s3
  have st := (s1.trans s2).trans s3
  cases d1 <;> try exact False.elim p3
  · refine Or.inl ?_
    obtain ⟨l, xs, rfl, hl, rl⟩ := r1.list_inv
    refine ⟨l, xs, rfl, ex_l (s2.ff.trans (s3.ff.trans s3.fh)) hl, ?_⟩
    intro q hq
    have f0 := fresh_back s3.fh hq
    exact k _ _ _ _ p3 (.lst (Or.inl (Or.inl upd_same)) (((rl.mono (s2.ff.trans s3.ff)).cut _ _).mono (Ex.new f0))) (st.trans (Step.new s3.fh hq))
  · refine Or.inr ?_
    obtain ⟨l, xs, rfl, hl, rl⟩ := r1.tuple_inv
    refine ⟨l, xs, rfl, ex_t (s2.ff.trans (s3.ff.trans s3.fh)) hl, ?_, ?_⟩
    · intro z
      rename_i ds
      rw [rl.length] at z
      have e : cutD ds o2 o3 = ds := cut_whole z
      have p3' : P (.tuple (cutD ds o2 o3)) := p3
      rw [e] at p3'
      exact k _ _ F3 H3 p3' (r1.mono (s2.ff.trans s3.ff)) st
    · intro _ q hq
      have f0 := fresh_back s3.fh hq
      exact k _ _ _ _ p3 (.tup (st_of upd_same) (((rl.mono (s2.ff.trans s3.ff)).cut _ _).mono (Ex.new f0))) (st.trans (Step.new s3.fh hq))
/-! #### built-ins -/
def gLen : List D → (D → Prop) → Prop
  | [.list ds], P => P (.int ds.length)
  | [.tuple ds], P => P (.int ds.length)
  | _, _ => False
theorem len_d : CallD K (fun xs H Q => ∃ p ys, xs = [.ref p] ∧ (SqL K H p ys ∨ SqT K H p ys) ∧ Q (.int ys.length) H) gLen := by
  intro F H vs ds P Q e r h k
  match ds, h with
  | [.list ds], h =>
    cases r with
    | cons r1 r2 =>
      cases r2
      obtain ⟨l, xs, rfl, hl, rl⟩ := r1.list_inv
      refine ⟨l, xs, rfl, Or.inl (ex_l e hl), ?_⟩
      rw [rl.length]
      exact k _ _ F H h (.int _) (Step.refl e)
  | [.tuple ds], h =>
    cases r with
    | cons r1 r2 =>
      cases r2
      obtain ⟨l, xs, rfl, hl, rl⟩ := r1.tuple_inv
      refine ⟨l, xs, rfl, Or.inr (ex_t e hl), ?_⟩
      rw [rl.length]
      exact k _ _ F H h (.int _) (Step.refl e)
def gAbs : List D → (D → Prop) → Prop
  | [.int i], P => P (.int (if i < 0 then -i else i))
  | _, _ => False
theorem abs_d : CallD K (fun xs H Q => ∃ i, xs = [.int i] ∧ Q (.int (if i < 0 then -i else i)) H) gAbs := by
  intro F H vs ds P Q e r h k
  match ds, h with
  | [.int i], h =>
    cases r with
    | cons r1 r2 =>
      cases r2
      cases r1.int_inv
      exact ⟨i, rfl, k _ _ F H h (.int _) (Step.refl e)⟩
def gMax2 : List D → (D → Prop) → Prop
  | [.int i, .int j], P => P (.int (if j > i then j else i))
  | _, _ => False
theorem max_d : CallD K (fun xs H Q => ∃ i j, xs = [.int i, .int j] ∧ Q (.int (if j > i then j else i)) H) gMax2 := by
  intro F H vs ds P Q e r h k
  match ds, h with
  | [.int i, .int j], h =>
    cases r with
    | cons r1 r2 =>
      cases r2 with
      | cons r2 r3 =>
        cases r3
        cases r1.int_inv
        cases r2.int_inv
        exact ⟨i, j, rfl, k _ _ F H h (.int _) (Step.refl e)⟩
def gMin2 : List D → (D → Prop) → Prop
  | [.int i, .int j], P => P (.int (if j < i then j else i))
  | _, _ => False
theorem min_d : CallD K (fun xs H Q => ∃ i j, xs = [.int i, .int j] ∧ Q (.int (if j < i then j else i)) H) gMin2 := by
  intro F H vs ds P Q e r h k
  match ds, h with
  | [.int i, .int j], h =>
    cases r with
    | cons r1 r2 =>
      cases r2 with
      | cons r2 r3 =>
        cases r3
        cases r1.int_inv
        cases r2.int_inv
        exact ⟨i, j, rfl, k _ _ F H h (.int _) (Step.refl e)⟩
def gInt1 : List D → (D → Prop) → Prop
  | [.int i], P => P (.int i)
  | [.bool b], P => P (.int (if b then 1 else 0))
  | _, _ => False
theorem int1_d : CallD K (fun xs H Q => (∃ i, xs = [.int i] ∧ Q (.int i) H) ∨ ∃ k, xs = [.bl k] ∧ Q (.int (if k then 1 else 0)) H) gInt1 := by
  intro F H vs ds P Q e r h k
  match ds, h with
  | [.int i], h =>
    cases r with
    | cons r1 r2 =>
      cases r2
      cases r1.int_inv
      exact Or.inl ⟨i, rfl, k _ _ F H h (.int _) (Step.refl e)⟩
  | [.bool b], h =>
    cases r with
    | cons r1 r2 =>
      cases r2
      cases r1.bool_inv
      exact Or.inr ⟨b, rfl, k _ _ F H h (.int _) (Step.refl e)⟩
/-- list(x) of a list or a tuple -/
def gList : List D → (List D → Prop) → Prop
  | [.list ds], P => P ds
  | [.tuple ds], P => P ds
  | _, _ => False
theorem list_d : CallDN K (fun xs H Q => ∃ p ys, xs = [.ref p] ∧ (SqL K H p ys ∨ SqT K H p ys) ∧ ∀ l, H l = none → Q (.ref l) (upd H l (.lst ys))) gList := by
  intro F H vs ds P Q e r h k
  match ds, h with
  | [.list ds], h =>
    cases r with
    | cons r1 r2 =>
      cases r2
      obtain ⟨l, xs, rfl, hl, rl⟩ := r1.list_inv
      exact ⟨l, xs, rfl, Or.inl (ex_l e hl), fun q hq => k q _ _ F _ h hq (fresh_back e hq) upd_same rl (Step.lay e hq)⟩
  | [.tuple ds], h =>
    cases r with
    | cons r1 r2 =>
      cases r2
      obtain ⟨l, xs, rfl, hl, rl⟩ := r1.tuple_inv
      exact ⟨l, xs, rfl, Or.inr (ex_t e hl), fun q hq => k q _ _ F _ h hq (fresh_back e hq) upd_same rl (Step.lay e hq)⟩
/-- repr(x) of data -/
def gRepr : List D → (D → Prop) → Prop
  | [d], P => (d.showable = true ∧ d.hasDict = false ∧ d.depth ≤ 20 ∧ d.shown.length ≤ sizeLine) ∧ P (.str d.shown)
  | _, _ => False
def rRepr (K : PySem.W.Frag) : List V → Hp → VK → Prop := fun xs H Q => ∃ F a d P, xs = [.ref a] ∧ Ex F H ∧ Rep K F (.ref a) d ∧ gRepr [d] P ∧ ∀ x, P (.str x) → Q (.str x) H
theorem call_repr (hgd : Y.A.guards = some []) (hu : Y.A.units + 64 < cLine) : CallR Y (.builtin "repr") (rRepr Y.K) := by
  intro pins s σ H xs us Q I rv ⟨F, a, d, P, ex, e, r, hg, k⟩
  subst ex
  cases rv with
  | cons r1 r2 =>
    cases r2
    cases r1
    obtain ⟨as, rd⟩ := r.reads I e (show RelV (.ref a) (.ref a) from rfl)
    obtain ⟨⟨h1, h2, h3, h4⟩, hp⟩ := hg
    refine repr_of_reads' rd h1 (by intro z; rw [h2] at z; cases z) hgd (by omega) (fun b o z => z) ?_ h4
    intro h' u tk hk
    exact ⟨.str _, H, I.kept (t' := tk) hk, ⟨u, rfl⟩, k _ hp⟩
/-- of a list or tuple (a text's, an int's repr is not asked here) -/
def gReprS : List D → (D → Prop) → Prop
  | [.list ds], P => gRepr [.list ds] P
  | [.tuple ds], P => gRepr [.tuple ds] P
  | _, _ => False
theorem repr_d : CallD K (rRepr K) gReprS := by
  intro F H vs ds P Q e r h k
  match ds, h with
  | [.list ds], h =>
    cases r with
    | cons r1 r2 =>
      cases r2
      obtain ⟨l, xs, rfl, hl, rl⟩ := r1.list_inv
      exact ⟨F, l, _, P, rfl, e, .lst hl rl, h, fun x px => k _ _ F H px (.str _) (Step.refl e)⟩
  | [.tuple ds], h =>
    cases r with
    | cons r1 r2 =>
      cases r2
      obtain ⟨l, xs, rfl, hl, rl⟩ := r1.tuple_inv
      exact ⟨F, l, _, P, rfl, e, .tup hl rl, h, fun x px => k _ _ F H px (.str _) (Step.refl e)⟩
end
section
variable {ds : List D} {i j : Int} {b : Bool} {P : D → Prop} {Pn : List D → Prop} {l u : Option Int} {d : D}
theorem gSl_list : gSl (.list ds) l u P = P (.list (cutD ds l u)) := rfl
theorem gSl_tuple : gSl (.tuple ds) l u P = P (.tuple (cutD ds l u)) := rfl
theorem gLen_list : gLen [.list ds] P = P (.int ds.length) := rfl
theorem gLen_tuple : gLen [.tuple ds] P = P (.int ds.length) := rfl
theorem gAbs_int : gAbs [.int i] P = P (.int (if i < 0 then -i else i)) := rfl
theorem gMax2_int : gMax2 [.int i, .int j] P = P (.int (if j > i then j else i)) := rfl
theorem gMin2_int : gMin2 [.int i, .int j] P = P (.int (if j < i then j else i)) := rfl
theorem gInt1_int : gInt1 [.int i] P = P (.int i) := rfl
theorem gInt1_bool : gInt1 [.bool b] P = P (.int (if b then 1 else 0)) := rfl
theorem gList_list : gList [.list ds] Pn = Pn ds := rfl
theorem gList_tuple : gList [.tuple ds] Pn = Pn ds := rfl
theorem gReprS_list : gReprS [.list ds] P = gRepr [.list ds] P := rfl
theorem gReprS_tuple : gReprS [.tuple ds] P = gRepr [.tuple ds] P := rfl
end
end Dl

set_option Elab.async false
set_option linter.all false
set_option maxRecDepth 100000
set_option maxHeartbeats 4000000
namespace Dl
open PySem PySem.Spec PyProof.Rows L2 Evl
/-! ### what a for walks -/
def Iters (K : PySem.W.Frag) (F : Hp) (J : It) (ds : List D) : Prop :=
  ∀ (F1 H1 : Hp) (i : Nat), Ex F F1 → Ex F1 H1 →
    (∀ d, ds[i]? = some d → J.go i H1 ∧ ∀ x H2, J.yld i H1 x H2 → ∃ F2, Step F1 H1 F2 H2 ∧ Rep K F2 x d) ∧ (ds.length ≤ i → J.stop i H1)
abbrev DIr := Env → (List D → Prop) → Prop
def SimI (K : PySem.W.Frag) (wi : TI) (di : DIr) : Prop :=
  ∀ (B : Cd) (F : Hp) (ρ : Env) (σ : L2.St) (H : Hp) (P : List D → Prop) (R : It → Hp → Prop), RelP K B F ρ σ H → di ρ P →
    (∀ ds J F' H', P ds → Step F H F' H' → Iters K F' J ds → R J H') → wi σ H R
def DI {ι : Type} (K : PySem.W.Frag) (X : ι → Cx) (tg iter : Expr) (di : DIr) : Prop := ∃ wi, (∀ c, PI (X c) tg iter wi) ∧ SimI K wi di
section
variable {ι : Type} {K : PySem.W.Frag} {X : ι → Cx} {e a b c : Expr} {pos p : Pos} {da db : DPr} {es : List Expr} {dr : DAr} {F H : Hp}
theorem iters_list {l : Addr} {xs : List V} {ds : List D} (h : SqL K F l xs) (r : Reps K F xs ds) : Iters K F (Itl K l) ds := by
  intro F1 H1 i e1 e2
  have hq : SqL K H1 l xs := ex_l (e1.trans e2) h
  refine ⟨?_, ?_⟩
  · intro d hd
    obtain ⟨v, hv, rv⟩ := r.get hd
    refine ⟨⟨xs, v, hq, hv⟩, ?_⟩
    rintro x H2 ⟨rfl, hx⟩
    have := hx xs hq
    rw [hv] at this
    cases this
    exact ⟨F1, Step.refl e2, rv.mono e1⟩
  · intro hi
    exact ⟨xs, hq, by rw [r.length]; exact hi⟩
theorem iters_tup {l : Addr} {xs : List V} {ds : List D} (h : SqT K F l xs) (r : Reps K F xs ds) : Iters K F (Itt K l) ds := by
  intro F1 H1 i e1 e2
  have hq : SqT K H1 l xs := ex_t (e1.trans e2) h
  refine ⟨?_, ?_⟩
  · intro d hd
    obtain ⟨v, hv, rv⟩ := r.get hd
    refine ⟨⟨xs, v, hq, hv⟩, ?_⟩
    rintro x H2 ⟨rfl, hx⟩
    have := hx xs hq
    rw [hv] at this
    cases this
    exact ⟨F1, Step.refl e2, rv.mono e1⟩
  · intro hi
    exact ⟨xs, hq, by rw [r.length]; exact hi⟩
def rangeD (lo : Int) (n : Nat) : List D := (List.range n).map fun i => .int (lo + (i : Nat))
theorem iters_range (lo : Int) (n : Nat) : Iters K F (Itr lo n) (rangeD lo n) := by
  intro F1 H1 i e1 e2
  refine ⟨?_, ?_⟩
  · intro d hd
    unfold rangeD at hd
    rw [List.getElem?_map] at hd
    cases q : (List.range n)[i]? with
    | none =>
      rw [q] at hd
      cases hd
    | some k =>
      rw [q] at hd
      obtain ⟨h1, h2⟩ := List.getElem?_eq_some_iff.mp q
      rw [List.getElem_range] at h2
      rw [List.length_range] at h1
      subst h2
      refine ⟨h1, ?_⟩
      rintro x H2 ⟨rfl, rfl⟩
      cases hd
      exact ⟨F1, Step.refl e2, .int _⟩
  · intro hi
    unfold rangeD at hi
    rw [List.length_map, List.length_range] at hi
    exact hi
def enumD (ds : List D) : List D := ds.mapIdx fun i d => .tuple [.int (i : Nat), d]
theorem enumD_get {ds : List D} {i : Nat} {d : D} (h : (enumD ds)[i]? = some d) : ∃ x, ds[i]? = some x ∧ d = .tuple [.int (i : Nat), x] := by
  unfold enumD at h
  rw [List.getElem?_mapIdx] at h
  cases q : ds[i]? with
  | none =>
    rw [q] at h
    cases h
  | some x =>
    rw [q] at h
    cases h
    exact ⟨x, rfl, rfl⟩
theorem iters_enum {l : Addr} {xs : List V} {ds : List D} (h : SqL K F l xs) (r : Reps K F xs ds) : Iters K F (Ite K l) (enumD ds) := by
  intro F1 H1 i e1 e2
  have hq : SqL K H1 l xs := ex_l (e1.trans e2) h
  refine ⟨?_, ?_⟩
  · intro d hd
    obtain ⟨y, hy, rfl⟩ := enumD_get hd
    obtain ⟨v, hv, rv⟩ := r.get hy
    refine ⟨⟨xs, v, hq, hv⟩, ?_⟩
    rintro x H2 ⟨T, x', rfl, hT, rfl, hx⟩
    have := hx xs hq
    rw [hv] at this
    cases this
    exact ⟨_, Step.new e2 hT, .tup (st_of upd_same) (.cons (.int _) (.cons (rv.mono (e1.trans (Ex.new (fresh_back e2 hT)))) .nil))⟩
  · intro hi
    refine ⟨xs, hq, ?_⟩
    unfold enumD at hi
    rw [List.length_mapIdx] at hi
    rw [r.length]
    exact hi
def zipD (as bs : List D) : List D := List.zipWith (fun x y => .tuple [x, y]) as bs
theorem iters_zip {l m : Addr} {xs ys : List V} {ds es : List D} (h : SqL K F l xs) (h' : SqL K F m ys) (r : Reps K F xs ds) (r' : Reps K F ys es) : Iters K F (Itz K l m) (zipD ds es) := by
  intro F1 H1 i e1 e2
  have hq : SqL K H1 l xs := ex_l (e1.trans e2) h
  have hq' : SqL K H1 m ys := ex_l (e1.trans e2) h'
  refine ⟨?_, ?_⟩
  · intro d hd
    unfold zipD at hd
    rw [List.getElem?_zipWith] at hd
    cases q : ds[i]? with
    | none =>
      rw [q] at hd
      cases hd
    | some x =>
      cases q' : es[i]? with
      | none =>
        rw [q, q'] at hd
        cases hd
      | some y =>
        rw [q, q'] at hd
        cases hd
        obtain ⟨v, hv, rv⟩ := r.get q
        obtain ⟨v', hv', rv'⟩ := r'.get q'
        refine ⟨⟨xs, ys, v, v', hq, hq', hv, hv'⟩, ?_⟩
        rintro z H2 ⟨T, x', y', rfl, hT, rfl, hx, hy⟩
        have a1 := hx xs hq
        rw [hv] at a1
        cases a1
        have a2 := hy ys hq'
        rw [hv'] at a2
        cases a2
        have e3 := e1.trans (Ex.new (o := .tup [v, v']) (fresh_back e2 hT))
        exact ⟨_, Step.new e2 hT, .tup (st_of upd_same) (.cons (rv.mono e3) (.cons (rv'.mono e3) .nil))⟩
  · intro hi
    refine ⟨xs, ys, hq, hq', ?_⟩
    unfold zipD at hi
    rw [List.length_zipWith] at hi
    rw [r.length, r'.length]
    omega
def iL (da : DPr) : DIr := fun ρ P => da ρ fun x => ∃ ds, x = .list ds ∧ P ds
def iT (da : DPr) : DIr := fun ρ P => da ρ fun x => ∃ ds, x = .tuple ds ∧ P ds
def iR1 (dr : DAr) : DIr := fun ρ P => dr ρ fun xs => ∃ n, xs = [.int n] ∧ (-(2 ^ 62) ≤ n ∧ n < 2 ^ 62) ∧ P (rangeD 0 n.toNat)
def iR2 (dr : DAr) : DIr := fun ρ P => dr ρ fun xs => ∃ lo n, xs = [.int lo, .int n] ∧ (-(2 ^ 62) ≤ lo ∧ lo < 2 ^ 62 ∧ -(2 ^ 62) ≤ n ∧ n < 2 ^ 62) ∧ P (rangeD lo (n - lo).toNat)
def iE (dr : DAr) : DIr := fun ρ P => dr ρ fun xs => ∃ ds, xs = [.list ds] ∧ P (enumD ds)
def iZ (dr : DAr) : DIr := fun ρ P => dr ρ fun xs => ∃ ds es, xs = [.list ds, .list es] ∧ P (zipD ds es)
theorem di_list {tg : Expr} (h : DP K X e da) (hK : ∀ c, (X c).K = K := by intro _; rfl) : DI K X tg e (iL da) := by
  obtain ⟨te, pe, se⟩ := h
  refine ⟨iList K te, fun c => hK c ▸ pi_list (pe c), ?_⟩
  intro B F ρ σ H P R I hd k
  refine se B F ρ σ H _ _ I hd ?_
  intro v d F1 H1 p1 r1 s1
  obtain ⟨ds, rfl, p1⟩ := p1
  obtain ⟨l, xs, rfl, hl, rl⟩ := r1.list_inv
  exact ⟨l, rfl, ⟨xs, ex_l s1.fh hl⟩, k ds _ F1 H1 p1 s1 (iters_list hl rl)⟩
theorem di_tup {tg : Expr} (h : DP K X e da) (hK : ∀ c, (X c).K = K := by intro _; rfl) : DI K X tg e (iT da) := by
  obtain ⟨te, pe, se⟩ := h
  refine ⟨iTup K te, fun c => hK c ▸ pi_tup (pe c), ?_⟩
  intro B F ρ σ H P R I hd k
  refine se B F ρ σ H _ _ I hd ?_
  intro v d F1 H1 p1 r1 s1
  obtain ⟨ds, rfl, p1⟩ := p1
  obtain ⟨l, xs, rfl, hl, rl⟩ := r1.tuple_inv
  exact ⟨l, rfl, ⟨xs, ex_t s1.fh hl⟩, k ds _ F1 H1 p1 s1 (iters_tup hl rl)⟩
theorem di_range1 {tg : Expr} (h : DA K X [a] dr) (pi : ∀ c {ta : TA}, PA (X c) [a] ta → PI (X c) tg e (iRng1 ta)) : DI K X tg e (iR1 dr) := by
  obtain ⟨ta, pa, sa⟩ := h
  refine ⟨_, fun c => pi c (pa c), ?_⟩
  intro B F ρ σ H P R I hd k
  refine sa B F ρ σ H _ _ I hd ?_
  intro vs ds F1 H1 p1 r1 s1
  obtain ⟨n, rfl, hn, p1⟩ := p1
  cases r1 with
  | cons r1 r2 =>
    cases r2
    cases r1.int_inv
    exact ⟨n, rfl, hn.1, hn.2, k _ _ F1 H1 p1 s1 (iters_range 0 n.toNat)⟩
theorem di_range2 {tg : Expr} (h : DA K X [a, b] dr) (pi : ∀ c {ta : TA}, PA (X c) [a, b] ta → PI (X c) tg e (iRng2 ta)) : DI K X tg e (iR2 dr) := by
  obtain ⟨ta, pa, sa⟩ := h
  refine ⟨_, fun c => pi c (pa c), ?_⟩
  intro B F ρ σ H P R I hd k
  refine sa B F ρ σ H _ _ I hd ?_
  intro vs ds F1 H1 p1 r1 s1
  obtain ⟨lo, n, rfl, hn, p1⟩ := p1
  cases r1 with
  | cons r1 r2 =>
    cases r2 with
    | cons r2 r3 =>
      cases r3
      cases r1.int_inv
      cases r2.int_inv
      exact ⟨lo, n, rfl, hn, k _ _ F1 H1 p1 s1 (iters_range lo _)⟩
theorem di_enum {tg : Expr} (h : DA K X [a] dr) (pi : ∀ c {ta : TA}, PA (X c) [a] ta → PI (X c) tg e (iEnum (X c).K ta)) (hK : ∀ c, (X c).K = K := by intro _; rfl) : DI K X tg e (iE dr) := by
  obtain ⟨ta, pa, sa⟩ := h
  refine ⟨iEnum K ta, fun c => hK c ▸ pi c (pa c), ?_⟩
  intro B F ρ σ H P R I hd k
  refine sa B F ρ σ H _ _ I hd ?_
  intro vs ds F1 H1 p1 r1 s1
  obtain ⟨es, rfl, p1⟩ := p1
  cases r1 with
  | cons r1 r2 =>
    cases r2
    obtain ⟨l, xs, rfl, hl, rl⟩ := r1.list_inv
    exact ⟨l, xs, rfl, ex_l s1.fh hl, k _ _ F1 H1 p1 s1 (iters_enum hl rl)⟩
theorem di_zip {tg : Expr} (h : DA K X [a, b] dr) (pi : ∀ c {ta : TA}, PA (X c) [a, b] ta → PI (X c) tg e (iZip (X c).K ta)) (hK : ∀ c, (X c).K = K := by intro _; rfl) : DI K X tg e (iZ dr) := by
  obtain ⟨ta, pa, sa⟩ := h
  refine ⟨iZip K ta, fun c => hK c ▸ pi c (pa c), ?_⟩
  intro B F ρ σ H P R I hd k
  refine sa B F ρ σ H _ _ I hd ?_
  intro vs ds F1 H1 p1 r1 s1
  obtain ⟨d1, d2, rfl, p1⟩ := p1
  cases r1 with
  | cons r1 r2 =>
    cases r2 with
    | cons r2 r3 =>
      cases r3
      obtain ⟨l, xs, rfl, hl, rl⟩ := r1.list_inv
      obtain ⟨m, ys, rfl, hm, rm⟩ := r2.list_inv
      exact ⟨l, m, xs, ys, rfl, ex_l s1.fh hl, ex_l s1.fh hm, k _ _ F1 H1 p1 s1 (iters_zip hl hm rl rm)⟩
/-! ### targets of names -/
abbrev DGr := D → Env → (Env → Prop) → Prop
abbrev DGsr := List D → Env → (Env → Prop) → Prop
def SimG (K : PySem.W.Frag) (tg : TG) (dg : DGr) (sl : List Nat) : Prop :=
  ∀ (B : Cd) (F : Hp) (ρ : Env) (σ : L2.St) (H : Hp) (v : V) (d : D) (P : Env → Prop) (Q : L2.St → Hp → Prop), RelP K B F ρ σ H → Rep K F v d → dg d ρ P →
    (∀ ρ' σ', P ρ' → RelP K B F ρ' σ' H → (∀ vs : List Nat, (∀ i ∈ sl, i ∈ vs) → wipe σ' vs = wipe σ vs) → Q σ' H) → tg v σ H Q
def SimGs (K : PySem.W.Frag) (tg : TGs) (dg : DGsr) (sl : List Nat) : Prop :=
  ∀ (B : Cd) (F : Hp) (ρ : Env) (σ : L2.St) (H : Hp) (vs : List V) (ds : List D) (P : Env → Prop) (Q : L2.St → Hp → Prop), RelP K B F ρ σ H → Reps K F vs ds → dg ds ρ P →
    (∀ ρ' σ', P ρ' → RelP K B F ρ' σ' H → (∀ vs : List Nat, (∀ i ∈ sl, i ∈ vs) → wipe σ' vs = wipe σ vs) → Q σ' H) → tg vs σ H Q
def DG {ι : Type} (K : PySem.W.Frag) (X : ι → Cx) (tg : Expr) (dg : DGr) (sl : List Nat) : Prop := ∃ t, (∀ c, PG (X c) tg t) ∧ SimG K t dg sl
def DGs {ι : Type} (K : PySem.W.Frag) (X : ι → Cx) (tgs : List Expr) (dg : DGsr) (sl : List Nat) : Prop := ∃ t, (∀ c, PGs (X c) tgs t) ∧ SimGs K t dg sl
def gN (i : Nat) : DGr := fun d ρ P => P (ρ.set i (.dat d))
def gTn : DGsr := fun ds ρ P => ds = [] ∧ P ρ
def gTc (g : DGr) (gs : DGsr) : DGsr := fun ds ρ P => ∃ d r, ds = d :: r ∧ g d ρ fun ρ' => gs r ρ' P
def gT (n : Nat) (gs : DGsr) : DGr := fun d ρ P => ∃ ds, d = .tuple ds ∧ ds.length = n ∧ gs ds ρ P
theorem dg_name {i : Nat} {x : Str} (h : ∀ c, PG (X c) (.Name x pos) (gName i)) : DG K X (.Name x pos) (gN i) [i] := by
  refine ⟨_, h, ?_⟩
  intro B F ρ σ H v d P Q R r hd k
  exact k _ _ hd (R.dat r) (fun vs hi => wipe_set σ _ (hi i List.mem_cons_self))
theorem dgs_nil : DGs K X [] gTn [] := by
  refine ⟨_, fun _ => pgs_nil, ?_⟩
  intro B F ρ σ H vs ds P Q R r hd k
  obtain ⟨rfl, hd⟩ := hd
  cases r
  exact ⟨rfl, k _ _ hd R (fun _ _ => rfl)⟩
theorem dgs_cons {tg : Expr} {tgs : List Expr} {g : DGr} {gs : DGsr} {sl sl' : List Nat} (h : DG K X tg g sl) (h' : DGs K X tgs gs sl')
    (hs : ∀ c, (assignEach (tg :: tgs) (X c).env).map (·.2) = assign tg (X c).env :: (assignEach tgs (X c).env).map (·.2) := by intro _; rfl) : DGs K X (tg :: tgs) (gTc g gs) (sl ++ sl') := by
  obtain ⟨t, p, s⟩ := h
  obtain ⟨t', p', s'⟩ := h'
  refine ⟨_, fun c => pgs_cons (p c) (p' c) (hs c), ?_⟩
  intro B F ρ σ H vs ds P Q R r hd k
  obtain ⟨d, rest, rfl, hd⟩ := hd
  cases r with
  | cons r1 r2 =>
    refine ⟨_, _, rfl, ?_⟩
    refine s B F ρ σ H _ d _ _ R r1 hd ?_
    intro ρ1 σ1 p1 R1 w1
    refine s' B F ρ1 σ1 H _ rest _ _ R1 r2 p1 ?_
    intro ρ2 σ2 p2 R2 w2
    exact k ρ2 σ2 p2 R2 (fun vs hv => (w2 vs fun i hi => hv i (List.mem_append_right _ hi)).trans (w1 vs fun i hi => hv i (List.mem_append_left _ hi)))
theorem dg_tup {tgs : List Expr} {kk : Nat} {gs : DGsr} {sl : List Nat} {n : Nat} (h : DGs K X tgs gs sl) (hc : ∀ c, (X c).calm = true := by intro _; rfl) (hn : ∀ c, (assignEach tgs (X c).env).length = n := by intro _; rfl)
    (hst : ∀ c, (assignEach tgs (X c).env).findIdx? (·.1) = none := by intro _; rfl) (hK : ∀ c, (X c).K = K := by intro _; rfl) : DG K X (.Tuple tgs kk pos) (gT n gs) sl := by
  obtain ⟨t, p, s⟩ := h
  refine ⟨gTup K n t, fun c => hK c ▸ pg_tup (hc c) (p c) (hn c) (hst c), ?_⟩
  intro B F ρ σ H v d P Q R r hd k
  obtain ⟨ds, rfl, hl, hd⟩ := hd
  obtain ⟨l, xs, rfl, hx, rx⟩ := r.tuple_inv
  exact ⟨l, xs, rfl, ex_t R.fh hx, by rw [rx.length]; exact hl, s B F ρ σ H xs ds P Q R rx hd k⟩
/-! ### comprehensions of what changes nothing -/
/-- the contexts of a comprehension's block -/
abbrev BlkI (ι : Type) := ι × (Shared × Hp × Addr × List (Str × Addr) × List Addr)
def blkX (X : ι → Cx) (scope : Scope) : BlkI ι → Cx := fun q => (X q.1).blk q.2.1 q.2.2.1 scope (compEnvC scope q.2.2.2.2.1 q.2.2.2.1 (X q.1).env) q.2.2.2.2.2
def DTs {ι : Type} (K : PySem.W.Frag) (X : ι → Cx) (ifs : List Expr) (dt : DTr) : Prop := ∃ tt, (∀ c, PTs (X c) ifs tt) ∧ SimT K tt dt
def dYes : DTr := fun _ P => P true
theorem dts_nil : DTs K X [] dYes := ⟨tYes, fun _ => pts_nil, fun B F ρ σ H P Q R hd k => k true F H hd (Step.refl R.fh)⟩
theorem dts_one {dt : DTr} (h : DT K X e dt) : DTs K X [e] dt := let ⟨_, p, s⟩ := h; ⟨_, fun c => pts_one (p c), s⟩
def dLc (di : DIr) (dg : DGr) (dt : DTr) (de : DPr) (vs : List Nat) : DAr := fun ρ P => di ρ fun ds => ds.length ≤ 100000 ∧ ∃ I : Nat → List D → Prop, I 0 [] ∧
  (∀ i d acc, ds[i]? = some d → acc.length ≤ i → I i acc → dg d (wipeD ρ vs) fun ρ' => dt ρ' fun b => if b = true then de ρ' fun y => I (i + 1) (acc ++ [y]) else I (i + 1) acc) ∧
  ∀ acc, acc.length ≤ ds.length → I ds.length acc → P acc
theorem upd_lst_step {F F' H H' : Hp} {Dl : Addr} {o : HO} (h0 : F Dl = none) (st : Ex F H) : Ex F (upd H Dl o) := by
  intro a u h
  rw [upd_ne (ne_of_none h h0)]
  exact st a u h
/-- how the new list and all else lie between two turns -/
structure LcAt (K : PySem.W.Frag) (F H : Hp) (Dl : Addr) (acc : List D) (F' H' : Hp) : Prop where
  ff : Ex F F'
  fh : Ex F' H'
  hh : Ex H H'
  nn : ∀ a, F a = none → H a ≠ none → F' a = none
  fd : F' Dl = none
  at_ : ∃ xs, H' Dl = some (.lst xs) ∧ Reps K F' xs acc
theorem sim_lc {wi : TI} {g : TG} {tt : TT} {te : TE} {di : DIr} {dg : DGr} {dt : DTr} {de : DPr} {vs sl : List Nat} (si : SimI K wi di) (sg : SimG K g dg sl) (st : SimT K tt dt) (se : SimP K te de) (hsl : ∀ i ∈ sl, i ∈ vs) :
    SimN K (tLc wi g tt te vs) (dLc di dg dt de vs) := by
  intro B F ρ σ H P Q R hd k
  refine si B F ρ σ H _ _ R hd ?_
  intro ds J F1 H1 p1 s1 its
  obtain ⟨hlen, Inv, i0, turn, fin⟩ := p1
  intro Dl hD
  have R1 := R.step s1
  have fD1 : F1 Dl = none := fresh_back s1.fh hD
  refine ⟨fun i m H2 => m = ds.length - i ∧ i ≤ ds.length ∧ ∃ acc F2, acc.length ≤ i ∧ Inv i acc ∧ LcAt K F1 H1 Dl acc F2 H2, ⟨ds.length, by simp, Nat.zero_le _, [], F1, Nat.le_refl _, i0, ?_⟩, ?_⟩
  · exact ⟨Ex.refl F1, s1.fh.trans (Ex.new hD), Ex.new hD, fun a h _ => h, fD1, ⟨[], upd_same, .nil⟩⟩
  · rintro i m H2 ⟨rfl, hi, acc, F2, ha, hI, L⟩
    obtain ⟨xs, hDl, rxs⟩ := L.at_
    by_cases hlt : i < ds.length
    · right
      have hget : ds[i]? = some ds[i] := List.getElem?_eq_getElem hlt
      obtain ⟨hgo, hy⟩ := (its F2 H2 i L.ff L.fh).1 _ hget
      refine ⟨hgo, fun H' => ∃ acc' F', acc'.length ≤ i + 1 ∧ Inv (i + 1) acc' ∧ LcAt K F1 H1 Dl acc' F' H', ?_, ?_⟩
      · rintro H' ⟨acc', F', h1, h2, h3⟩
        exact ⟨ds.length - (i + 1), by omega, rfl, hlt, acc', F', h1, h2, h3⟩
      · intro x H3 y3
        obtain ⟨F3, s3, r3⟩ := hy x H3 y3
        have s13 : Step F1 H1 F3 H3 := ⟨L.ff.trans s3.ff, s3.fh, L.hh.trans s3.hh, fun a h1 h2 => s3.nn a (L.nn a h1 h2) (ex_some L.hh h2)⟩
        have f3 : F3 Dl = none := s3.nn Dl L.fd (by rw [hDl]; exact Option.some_ne_none _)
        have R3 : RelP K B F3 (wipeD ρ vs) (wipe σ vs) H3 := (R1.step s13).wiped vs
        refine sg B F3 _ _ H3 x ds[i] _ _ R3 r3 (turn i _ acc hget ha hI) ?_
        intro ρ4 σ4 p4 R4 w4
        refine ⟨by rw [w4 vs hsl, wipe_wipe], ?_⟩
        refine st B F3 ρ4 σ4 H3 _ _ R4 p4 ?_
        intro b F5 H5 p5 s5
        have s15 : Step F1 H1 F5 H5 := s13.trans s5
        have f5 : F5 Dl = none := s5.nn Dl f3 (by rw [s3.hh _ _ hDl]; exact Option.some_ne_none _)
        have hD5 : H5 Dl = some (.lst xs) := s5.hh _ _ (s3.hh _ _ hDl)
        cases b with
        | false =>
          exact ⟨acc, F5, by omega, p5, s15.ff, s15.fh, s15.hh, s15.nn, f5, ⟨xs, hD5, rxs.mono (s3.ff.trans s5.ff)⟩⟩
        | true =>
          refine se B F5 ρ4 σ4 H5 _ _ (R4.step s5) p5 ?_
          intro y d F6 H6 p6 r6 s6
          have s16 : Step F1 H1 F6 H6 := s15.trans s6
          have f6 : F6 Dl = none := s6.nn Dl f5 (by rw [hD5]; exact Option.some_ne_none _)
          have hD6 : H6 Dl = some (.lst xs) := s6.hh _ _ hD5
          have rx6 := rxs.mono ((s3.ff.trans s5.ff).trans s6.ff)
          refine ⟨xs, hD6, ?_, acc ++ [d], F6, by rw [List.length_append]; simp; omega, p6, s16.ff, ?_, ?_, s16.nn, f6, ⟨xs ++ [y], upd_same, rx6.append (.one r6)⟩⟩
          · rw [rxs.length]
            exact sz_lt (by omega)
          · exact upd_lst_step (F' := F6) (H' := H6) f6 s16.fh
          · intro a u h
            have hne : a ≠ Dl := by
              intro z
              subst z
              rw [hD] at h
              cases h
            rw [upd_ne hne]
            exact s16.hh a u h
    · left
      have ei : i = ds.length := by omega
      subst ei
      refine ⟨(its F2 H2 _ L.ff L.fh).2 (Nat.le_refl _), ?_⟩
      have hH : H Dl = none := fresh_back s1.hh hD
      exact k Dl xs acc F2 H2 (fin acc ha hI) hH L.fd hDl rxs (s1.trans ⟨L.ff, L.fh, L.hh, L.nn⟩)
theorem dn_lc {elt tg iter : Expr} {ifs : List Expr} {scope : Scope} {own : List (Str × Nat)} {di : DIr} {dg : DGr} {dt : DTr} {de : DPr} {sl : List Nat}
    (hi : DI K X tg iter di) (hg : DG K (blkX X scope) tg dg sl) (ht : DTs K (blkX X scope) ifs dt) (he : DP K (blkX X scope) elt de)
    (ok : ∀ c, BlkOk (X c).N (X c).env.scope scope own) (hN : ∀ c, (X c).N.Nodup) (hsl : ∀ i ∈ sl, i ∈ own.map (·.2) := by decide) (hc : ∀ c, (X c).calm = true := by intro _; rfl)
    (hs : ∀ c x, foldedSetIterable iter (X c).env x = pure x := by intro _ _; rfl) :
    DN K X (.ListComp elt [⟨tg, iter, ifs, 0⟩] scope pos) (dLc di dg dt de (own.map (·.2))) := by
  obtain ⟨wi, pi, si⟩ := hi
  obtain ⟨g, pg, sg⟩ := hg
  obtain ⟨tt, pt, st⟩ := ht
  obtain ⟨te, pe, se⟩ := he
  exact ⟨_, fun c => pe_lc (hc c) (hN c) (pi c) (ok c) (fun s H C cl fp => pg (c, s, H, C, cl, fp)) (fun s H C cl fp => pt (c, s, H, C, cl, fp)) (fun s H C cl fp => pe (c, s, H, C, cl, fp)) (hs c), sim_lc si sg st se hsl⟩
end
end Dl

set_option Elab.async false
set_option linter.all false
set_option maxRecDepth 100000
set_option maxHeartbeats 4000000
namespace Dl
open PySem PySem.Spec PyProof.Rows L2 Evl
/-! ### the whole relation: the def's own slots, and what it leaves alone -/
structure Rel (K : PySem.W.Frag) (c : Cd) (F : Hp) (ρ : Env) (σ : L2.St) (H : Hp) : Prop where
  p : RelP K c F ρ σ H
  b : ∀ (a : Addr) (o : HO), c.cell ≠ some a → c.B a = some o → H a = some o
  f0 : Ex c.F0 F
  z : ∀ a, c.B a ≠ none → c.F0 a = none → F a = none
  cl : ∀ a, c.cell = some a → H a ≠ none
section
variable {K : PySem.W.Frag} {c : Cd} {F F' H H' : Hp} {ρ : Env} {σ : L2.St}
theorem Rel.hz (R : Rel K c F ρ σ H) {a : Addr} (h : c.B a ≠ none) : H a ≠ none := by
  by_cases q : c.cell = some a
  · exact R.cl a q
  · cases z : c.B a with
    | none => exact absurd z h
    | some o =>
      rw [R.b a o q z]
      exact Option.some_ne_none o
theorem Rel.step (R : Rel K c F ρ σ H) (st : Step F H F' H') : Rel K c F' ρ σ H' :=
  ⟨R.p.step st, fun a o q z => st.hh a o (R.b a o q z), R.f0.trans st.ff, fun a h1 h2 => st.nn a (R.z a h1 h2) (R.hz h1), fun a h => ex_some st.hh (R.cl a h)⟩
theorem Rel.wiped (R : Rel K c F ρ σ H) (vs : List Nat) : Rel K c F (wipeD ρ vs) (wipe σ vs) H := ⟨R.p.wiped vs, R.b, R.f0, R.z, R.cl⟩
theorem Rel.dat {i : Nat} {v : V} {d : D} (R : Rel K c F ρ σ H) (r : Rep K F v d) : Rel K c F (ρ.set i (.dat d)) (σ.set i (some v)) H := ⟨R.p.dat r, R.b, R.f0, R.z, R.cl⟩
theorem Rel.freshB (R : Rel K c F ρ σ H) {p : Addr} (h : H p = none) : c.B p = none := by
  cases z : c.B p with
  | none => rfl
  | some o => exact absurd h (R.hz (by rw [z]; exact Option.some_ne_none o))
end
/-! ### readings that may turn owned slots -/
abbrev EPr := Env → (D → Env → Prop) → Prop
abbrev ETr := Env → (Bool → Env → Prop) → Prop
abbrev EAr := Env → (List D → Env → Prop) → Prop
def SimE (K : PySem.W.Frag) (te : TE) (de : EPr) : Prop :=
  ∀ (c : Cd) (F : Hp) (ρ : Env) (σ : L2.St) (H : Hp) (P : D → Env → Prop) (Q : VK), Rel K c F ρ σ H → de ρ P →
    (∀ v d F' ρ' H', P d ρ' → Rep K F' v d → Ex F F' → Rel K c F' ρ' σ H' → Q v H') → te σ H Q
def SimET (K : PySem.W.Frag) (tt : TT) (dt : ETr) : Prop :=
  ∀ (c : Cd) (F : Hp) (ρ : Env) (σ : L2.St) (H : Hp) (P : Bool → Env → Prop) (Q : Bool → Hp → Prop), Rel K c F ρ σ H → dt ρ P →
    (∀ b F' ρ' H', P b ρ' → Ex F F' → Rel K c F' ρ' σ H' → Q b H') → tt σ H Q
def SimEA (K : PySem.W.Frag) (ta : TA) (da : EAr) : Prop :=
  ∀ (c : Cd) (F : Hp) (ρ : Env) (σ : L2.St) (H : Hp) (P : List D → Env → Prop) (Q : List V → Hp → Prop), Rel K c F ρ σ H → da ρ P →
    (∀ vs ds F' ρ' H', P ds ρ' → Reps K F' vs ds → Ex F F' → Rel K c F' ρ' σ H' → Q vs H') → ta σ H Q
def DE {ι : Type} (K : PySem.W.Frag) (X : ι → Cx) (e : Expr) (de : EPr) : Prop := ∃ te, (∀ c, PE (X c) e te) ∧ SimE K te de
def DTE {ι : Type} (K : PySem.W.Frag) (X : ι → Cx) (e : Expr) (dt : ETr) : Prop := ∃ tt, (∀ c, PT (X c) e tt) ∧ SimET K tt dt
def DWE {ι : Type} (K : PySem.W.Frag) (X : ι → Cx) (e : Expr) (dt : ETr) : Prop := ∃ tt, (∀ c, PW (X c) e tt) ∧ SimET K tt dt
def DAE {ι : Type} (K : PySem.W.Frag) (X : ι → Cx) (es : List Expr) (da : EAr) : Prop := ∃ ta, (∀ c, PA (X c) es ta) ∧ SimEA K ta da
section
variable {ι : Type} {K : PySem.W.Frag} {X : ι → Cx} {e a b c : Expr} {pos : Pos} {es : List Expr} {da db dc : EPr} {dt du : ETr} {dr : EAr}
def eP (de : DPr) : EPr := fun ρ P => de ρ fun d => P d ρ
def eTP (dt : DTr) : ETr := fun ρ P => dt ρ fun b => P b ρ
def eAP (da : DAr) : EAr := fun ρ P => da ρ fun ds => P ds ρ
theorem SimP.asE {te : TE} {de : DPr} (h : SimP K te de) : SimE K te (eP de) := by
  intro c F ρ σ H P Q R hd k
  refine h c F ρ σ H _ Q R.p hd ?_
  intro v d F' H' p r st
  exact k v d F' ρ H' p r st.ff (R.step st)
theorem SimT.asE {te : TT} {de : DTr} (h : SimT K te de) : SimET K te (eTP de) := by
  intro c F ρ σ H P Q R hd k
  refine h c F ρ σ H _ Q R.p hd ?_
  intro b F' H' p st
  exact k b F' ρ H' p st.ff (R.step st)
theorem SimA.asE {te : TA} {de : DAr} (h : SimA K te de) : SimEA K te (eAP de) := by
  intro c F ρ σ H P Q R hd k
  refine h c F ρ σ H _ Q R.p hd ?_
  intro v d F' H' p r st
  exact k v d F' ρ H' p r st.ff (R.step st)
theorem de_p {de : DPr} (h : DP K X e de) : DE K X e (eP de) := let ⟨_, p, s⟩ := h; ⟨_, p, s.asE⟩
theorem dte_p {de : DTr} (h : DT K X e de) : DTE K X e (eTP de) := let ⟨_, p, s⟩ := h; ⟨_, p, s.asE⟩
theorem dae_p {de : DAr} (h : DA K X es de) : DAE K X es (eAP de) := let ⟨_, p, s⟩ := h; ⟨_, p, s.asE⟩
def eOp (f : D → D → (D → Prop) → Prop) (da db : EPr) : EPr := fun ρ P => da ρ fun x ρ1 => db ρ1 fun y ρ2 => f x y fun z => P z ρ2
theorem SimE.op {r : R2} {f : D → D → (D → Prop) → Prop} {ta tb : TE} (hf : OpD K r f) (ha : SimE K ta da) (hb : SimE K tb db) : SimE K (tOp r ta tb) (eOp f da db) := by
  intro c F ρ σ H P Q R hd k
  refine ha c F ρ σ H _ _ R hd ?_
  intro v1 d1 F1 ρ1 H1 p1 r1 e1 R1
  refine hb c F1 ρ1 σ H1 _ _ R1 p1 ?_
  intro v2 d2 F2 ρ2 H2 p2 r2 e2 R2
  refine hf F2 H2 v1 v2 d1 d2 _ Q R2.p.fh (r1.mono e2) r2 p2 ?_
  intro v d F3 H3 p3 r3 s3
  exact k v d F3 ρ2 H3 p3 r3 ((e1.trans e2).trans s3.ff) (R2.step s3)
theorem de_bin {op : Operator} {r : R2} {f : D → D → (D → Prop) → Prop} (ho : ∀ c, OpR (X c) (binaryOp op) r) (hf : OpD K r f) (ha : DE K X a da) (hb : DE K X b db) : DE K X (.BinOp a op b pos) (eOp f da db) := by
  obtain ⟨ta, pa, sa⟩ := ha
  obtain ⟨tb, pb, sb⟩ := hb
  exact ⟨_, fun c => pe_op (ho c) (pa c) (pb c), SimE.op hf sa sb⟩
theorem de_cmp {op : CmpOp} {r : R2} {f : D → D → (D → Prop) → Prop} (ho : ∀ c, OpR (X c) (compareOp op) r) (hf : OpD K r f) (ha : DE K X a da) (hb : DE K X b db)
    (hm : behindInMarks op b = false := by first | exact nobehind _ (by decide) (by decide) | rfl) : DE K X (.Compare a [op] [b] pos) (eOp f da db) := by
  obtain ⟨ta, pa, sa⟩ := ha
  obtain ⟨tb, pb, sb⟩ := hb
  exact ⟨_, fun c => pe_cmpR (ho c) (pa c) (pb c) hm, SimE.op hf sa sb⟩
theorem de_ix (ha : DE K X a da) (hb : DE K X b db) (hs : PlainIx b) (hK : ∀ c, (X c).K = K := by intro _; rfl) : DE K X (.Subscript a b pos) (eOp gIx da db) := by
  obtain ⟨ta, pa, sa⟩ := ha
  obtain ⟨tb, pb, sb⟩ := hb
  exact ⟨_, fun c => pe_ix (hK c ▸ ix_d) (pa c) (pb c) hs, SimE.op rG_d sa sb⟩
def eB (da : EPr) : ETr := fun ρ P => da ρ fun x ρ1 => ∃ b, x = .bool b ∧ P b ρ1
theorem dte_val (h : DE K X e da) (he : ∀ c whole, isTrue e (X c).env whole = (do let v ← whole; standAt e.pos; holding [v] (truthy v)) := by intro _ _; rfl) : DTE K X e (eB da) := by
  obtain ⟨te, p, s⟩ := h
  refine ⟨_, fun c => pt_val (p c) (he c), ?_⟩
  intro c F ρ σ H P Q R hd k
  refine s c F ρ σ H _ _ R hd ?_
  intro v d F1 ρ1 H1 p1 r1 e1 R1
  obtain ⟨b, rfl, p⟩ := p1
  have e := r1.bool_inv
  subst e
  exact ⟨b, rfl, k b F1 ρ1 H1 p e1 R1⟩
theorem dte_cmp {op : CmpOp} {r : R2} {f : D → D → (D → Prop) → Prop} (ho : ∀ c, OpR (X c) (compareOp op) r) (hf : OpD K r f) (ha : DE K X a da) (hb : DE K X b db)
    (hm : behindInMarks op b = false := by first | exact nobehind _ (by decide) (by decide) | rfl) : DTE K X (.Compare a [op] [b] pos) (eB (eOp f da db)) := by
  obtain ⟨ta, pa, sa⟩ := ha
  obtain ⟨tb, pb, sb⟩ := hb
  refine ⟨_, fun c => pt_cmpR (ho c) (pa c) (pb c) hm, ?_⟩
  intro c F ρ σ H P Q R hd k
  refine SimE.op hf sa sb c F ρ σ H _ _ R hd ?_
  intro v d F1 ρ1 H1 p1 r1 e1 R1
  obtain ⟨b, rfl, p⟩ := p1
  have e := r1.bool_inv
  subst e
  exact ⟨b, rfl, k b F1 ρ1 H1 p e1 R1⟩
def eAnd (dt du : ETr) : ETr := fun ρ P => dt ρ fun b ρ1 => if b = true then du ρ1 P else P false ρ1
def eOr (dt du : ETr) : ETr := fun ρ P => dt ρ fun b ρ1 => if b = true then P true ρ1 else du ρ1 P
def eNot (dt : ETr) : ETr := fun ρ P => dt ρ fun b ρ1 => P (!b) ρ1
theorem SimET.and {tt tu : TT} (h : SimET K tt dt) (h' : SimET K tu du) : SimET K (tAnd tt tu) (eAnd dt du) := by
  intro c F ρ σ H P Q R hd k
  refine h c F ρ σ H _ _ R hd ?_
  intro b F1 ρ1 H1 p1 e1 R1
  cases b with
  | false => exact k false F1 ρ1 H1 p1 e1 R1
  | true =>
    show tu σ H1 Q
    refine h' c F1 ρ1 σ H1 P Q R1 p1 ?_
    intro b F2 ρ2 H2 p2 e2 R2
    exact k b F2 ρ2 H2 p2 (e1.trans e2) R2
theorem SimET.or {tt tu : TT} (h : SimET K tt dt) (h' : SimET K tu du) : SimET K (tOr tt tu) (eOr dt du) := by
  intro c F ρ σ H P Q R hd k
  refine h c F ρ σ H _ _ R hd ?_
  intro b F1 ρ1 H1 p1 e1 R1
  cases b with
  | true => exact k true F1 ρ1 H1 p1 e1 R1
  | false =>
    show tu σ H1 Q
    refine h' c F1 ρ1 σ H1 P Q R1 p1 ?_
    intro b F2 ρ2 H2 p2 e2 R2
    exact k b F2 ρ2 H2 p2 (e1.trans e2) R2
theorem dwe_and1 (h : DTE K X a dt) : DWE K X (.BoolOp .And [a] pos) dt := let ⟨_, p, s⟩ := h; ⟨_, fun c => pw_and1 (p c), s⟩
theorem dwe_or1 (h : DTE K X a dt) : DWE K X (.BoolOp .Or [a] pos) dt := let ⟨_, p, s⟩ := h; ⟨_, fun c => pw_or1 (p c), s⟩
theorem dwe_and {rest : List Expr} (h : DTE K X a dt) (h' : DWE K X (.BoolOp .And (b :: rest) pos) du) : DWE K X (.BoolOp .And (a :: b :: rest) pos) (eAnd dt du) :=
  let ⟨_, p, s⟩ := h; let ⟨_, p', s'⟩ := h'; ⟨_, fun c => pw_and (p c) (p' c), s.and s'⟩
theorem dwe_or {rest : List Expr} (h : DTE K X a dt) (h' : DWE K X (.BoolOp .Or (b :: rest) pos) du) : DWE K X (.BoolOp .Or (a :: b :: rest) pos) (eOr dt du) :=
  let ⟨_, p, s⟩ := h; let ⟨_, p', s'⟩ := h'; ⟨_, fun c => pw_or (p c) (p' c), s.or s'⟩
theorem DWE.t (h : DWE K X e dt) : DTE K X e dt := let ⟨_, p, s⟩ := h; ⟨_, fun c => (p c).pt, s⟩
theorem dte_not (h : DTE K X a dt) : DTE K X (.UnaryOp .Not a pos) (eNot dt) := by
  obtain ⟨tt, p, s⟩ := h
  refine ⟨_, fun c => pt_not (p c), ?_⟩
  intro c F ρ σ H P Q R hd k
  refine s c F ρ σ H _ _ R hd ?_
  intro b F1 ρ1 H1 p1 e1 R1
  exact k (!b) F1 ρ1 H1 p1 e1 R1
def eAndV (da db : EPr) : EPr := fun ρ P => da ρ fun x ρ1 => ∃ b, x = .bool b ∧ if b = true then db ρ1 P else P (.bool false) ρ1
def eOrV (da db : EPr) : EPr := fun ρ P => da ρ fun x ρ1 => ∃ b, x = .bool b ∧ if b = true then P (.bool true) ρ1 else db ρ1 P
theorem de_one {op} (h : DE K X a da) : DE K X (.BoolOp op [a] pos) da := let ⟨_, p, s⟩ := h; ⟨_, fun c => pe_one (p c), s⟩
theorem de_and {rest : List Expr} (h : DE K X a da) (h' : DE K X (.BoolOp .And (b :: rest) pos) db) : DE K X (.BoolOp .And (a :: b :: rest) pos) (eAndV da db) := by
  obtain ⟨ta, p, s⟩ := h
  obtain ⟨tb, p', s'⟩ := h'
  refine ⟨_, fun c => pe_and (p c) (p' c), ?_⟩
  intro c F ρ σ H P Q R hd k
  refine s c F ρ σ H _ _ R hd ?_
  intro v d F1 ρ1 H1 p1 r1 e1 R1
  obtain ⟨z, rfl, p1⟩ := p1
  have e := r1.bool_inv
  subst e
  refine ⟨z, rfl, ?_⟩
  cases z with
  | false => exact k _ _ F1 ρ1 H1 p1 (.bl false) e1 R1
  | true =>
    refine s' c F1 ρ1 σ H1 P Q R1 p1 ?_
    intro v d F2 ρ2 H2 p2 r2 e2 R2
    exact k v d F2 ρ2 H2 p2 r2 (e1.trans e2) R2
theorem de_or {rest : List Expr} (h : DE K X a da) (h' : DE K X (.BoolOp .Or (b :: rest) pos) db) : DE K X (.BoolOp .Or (a :: b :: rest) pos) (eOrV da db) := by
  obtain ⟨ta, p, s⟩ := h
  obtain ⟨tb, p', s'⟩ := h'
  refine ⟨_, fun c => pe_or (p c) (p' c), ?_⟩
  intro c F ρ σ H P Q R hd k
  refine s c F ρ σ H _ _ R hd ?_
  intro v d F1 ρ1 H1 p1 r1 e1 R1
  obtain ⟨z, rfl, p1⟩ := p1
  have e := r1.bool_inv
  subst e
  refine ⟨z, rfl, ?_⟩
  cases z with
  | true => exact k _ _ F1 ρ1 H1 p1 (.bl true) e1 R1
  | false =>
    refine s' c F1 ρ1 σ H1 P Q R1 p1 ?_
    intro v d F2 ρ2 H2 p2 r2 e2 R2
    exact k v d F2 ρ2 H2 p2 r2 (e1.trans e2) R2
def eIf (dt : ETr) (da db : EPr) : EPr := fun ρ P => dt ρ fun b ρ1 => if b = true then da ρ1 P else db ρ1 P
theorem de_if (hc : DTE K X c dt) (ha : DE K X a da) (hb : DE K X b db) : DE K X (.IfExp c a b pos) (eIf dt da db) := by
  obtain ⟨tc, pc, sc⟩ := hc
  obtain ⟨ta, pa, sa⟩ := ha
  obtain ⟨tb, pb, sb⟩ := hb
  refine ⟨_, fun c => pe_ifExp (pc c) (pa c) (pb c), ?_⟩
  intro c F ρ σ H P Q R hd k
  refine sc c F ρ σ H _ _ R hd ?_
  intro z F1 ρ1 H1 p1 e1 R1
  cases z with
  | true =>
    refine sa c F1 ρ1 σ H1 P Q R1 p1 ?_
    intro v d F2 ρ2 H2 p2 r2 e2 R2
    exact k v d F2 ρ2 H2 p2 r2 (e1.trans e2) R2
  | false =>
    refine sb c F1 ρ1 σ H1 P Q R1 p1 ?_
    intro v d F2 ρ2 H2 p2 r2 e2 R2
    exact k v d F2 ρ2 H2 p2 r2 (e1.trans e2) R2
def eNil : EAr := fun ρ P => P [] ρ
def eCons (da : EPr) (dr : EAr) : EAr := fun ρ P => da ρ fun x ρ1 => dr ρ1 fun xs ρ2 => P (x :: xs) ρ2
theorem dae_nil : DAE K X [] eNil := ⟨_, fun _ => pa_nil, fun c F ρ σ H P Q R hd k => k [] [] F ρ H hd .nil (Ex.refl F) R⟩
theorem dae_cons (h : DE K X a da) (h' : DAE K X es dr)
    (hs : ∀ c, starEach (a :: es) (X c).env = (false, eval a (X c).env) :: starEach es (X c).env := by intro _; rfl) : DAE K X (a :: es) (eCons da dr) := by
  obtain ⟨ta, p, s⟩ := h
  obtain ⟨tr, p', s'⟩ := h'
  refine ⟨_, fun c => pa_cons (p c) (p' c) (hs c), ?_⟩
  intro c F ρ σ H P Q R hd k
  refine s c F ρ σ H _ _ R hd ?_
  intro v d F1 ρ1 H1 p1 r1 e1 R1
  refine s' c F1 ρ1 σ H1 _ _ R1 p1 ?_
  intro vs ds F2 ρ2 H2 p2 r2 e2 R2
  exact k (v :: vs) (d :: ds) F2 ρ2 H2 p2 (.cons (r1.mono e2) r2) (e1.trans e2) R2
def eTup (dr : EAr) : EPr := fun ρ P => dr ρ fun ds ρ1 => ds.length ≤ 100000 ∧ P (.tuple ds) ρ1
theorem de_tup {x1} (h : DAE K X es dr) : DE K X (.Tuple es x1 pos) (eTup dr) := by
  obtain ⟨ta, p, s⟩ := h
  refine ⟨_, fun c => pe_tup (p c), ?_⟩
  intro c F ρ σ H P Q R hd k
  refine s c F ρ σ H _ _ R hd ?_
  intro vs ds F1 ρ1 H1 p1 r1 e1 R1
  refine ⟨by rw [r1.length]; exact sz_of p1.1, ?_⟩
  intro q hq
  have st := Step.new (o := .tup vs) R1.p.fh hq
  exact k _ _ _ ρ1 _ p1.2 (.tup (st_of upd_same) (r1.mono st.ff)) (e1.trans st.ff) (R1.step st)
/-- a display as data -/
def eLst (dr : EAr) : EPr := fun ρ P => dr ρ fun ds ρ1 => ds.length ≤ 100000 ∧ P (.list ds) ρ1
theorem de_lst (h : DAE K X es dr) : DE K X (.List es pos) (eLst dr) := by
  obtain ⟨ta, p, s⟩ := h
  refine ⟨_, fun c => pe_lst (p c), ?_⟩
  intro c F ρ σ H P Q R hd k
  refine s c F ρ σ H _ _ R hd ?_
  intro vs ds F1 ρ1 H1 p1 r1 e1 R1
  refine ⟨by rw [r1.length]; exact sz_of p1.1, ?_⟩
  intro q hq
  have st := Step.new (o := .lst vs) R1.p.fh hq
  exact k _ _ _ ρ1 _ p1.2 (.lst (Or.inl (Or.inl upd_same)) (r1.mono st.ff)) (e1.trans st.ff) (R1.step st)
def eCall (g : List D → (D → Prop) → Prop) (dr : EAr) : EPr := fun ρ P => dr ρ fun ds ρ1 => g ds fun d => P d ρ1
theorem de_call {r : List V → Hp → VK → Prop} {g : List D → (D → Prop) → Prop} (ha : DAE K X es dr) (hd : CallD K r g) (pe : ∀ c {ta : TA}, PA (X c) es ta → PE (X c) e (tCB r ta)) : DE K X e (eCall g dr) := by
  obtain ⟨ta, pa, sa⟩ := ha
  refine ⟨_, fun c => pe c (pa c), ?_⟩
  intro c F ρ σ H P Q R h k
  refine sa c F ρ σ H _ _ R h ?_
  intro vs ds F1 ρ1 H1 p1 r1 e1 R1
  refine hd F1 H1 vs ds _ Q R1.p.fh r1 p1 ?_
  intro v d F2 H2 p2 r2 s2
  exact k v d F2 ρ1 H2 p2 r2 (e1.trans s2.ff) (R1.step s2)
/-! ### promises of defs over data -/
/-- a def that changes nothing: from its arguments' data to what it hands back -/
def spP (K : PySem.W.Frag) (dp : List D → (D → Prop) → Prop) : Sp := fun vs H Q _ => ∃ F ds P, Ex F H ∧ Reps K F vs ds ∧ dp ds P ∧
  ∀ v d F' H', P d → Rep K F' v d → Step F H F' H' → Q v H'
/-- a def whose first argument is a list that it changes -/
def spC (K : PySem.W.Frag) (dc : List D → List D → (D → List D → Prop) → Prop) : Sp := fun vs H Q _ => ∃ F p xs cs us ds P, vs = .ref p :: us ∧ H p = some (.lst xs) ∧ F p = none ∧ Ex F H ∧
  Reps K F xs cs ∧ Reps K F us ds ∧ dc cs ds P ∧
  ∀ v d F' H' xs' cs', P d cs' → Rep K F' v d → Ex F F' → Ex F' H' → (∀ a o, a ≠ p → H a = some o → H' a = some o) → (∀ a, F a = none → H a ≠ none → F' a = none) →
    H' p = some (.lst xs') → Reps K F' xs' cs' → Q v H'
theorem spP_d {dp : List D → (D → Prop) → Prop} {E : XK} : CallD K (fun vs H Q => spP K dp vs H Q E) dp := fun F H vs ds P Q e r h k => ⟨F, ds, P, e, r, h, k⟩
open G in
theorem dp_fn {dp : List D → (D → Prop) → Prop} {dr : DAr} {E : XK} (ha : DA K X es dr)
    (pe : ∀ c {ta : TA}, PA (X c) es ta → PE (X c) e (G.tCallG (spP K dp) E ta)) : DP K X e (dCall dp dr) := by
  obtain ⟨ta, pa, sa⟩ := ha
  exact ⟨_, fun c => pe c (pa c), SimA.call (r := fun vs H Q => spP K dp vs H Q E) sa spP_d fun σ H Q h => h⟩
theorem de_fn {dp : List D → (D → Prop) → Prop} {E : XK} (ha : DAE K X es dr)
    (pe : ∀ c {ta : TA}, PA (X c) es ta → PE (X c) e (G.tCallG (spP K dp) E ta)) : DE K X e (eCall dp dr) := by
  obtain ⟨ta, pa, sa⟩ := ha
  refine ⟨_, fun c => pe c (pa c), ?_⟩
  intro c F ρ σ H P Q R h k
  refine sa c F ρ σ H _ _ R h ?_
  intro vs ds F1 ρ1 H1 p1 r1 e1 R1
  refine ⟨F1, ds, _, R1.p.fh, r1, p1, ?_⟩
  intro v d F2 H2 p2 r2 s2
  exact k v d F2 ρ1 H2 p2 r2 (e1.trans s2.ff) (R1.step s2)
/-- a call that changes the list in slot i -/
def ownsAt (ρ : Env) (i : Nat) : Bool := match ρ[i]? with
  | some s => s.owns
  | none => false
theorem ownsAt_addr {c : Cd} {F H : Hp} {ρ : Env} {σ : L2.St} {i : Nat} (R : RelP K c F ρ σ H) (h : ownsAt ρ i = true) : ∃ p, σ[i]? = some (some (.ref p)) := by
  unfold ownsAt at h
  cases q : ρ[i]? with
  | none =>
    rw [q] at h
    cases h
  | some s =>
    rw [q] at h
    have hi : i < σ.length := by
      rw [← R.len]
      exact (List.getElem?_eq_some_iff.mp q).1
    obtain ⟨p, a, _⟩ := (R.ok i s σ[i] q (List.getElem?_eq_getElem hi)).addr h
    exact ⟨p, by rw [List.getElem?_eq_getElem hi, a]⟩
def eCell (i : Nat) (dc : List D → List D → (D → List D → Prop) → Prop) (dr : EAr) : EPr := fun ρ P => ownsAt ρ i = true ∧ dr ρ fun ds ρ1 =>
  (∃ cs, ρ1[i]? = some (.own cs) ∧ dc cs ds fun d cs' => P d (ρ1.set i (.own cs'))) ∨ (∃ cs, ρ1[i]? = some (.cel cs) ∧ dc cs ds fun d cs' => P d (ρ1.set i (.cel cs')))
theorem RelP.turn {c : Cd} {F F' H H' : Hp} {ρ : Env} {σ : L2.St} {i : Nat} {s s' : Slot} {p : Addr} (R : RelP K c F ρ σ H) (e : ρ[i]? = some s) (os : s.owns = true) (os' : s'.owns = true) (hv : σ[i]? = some (some (.ref p)))
    (ff : Ex F F') (fh : Ex F' H') (hh : ∀ a o, a ≠ p → H a = some o → H' a = some o) (nn : ∀ a, F a = none → H a ≠ none → F' a = none) (ok : SlotOk K c F' H' s' (some (.ref p))) : RelP K c F' (ρ.set i s') σ H' := by
  have hi : i < ρ.length := (List.getElem?_eq_some_iff.mp e).1
  refine ⟨fh, by simp [R.len], ?_, ?_⟩
  · intro j t o h1 h2
    by_cases q : i = j
    · subst q
      rw [List.getElem?_set_self hi] at h1
      cases h1
      rw [hv] at h2
      cases h2
      exact ok
    · rw [List.getElem?_set_ne q] at h1
      have k := R.ok j t o h1 h2
      cases t with
      | no => exact k
      | any => trivial
      | dat d =>
        obtain ⟨v, z, r⟩ := k
        exact ⟨v, z, r.mono ff⟩
      | own es =>
        obtain ⟨p', ys, z, f1, b1, h3, r⟩ := k
        subst z
        have np : p' ≠ p := R.mine (Ne.symm q) h1 e rfl os h2 hv
        exact ⟨p', ys, rfl, nn p' f1 (by rw [h3]; exact Option.some_ne_none _), b1, hh p' _ np h3, r.mono ff⟩
      | cel es =>
        obtain ⟨p', ys, z, f1, b1, h3, r⟩ := k
        subst z
        have np : p' ≠ p := R.mine (Ne.symm q) h1 e rfl os h2 hv
        exact ⟨p', ys, rfl, nn p' f1 (by rw [h3]; exact Option.some_ne_none _), b1, hh p' _ np h3, r.mono ff⟩
      | obj u =>
        obtain ⟨p', z, f1, b1, h3⟩ := k
        subst z
        have np : p' ≠ p := R.mine (Ne.symm q) h1 e rfl os h2 hv
        exact ⟨p', rfl, nn p' f1 (by rw [h3]; exact Option.some_ne_none _), b1, hh p' _ np h3⟩
  · intro j k t u p' hjk h1 h2 o1 o2 s1 s2
    have back : ∀ {j : Nat} {t : Slot}, (ρ.set i s')[j]? = some t → t.owns = true → ∃ t', ρ[j]? = some t' ∧ t'.owns = true := by
      intro j t h o
      by_cases q : i = j
      · subst q
        exact ⟨s, e, os⟩
      · rw [List.getElem?_set_ne q] at h
        exact ⟨t, h, o⟩
    obtain ⟨t1, h1, o1⟩ := back h1 o1
    obtain ⟨t2, h2, o2⟩ := back h2 o2
    exact R.ne j k t1 t2 p' hjk h1 h2 o1 o2 s1 s2
theorem de_cell {i : Nat} {dc : List D → List D → (D → List D → Prop) → Prop} {E : XK} {x : Expr} (hx : ∀ c, PE (X c) x (tVar i)) (ha : DAE K X es dr)
    (hs : ∀ c, starEach (x :: es) (X c).env = (false, eval x (X c).env) :: starEach es (X c).env := by intro _; rfl)
    (pe : ∀ c {ta : TA}, PA (X c) (x :: es) ta → PE (X c) e (G.tCallG (spC K dc) E ta)) : DE K X e (eCell i dc dr) := by
  obtain ⟨ta, pa, sa⟩ := ha
  refine ⟨_, fun c => pe c (pa_cons (hx c) (pa c) (hs c)), ?_⟩
  intro c F ρ σ H P Q R h k
  -- the list's own place does not turn while the arguments are reckoned
  have fin : ∀ {vs : List V} {ds : List D} {F1 H1 : Hp} {ρ1 : Env} {p : Addr}, σ[i]? = some (some (.ref p)) → Reps K F1 vs ds → Ex F F1 → Rel K c F1 ρ1 σ H1 →
      ((∃ cs, ρ1[i]? = some (.own cs) ∧ dc cs ds fun d cs' => P d (ρ1.set i (.own cs'))) ∨ (∃ cs, ρ1[i]? = some (.cel cs) ∧ dc cs ds fun d cs' => P d (ρ1.set i (.cel cs')))) → spC K dc (.ref p :: vs) H1 Q E := by
    intro vs ds F1 H1 ρ1 p hv r1 e1 R1 p1
    rcases p1 with ⟨cs, ho, hd⟩ | ⟨cs, ho, hd⟩
    · obtain ⟨p', xs, hv', f0, b0, hl, rs⟩ := R1.p.ownv ho
      have ep : p' = p := by
        rw [hv] at hv'
        cases hv'
        rfl
      subst ep
      refine ⟨F1, p', xs, cs, vs, ds, _, rfl, hl, f0, R1.p.fh, rs, r1, hd, ?_⟩
      intro v d F' H' xs' cs' pd rd ff fh hh nn hl' rs'
      refine k v d F' (ρ1.set i (.own cs')) H' pd rd (e1.trans ff) ⟨R1.p.turn ho rfl rfl hv ff fh hh nn ?_, ?_, R1.f0.trans ff, ?_, ?_⟩
      · exact ⟨p', xs', rfl, nn p' f0 (by rw [hl]; exact Option.some_ne_none _), b0, hl', rs'⟩
      · intro a o q z
        refine hh a o ?_ (R1.b a o q z)
        intro y
        subst y
        rw [b0] at z
        cases z
      · intro a h1 h2
        exact nn a (R1.z a h1 h2) (R1.hz h1)
      · intro a h1
        by_cases y : a = p'
        · subst y
          rw [hl']
          exact Option.some_ne_none _
        · have q := R1.cl a h1
          cases z : H1 a with
          | none => exact absurd z q
          | some o =>
            rw [hh a o y z]
            exact Option.some_ne_none _
    · obtain ⟨p', xs, hv', f0, b0, hl, rs⟩ := R1.p.celv ho
      have ep : p' = p := by
        rw [hv] at hv'
        cases hv'
        rfl
      subst ep
      refine ⟨F1, p', xs, cs, vs, ds, _, rfl, hl, f0, R1.p.fh, rs, r1, hd, ?_⟩
      intro v d F' H' xs' cs' pd rd ff fh hh nn hl' rs'
      refine k v d F' (ρ1.set i (.cel cs')) H' pd rd (e1.trans ff) ⟨R1.p.turn ho rfl rfl hv ff fh hh nn ?_, ?_, R1.f0.trans ff, ?_, ?_⟩
      · exact ⟨p', xs', rfl, nn p' f0 (by rw [hl]; exact Option.some_ne_none _), b0, hl', rs'⟩
      · intro a o q z
        refine hh a o ?_ (R1.b a o q z)
        intro y
        subst y
        exact q b0
      · intro a h1 h2
        exact nn a (R1.z a h1 h2) (R1.hz h1)
      · intro a h1
        by_cases y : a = p'
        · subst y
          rw [hl']
          exact Option.some_ne_none _
        · have q := R1.cl a h1
          cases z : H1 a with
          | none => exact absurd z q
          | some o =>
            rw [hh a o y z]
            exact Option.some_ne_none _
  obtain ⟨hs0, h⟩ := h
  obtain ⟨p, hv⟩ := ownsAt_addr R.p hs0
  refine ⟨_, hv, ?_⟩
  refine sa c F ρ σ H _ _ R h ?_
  intro vs ds F1 ρ1 H1 p1 r1 e1 R1
  exact fin hv r1 e1 R1 p1
end
end Dl

set_option Elab.async false
set_option linter.all false
set_option maxRecDepth 100000
set_option maxHeartbeats 4000000
namespace Dl
open PySem PySem.Spec PyProof.Rows L2 Evl
/-! ### statements -/
structure DEnds where
  nx : Env → Prop
  rt : D → Env → Prop
  bk : Env → Prop := fun _ => False
  ct : Env → Prop := fun _ => False
  /-- a new list that nobody else holds is handed back -/
  rn : List D → Env → Prop := fun _ _ => False
abbrev DSr := DEnds → Env → Prop
/-- what the heap-level ends hold of the data-level ones, from F on -/
structure EndsOk (K : PySem.W.Frag) (c : Cd) (F : Hp) (M : DEnds) (E : Ends) : Prop where
  nx : ∀ F' ρ σ H, M.nx ρ → Ex F F' → Rel K c F' ρ σ H → E.nx σ H
  bk : ∀ F' ρ σ H, M.bk ρ → Ex F F' → Rel K c F' ρ σ H → E.bk σ H
  ct : ∀ F' ρ σ H, M.ct ρ → Ex F F' → Rel K c F' ρ σ H → E.ct σ H
  rt : ∀ v d F' ρ σ H, M.rt d ρ → Rep K F' v d → Ex F F' → Rel K c F' ρ σ H → E.rt v H
  rn : ∀ p vs xs F' ρ σ H, M.rn xs ρ → F' p = none → c.B p = none → H p = some (.lst vs) → Reps K F' vs xs → Ex F F' → Rel K c F' ρ σ H → E.rt (.ref p) H
theorem EndsOk.mono {K : PySem.W.Frag} {c : Cd} {F F' : Hp} {M : DEnds} {E : Ends} (h : EndsOk K c F M E) (e : Ex F F') : EndsOk K c F' M E :=
  ⟨fun G ρ σ H a b r => h.nx G ρ σ H a (e.trans b) r, fun G ρ σ H a b r => h.bk G ρ σ H a (e.trans b) r, fun G ρ σ H a b r => h.ct G ρ σ H a (e.trans b) r, fun v d G ρ σ H a q b r => h.rt v d G ρ σ H a q (e.trans b) r, fun p vs xs G ρ σ H a q1 q2 q3 q4 b r => h.rn p vs xs G ρ σ H a q1 q2 q3 q4 (e.trans b) r⟩
def SimS (K : PySem.W.Frag) (ts : TS) (ds : DSr) : Prop :=
  ∀ (c : Cd) (F : Hp) (ρ : Env) (σ : L2.St) (H : Hp) (M : DEnds) (E : Ends), Rel K c F ρ σ H → ds M ρ → EndsOk K c F M E → ts E σ H
def DS {ι : Type} (K : PySem.W.Frag) (X : ι → Cx) (st : Stmt) (ds : DSr) : Prop := ∃ ts, (∀ c, PS (X c) st ts) ∧ SimS K ts ds
def DSs {ι : Type} (K : PySem.W.Frag) (X : ι → Cx) (sts : List Stmt) (ds : DSr) : Prop := ∃ ts, (∀ c, PSs (X c) sts ts) ∧ SimS K ts ds
section
variable {ι : Type} {K : PySem.W.Frag} {X : ι → Cx} {e a b c : Expr} {pos : Pos} {es : List Expr} {da db dc : EPr} {dt du : ETr} {dr : EAr} {st : Stmt} {sts body els : List Stmt} {ds ds' dbody : DSr}
def sNext : DSr := fun M ρ => M.nx ρ
def sSeq (s t : DSr) : DSr := fun M ρ => s { M with nx := t M } ρ
theorem ds_nil : DSs K X [] sNext := ⟨_, fun _ => pss_nil, fun c F ρ σ H M E R h k => k.nx F ρ σ H h (Ex.refl F) R⟩
theorem ds_cons (h : DS K X st ds) (h' : DSs K X sts ds') : DSs K X (st :: sts) (sSeq ds ds') := by
  obtain ⟨t, p, s⟩ := h
  obtain ⟨t', p', s'⟩ := h'
  refine ⟨_, fun c => pss_cons (p c) (p' c), ?_⟩
  intro c F ρ σ H M E R hd k
  refine s c F ρ σ H _ _ R hd ⟨?_, k.bk, k.ct, k.rt, k.rn⟩
  intro F' ρ' σ' H' m e R'
  exact s' c F' ρ' σ' H' M E R' m (k.mono e)
theorem ds_one (h : DS K X st ds) : DSs K X [st] ds := let ⟨_, p, s⟩ := h; ⟨_, fun c => pss_one (p c), s⟩
/-- a statement, then the rest, with a word between them -/
def sCut (s t : DSr) : DSr := fun M ρ => ∃ Mid : Env → Prop, s { M with nx := Mid } ρ ∧ ∀ ρ', Mid ρ' → t M ρ'
theorem sCut_seq {s t : DSr} {M : DEnds} {ρ : Env} (mono : ∀ {M1 M2 : DEnds} {ρ}, (∀ ρ, M1.nx ρ → M2.nx ρ) → M1.rt = M2.rt → M1.bk = M2.bk → M1.ct = M2.ct → s M1 ρ → s M2 ρ) (h : sCut s t M ρ) : sSeq s t M ρ := by
  obtain ⟨Mid, h1, h2⟩ := h
  exact mono (M1 := { M with nx := Mid }) h2 rfl rfl rfl h1
theorem ds_cut (h : DS K X st ds) (h' : DSs K X sts ds') : DSs K X (st :: sts) (sCut ds ds') := by
  obtain ⟨t, p, s⟩ := h
  obtain ⟨t', p', s'⟩ := h'
  refine ⟨_, fun c => pss_cons (p c) (p' c), ?_⟩
  intro c F ρ σ H M E R hd k
  obtain ⟨Mid, hd, hk⟩ := hd
  refine s c F ρ σ H _ _ R hd ⟨?_, k.bk, k.ct, k.rt, k.rn⟩
  intro F' ρ' σ' H' m e R'
  exact s' c F' ρ' σ' H' M E R' (hk ρ' m) (k.mono e)
theorem ds_pass : DS K X (.Pass pos) sNext := ⟨_, fun _ => ps_pass, fun c F ρ σ H M E R h k => k.nx F ρ σ H h (Ex.refl F) R⟩
theorem ds_doc {x j pos'} : DS K X (.Expr (.Constant (.str x) j pos) pos') sNext := ⟨_, fun _ => ps_doc, fun c F ρ σ H M E R h k => k.nx F ρ σ H h (Ex.refl F) R⟩
def sBreak : DSr := fun M ρ => M.bk ρ
def sCont : DSr := fun M ρ => M.ct ρ
theorem ds_break : DS K X (.Break pos) sBreak := ⟨_, fun _ => ps_break, fun c F ρ σ H M E R h k => k.bk F ρ σ H h (Ex.refl F) R⟩
theorem ds_cont : DS K X (.Continue pos) sCont := ⟨_, fun _ => ps_continue, fun c F ρ σ H M E R h k => k.ct F ρ σ H h (Ex.refl F) R⟩
def sNever : DSr := fun _ _ => False
theorem ds_never : DS K X st sNever := ⟨_, fun _ => ps_never, fun c F ρ σ H M E R h k => h.elim⟩
def sDrop (de : EPr) : DSr := fun M ρ => de ρ fun _ ρ' => M.nx ρ'
theorem ds_expr (h : DE K X e da) (hs : ∀ c, swapsWith e none pos.line (X c).env = pure false := by intro _; rfl) : DS K X (.Expr e pos) (sDrop da) := by
  obtain ⟨te, p, s⟩ := h
  refine ⟨_, fun c => ps_expr (p c) (hs c), ?_⟩
  intro c F ρ σ H M E R hd k
  refine s c F ρ σ H _ _ R hd ?_
  intro v d F' ρ' H' m r e R'
  exact k.nx F' ρ' σ H' m e R'
def sRet (de : EPr) : DSr := fun M ρ => de ρ fun d ρ' => M.rt d ρ'
theorem ds_ret (h : DE K X e da) : DS K X (.Return (some e) pos) (sRet da) := by
  obtain ⟨te, p, s⟩ := h
  refine ⟨_, fun c => ps_ret (p c), ?_⟩
  intro c F ρ σ H M E R hd k
  refine s c F ρ σ H _ _ R hd ?_
  intro v d F' ρ' H' m r e R'
  exact k.rt v d F' ρ' σ H' m r e R'
def sRetL (dn : DAr) : DSr := fun M ρ => dn ρ fun xs => M.rn xs ρ
theorem ds_retL {dn : DAr} (h : DN K X e dn) : DS K X (.Return (some e) pos) (sRetL dn) := by
  obtain ⟨te, p, s⟩ := h
  refine ⟨_, fun c => ps_ret (p c), ?_⟩
  intro c F ρ σ H M E R hd k
  refine s c F ρ σ H _ _ R.p hd ?_
  intro q vs xs F' H' m h0 f0 hl rs st
  exact k.rn q vs xs F' ρ σ H' m f0 (R.freshB h0) hl rs st.ff (R.step st)
def sRetO (i : Nat) : DSr := fun M ρ => ∃ xs, ρ[i]? = some (.own xs) ∧ M.rn xs ρ
theorem ds_retO {i : Nat} (h : ∀ c, PE (X c) e (tVar i)) : DS K X (.Return (some e) pos) (sRetO i) := by
  refine ⟨_, fun c => ps_ret (h c), ?_⟩
  intro c F ρ σ H M E R hd k
  obtain ⟨xs, ho, m⟩ := hd
  obtain ⟨p, vs, hv, f0, b0, hl, rs⟩ := R.p.ownv ho
  exact ⟨_, hv, k.rn p vs xs F ρ σ H m f0 b0 hl rs (Ex.refl F) R⟩
def sRetN : DSr := fun M ρ => M.rt .none ρ
theorem ds_retN : DS K X (.Return none pos) sRetN := ⟨_, fun _ => ps_retN, fun c F ρ σ H M E R h k => k.rt .non .none F ρ σ H h .non (Ex.refl F) R⟩
def sIf (dt : ETr) (s t : DSr) : DSr := fun M ρ => dt ρ fun b ρ' => if b = true then s M ρ' else t M ρ'
theorem ds_if (hc : DTE K X c dt) (ha : DSs K X body ds) (hb : DSs K X els ds') : DS K X (.If c body els pos) (sIf dt ds ds') := by
  obtain ⟨tc, pc, sc⟩ := hc
  obtain ⟨ta, pa, sa⟩ := ha
  obtain ⟨tb, pb, sb⟩ := hb
  refine ⟨_, fun c => ps_if (pc c) (pa c) (pb c), ?_⟩
  intro c F ρ σ H M E R hd k
  refine sc c F ρ σ H _ _ R hd ?_
  intro b F' ρ' H' m e R'
  cases b with
  | true => exact sa c F' ρ' σ H' M E R' m (k.mono e)
  | false => exact sb c F' ρ' σ H' M E R' m (k.mono e)
/-- x = e -/
def sSet (g : DGr) (de : EPr) : DSr := fun M ρ => de ρ fun d ρ' => g d ρ' M.nx
theorem ds_asg {tg : Expr} {g : DGr} {sl : List Nat} (h : DE K X e da) (hg : DG K X tg g sl) (ps : ∀ c {te : TE} {t : TG}, PE (X c) e te → PG (X c) tg t → PS (X c) (.Assign [tg] e pos) (tAsg te t)) : DS K X (.Assign [tg] e pos) (sSet g da) := by
  obtain ⟨te, p, s⟩ := h
  obtain ⟨t, p', s'⟩ := hg
  refine ⟨_, fun c => ps c (p c) (p' c), ?_⟩
  intro c F ρ σ H M E R hd k
  refine s c F ρ σ H _ _ R hd ?_
  intro v d F' ρ' H' m r e R'
  refine s' c F' ρ' σ H' v d _ _ R'.p r m ?_
  intro ρ2 σ2 m2 R2 _
  exact k.nx F' ρ2 σ2 H' m2 e ⟨R2, R'.b, R'.f0, R'.z, R'.cl⟩
/-- x = a new list that x alone holds -/
def sOwn (i : Nat) (dn : DAr) : DSr := fun M ρ => dn ρ fun xs => M.nx (ρ.set i (.own xs))
theorem ds_own {x : Str} {i : Nat} {p' : Pos} {dn : DAr} (h : DN K X e dn) (ps : ∀ c {te : TE}, PE (X c) e te → PS (X c) (.Assign [.Name x p'] e pos) (tAsg te (gName i))) : DS K X (.Assign [.Name x p'] e pos) (sOwn i dn) := by
  obtain ⟨te, p, s⟩ := h
  refine ⟨_, fun c => ps c (p c), ?_⟩
  intro c F ρ σ H M E R hd k
  refine s c F ρ σ H _ _ R.p hd ?_
  intro q vs xs F' H' m h0 f0 hl rs st
  have R1 := R.step st
  refine k.nx F' _ _ H' m st.ff ⟨R1.p.take rfl ⟨q, vs, rfl, f0, R.freshB h0, hl, rs⟩ ?_, R1.b, R1.f0, R1.z, R1.cl⟩
  intro j t _ e1 o1 z
  obtain ⟨q', a, _, d⟩ := (R.p.ok j t _ e1 z).addr o1
  cases a
  exact d h0
def sWhile (dt : ETr) (s : DSr) : DSr := fun M ρ => ∃ I : Nat → Env → Prop, (∃ m, I m ρ) ∧ ∀ m ρ1, I m ρ1 → dt ρ1 fun b ρ2 =>
  if b = true then s { M with nx := fun ρ3 => ∃ m', m' < m ∧ I m' ρ3, ct := fun ρ3 => ∃ m', m' < m ∧ I m' ρ3, bk := M.nx } ρ2 else M.nx ρ2
theorem ds_while (hc : DTE K X c dt) (hb : DSs K X body ds) (hp : ∀ c, PassesOwn (model (X c).prog (X c).w) (X c).A (X c).env (X c).xe) : DS K X (.While c body [] pos) (sWhile dt ds) := by
  obtain ⟨tc, pc, sc⟩ := hc
  obtain ⟨tb, pb, sb⟩ := hb
  refine ⟨_, fun c => ps_while (hp c) (pc c) (pb c), ?_⟩
  intro c F ρ σ H M E R hd k
  obtain ⟨I, ⟨m0, i0⟩, turn⟩ := hd
  refine ⟨fun m σ' H' => ∃ F' ρ', I m ρ' ∧ Ex F F' ∧ Rel K c F' ρ' σ' H', ⟨m0, F, ρ, i0, Ex.refl F, R⟩, ?_⟩
  rintro m σ1 H1 ⟨F1, ρ1, i1, e1, R1⟩
  refine sc c F1 ρ1 σ1 H1 _ _ R1 (turn m ρ1 i1) ?_
  intro b F2 ρ2 H2 m2 e2 R2
  cases b with
  | false => exact k.nx F2 ρ2 σ1 H2 m2 (e1.trans e2) R2
  | true =>
    refine ⟨fun σ' H' => ∃ m', m' < m ∧ ∃ F' ρ', I m' ρ' ∧ Ex F F' ∧ Rel K c F' ρ' σ' H', fun σ' H' z => z, ?_⟩
    refine sb c F2 ρ2 σ1 H2 _ _ R2 m2 ⟨?_, ?_, ?_, ?_, ?_⟩
    · rintro F3 ρ3 σ3 H3 ⟨m', hm, i3⟩ e3 R3
      exact ⟨m', hm, F3, ρ3, i3, (e1.trans e2).trans e3, R3⟩
    · intro F3 ρ3 σ3 H3 m3 e3 R3
      exact k.nx F3 ρ3 σ3 H3 m3 ((e1.trans e2).trans e3) R3
    · rintro F3 ρ3 σ3 H3 ⟨m', hm, i3⟩ e3 R3
      exact ⟨m', hm, F3, ρ3, i3, (e1.trans e2).trans e3, R3⟩
    · intro v d F3 ρ3 σ3 H3 m3 r3 e3 R3
      exact k.rt v d F3 ρ3 σ3 H3 m3 r3 ((e1.trans e2).trans e3) R3
    · intro p vs xs F3 ρ3 σ3 H3 m3 q1 q2 q3 q4 e3 R3
      exact k.rn p vs xs F3 ρ3 σ3 H3 m3 q1 q2 q3 q4 ((e1.trans e2).trans e3) R3
/-- for target in iter: body -/
def sFor (di : DIr) (g : DGr) (s : DSr) : DSr := fun M ρ => di ρ fun xs => ∃ I : Nat → Env → Prop, I 0 ρ ∧
  (∀ i d ρ1, xs[i]? = some d → I i ρ1 → g d ρ1 fun ρ2 => s { M with nx := I (i + 1), ct := I (i + 1), bk := M.nx } ρ2) ∧ ∀ ρ1, I xs.length ρ1 → M.nx ρ1
theorem ds_for {tg iter : Expr} {di : DIr} {g : DGr} {sl : List Nat} (hi : DI K X tg iter di) (hg : DG K X tg g sl) (hb : DSs K X body ds) (hp : ∀ c, PassesOwn (model (X c).prog (X c).w) (X c).A (X c).env (X c).xe)
    (hc : ∀ c, (X c).calm = true := by intro _; rfl) (hs : ∀ c x, foldedSetIterable iter (X c).env x = pure x := by intro _ _; rfl) : DS K X (.For tg iter body [] pos) (sFor di g ds) := by
  obtain ⟨wi, pi, si⟩ := hi
  obtain ⟨t, pg, sg⟩ := hg
  obtain ⟨tb, pb, sb⟩ := hb
  refine ⟨_, fun c => ps_for (hp c) (hc c) (pi c) (pg c) (pb c) (hs c), ?_⟩
  intro c F ρ σ H M E R hd k
  refine si c F ρ σ H _ _ R.p hd ?_
  intro xs J F1 H1 m1 s1 its
  obtain ⟨I, i0, turn, fin⟩ := m1
  have R1 := R.step s1
  refine ⟨fun i m σ' H' => m = xs.length - i ∧ i ≤ xs.length ∧ ∃ F' ρ', I i ρ' ∧ Ex F1 F' ∧ Rel K c F' ρ' σ' H', ⟨xs.length, by simp, Nat.zero_le _, F1, ρ, i0, Ex.refl F1, R1⟩, ?_⟩
  rintro i m σ2 H2 ⟨rfl, hi, F2, ρ2, i2, e2, R2⟩
  by_cases hlt : i < xs.length
  · right
    have hget : xs[i]? = some xs[i] := List.getElem?_eq_getElem hlt
    obtain ⟨hgo, hy⟩ := (its F2 H2 i e2 R2.p.fh).1 _ hget
    refine ⟨hgo, fun σ' H' => ∃ F' ρ', I (i + 1) ρ' ∧ Ex F1 F' ∧ Rel K c F' ρ' σ' H', ?_, ?_⟩
    · rintro σ' H' ⟨F', ρ', h1, h2, h3⟩
      exact ⟨xs.length - (i + 1), by omega, rfl, hlt, F', ρ', h1, h2, h3⟩
    · intro x H3 y3
      obtain ⟨F3, s3, r3⟩ := hy x H3 y3
      have R3 := R2.step s3
      refine sg c F3 ρ2 σ2 H3 x xs[i] _ _ R3.p r3 (turn i _ ρ2 hget i2) ?_
      intro ρ4 σ4 m4 R4 _
      have e14 : Ex F1 F3 := e2.trans s3.ff
      refine sb c F3 ρ4 σ4 H3 _ _ ⟨R4, R3.b, R3.f0, R3.z, R3.cl⟩ m4 ⟨?_, ?_, ?_, ?_, ?_⟩
      · intro F5 ρ5 σ5 H5 m5 e5 R5
        exact ⟨F5, ρ5, m5, e14.trans e5, R5⟩
      · intro F5 ρ5 σ5 H5 m5 e5 R5
        exact k.nx F5 ρ5 σ5 H5 m5 ((s1.ff.trans e14).trans e5) R5
      · intro F5 ρ5 σ5 H5 m5 e5 R5
        exact ⟨F5, ρ5, m5, e14.trans e5, R5⟩
      · intro v d F5 ρ5 σ5 H5 m5 r5 e5 R5
        exact k.rt v d F5 ρ5 σ5 H5 m5 r5 ((s1.ff.trans e14).trans e5) R5
      · intro p vs xs F5 ρ5 σ5 H5 m5 q1 q2 q3 q4 e5 R5
        exact k.rn p vs xs F5 ρ5 σ5 H5 m5 q1 q2 q3 q4 ((s1.ff.trans e14).trans e5) R5
  · left
    have ei : i = xs.length := by omega
    subst ei
    exact ⟨(its F2 H2 _ e2 R2.p.fh).2 (Nat.le_refl _), k.nx F2 ρ2 σ2 H2 (fin ρ2 i2) (s1.ff.trans e2) R2⟩
/-- x += e of ints -/
def sAug (f : Int → Int → Int) (i : Nat) (de : EPr) : DSr := fun M ρ => ∃ a, ρ[i]? = some (.dat (.int a)) ∧ de ρ fun y ρ' => ∃ b, y = .int b ∧ M.nx (ρ'.set i (.dat (.int (f a b))))
theorem ds_aug {i : Nat} {f : Int → Int → Int} (h : DE K X e da) (ps : ∀ c {te : TE}, PE (X c) e te → PS (X c) st (tAug i te (ipI f))) : DS K X st (sAug f i da) := by
  obtain ⟨te, p, s⟩ := h
  refine ⟨_, fun c => ps c (p c), ?_⟩
  intro c F ρ σ H M E R hd k
  obtain ⟨a, ha, hd⟩ := hd
  obtain ⟨v, hv, rv⟩ := R.p.var ha
  have ev := rv.int_inv
  subst ev
  refine ⟨_, hv, ?_⟩
  refine s c F ρ σ H _ _ R hd ?_
  intro v d F' ρ' H' m r e R'
  obtain ⟨b, rfl, m⟩ := m
  exact ⟨a, b, rfl, r.int_inv, k.nx F' _ _ H' m e (R'.dat (.int _))⟩
/-! #### the list that a slot holds is changed -/
def lstAt (ρ : Env) (i : Nat) : Option (List D) := match ρ[i]? with
  | some (.own xs) => some xs
  | some (.cel xs) => some xs
  | _ => none
def putLst (ρ : Env) (i : Nat) (xs : List D) : Env := match ρ[i]? with
  | some (.own _) => ρ.set i (.own xs)
  | some (.cel _) => ρ.set i (.cel xs)
  | _ => ρ
theorem Rel.write {c : Cd} {F H : Hp} {ρ : Env} {σ : L2.St} {i : Nat} {xs : List D} (R : Rel K c F ρ σ H) (h : lstAt ρ i = some xs) : ∃ p vs, σ[i]? = some (some (.ref p)) ∧ H p = some (.lst vs) ∧ Reps K F vs xs ∧ F p = none ∧
    ∀ vs' xs', Reps K F vs' xs' → Rel K c F (putLst ρ i xs') σ (upd H p (.lst vs')) := by
  have gen : ∀ (s s' : Slot) p vs vs', ρ[i]? = some s → σ[i]? = some (some (.ref p)) → H p = some (.lst vs) → F p = none → s.owns = true → s'.owns = true → (c.B p = none ∨ c.cell = some p) → SlotOk K c F (upd H p (.lst vs')) s' (some (.ref p)) →
      Rel K c F (ρ.set i s') σ (upd H p (.lst vs')) := by
    intro s s' p vs vs' e hv hl f0 o1 o2 bc ok
    refine ⟨R.p.turn e o1 o2 hv (Ex.refl F) (upd_lst_step (F' := F) (H' := H) f0 R.p.fh) (fun a o q z => by rw [upd_ne q]; exact z) (fun a z _ => z) ok, ?_, R.f0, R.z, ?_⟩
    · intro a o q z
      have np : a ≠ p := by
        intro y
        subst y
        rcases bc with y | y
        · rw [y] at z
          cases z
        · exact q y
      rw [upd_ne np]
      exact R.b a o q z
    · intro a z
      by_cases y : a = p
      · subst y
        rw [upd_same]
        exact Option.some_ne_none _
      · rw [upd_ne y]
        exact R.cl a z
  unfold lstAt at h
  split at h
  · rename_i ys e
    cases h
    obtain ⟨p, vs, hv, f0, b0, hl, rs⟩ := R.p.ownv e
    refine ⟨p, vs, hv, hl, rs, f0, fun vs' xs' r => ?_⟩
    unfold putLst
    rw [e]
    exact gen _ _ p vs vs' e hv hl f0 rfl rfl (Or.inl b0) ⟨p, vs', rfl, f0, b0, upd_same, r⟩
  · rename_i ys e
    cases h
    obtain ⟨p, vs, hv, f0, b0, hl, rs⟩ := R.p.celv e
    refine ⟨p, vs, hv, hl, rs, f0, fun vs' xs' r => ?_⟩
    unfold putLst
    rw [e]
    exact gen _ _ p vs vs' e hv hl f0 rfl rfl (Or.inr b0) ⟨p, vs', rfl, f0, b0, upd_same, r⟩
  · cases h
theorem listAt_addr {c : Cd} {F H : Hp} {ρ : Env} {σ : L2.St} {i : Nat} (R : RelP K c F ρ σ H) (h : (lstAt ρ i).isSome = true) : ∃ p vs, σ[i]? = some (some (.ref p)) ∧ H p = some (.lst vs) := by
  unfold lstAt at h
  split at h
  · rename_i xs q
    obtain ⟨p, vs, a, _, _, b, _⟩ := R.ownv q
    exact ⟨p, vs, a, b⟩
  · rename_i xs q
    obtain ⟨p, vs, a, _, _, b, _⟩ := R.celv q
    exact ⟨p, vs, a, b⟩
  · cases h
/-- x.append(e) -/
def sApp (i : Nat) (de : EPr) : DSr := fun M ρ => (lstAt ρ i).isSome = true ∧ de ρ fun d ρ' => ∃ xs, lstAt ρ' i = some xs ∧ xs.length < 100000 ∧ M.nx (putLst ρ' i (xs ++ [d]))
theorem ds_app {i : Nat} {x : Expr} (hx : ∀ c, PE (X c) x (tVar i)) (h : DE K X e da) (ps : ∀ c {te : TE}, PE (X c) x (tVar i) → PE (X c) e te → PS (X c) st (tDrop (tBM K "list" rAppend (tVar i) (tCons te tNil)))) : DS K X st (sApp i da) := by
  obtain ⟨te, p, s⟩ := h
  refine ⟨_, fun c => ps c (hx c) (p c), ?_⟩
  intro c F ρ σ H M E R hd k
  obtain ⟨o1, hd⟩ := hd
  obtain ⟨q, vs0, hq, hl0⟩ := listAt_addr R.p o1
  refine ⟨_, hq, Or.inl ⟨rfl, vs0, Or.inl (Or.inl hl0)⟩, ?_⟩
  refine s c F ρ σ H _ _ R hd ?_
  intro v d F' ρ' H' m r e R'
  obtain ⟨xs, hh, hlen, m⟩ := m
  obtain ⟨p', vs, hv, hl, rs, f0, w⟩ := R'.write hh
  have ep : p' = q := by
    rw [hq] at hv
    cases hv
    rfl
  subst ep
  refine ⟨p', vs, v, rfl, rfl, hl, by rw [rs.length]; exact sz_lt hlen, ?_⟩
  exact k.nx F' _ σ _ m e (w _ _ (rs.append (.one r)))
end
end Dl

set_option Elab.async false
set_option linter.all false
set_option maxRecDepth 100000
set_option maxHeartbeats 4000000
namespace Dl
open PySem PySem.Spec PyProof.Rows L2 Evl
/-! ### a, b, .. = x, y, ..: what is reckoned and not yet stored -/
inductive Pend (K : PySem.W.Frag) (H F' H' : Hp) : List V → List Slot → Prop
  | nil : Pend K H F' H' [] []
  | dat {v : V} {d : D} {vs : List V} {ss : List Slot} : Rep K F' v d → Pend K H F' H' vs ss → Pend K H F' H' (v :: vs) (.dat d :: ss)
  | own {p : Addr} {xs : List V} {ds : List D} {vs : List V} {ss : List Slot} : H p = none → F' p = none → H' p = some (.lst xs) → Reps K F' xs ds →
      (∀ (j : Nat) (t : Slot), ss[j]? = some t → t.owns = true → vs[j]? ≠ some (.ref p)) → Pend K H F' H' vs ss → Pend K H F' H' (.ref p :: vs) (.own ds :: ss)
section
variable {K : PySem.W.Frag} {c : Cd} {F F' H H' : Hp} {ρ : Env} {σ : L2.St}
theorem Pend.back {H0 : Hp} (e : Ex H0 H) : ∀ {vs : List V} {ss : List Slot}, Pend K H F' H' vs ss → Pend K H0 F' H' vs ss
  | _, _, .nil => .nil
  | _, _, .dat r q => .dat r (Pend.back e q)
  | _, _, .own a b c d f q => .own (fresh_back e a) b c d f (Pend.back e q)
/-- an owned one's address was free at H -/
theorem Pend.free : ∀ {vs : List V} {ss : List Slot} {j : Nat} {t : Slot} {p : Addr}, Pend K H F' H' vs ss → ss[j]? = some t → t.owns = true → vs[j]? = some (.ref p) → H p = none
  | _, _, _, _, _, .nil, e, _, _ => by simp at e
  | _, _, 0, _, _, .dat _ _, e, o, _ => by
    simp at e
    subst e
    cases o
  | _, _, 0, _, _, .own a _ _ _ _ _, e, _, v => by
    simp at v
    subst v
    exact a
  | _, _, j + 1, t, p, .dat _ q, e, o, v => Pend.free (j := j) q (by simpa using e) o (by simpa using v)
  | _, _, j + 1, t, p, .own _ _ _ _ _ q, e, o, v => Pend.free (j := j) q (by simpa using e) o (by simpa using v)
def setAll : Env → List Nat → List Slot → Env
  | ρ, i :: is, s :: ss => setAll (ρ.set i s) is ss
  | ρ, _, _ => ρ
def setAllV : L2.St → List Nat → List V → L2.St
  | σ, i :: is, v :: vs => setAllV (σ.set i (some v)) is vs
  | σ, _, _ => σ
theorem RelP.sets : ∀ {is : List Nat} {vs : List V} {ss : List Slot} {ρ : Env} {σ : L2.St}, RelP K c F' ρ σ H' → (∀ a, H a = none → c.B a = none) → Pend K H F' H' vs ss → is.Nodup → is.length = ss.length →
    (∀ (k : Nat) (t : Slot) (p : Addr), ss[k]? = some t → t.owns = true → vs[k]? = some (.ref p) → ∀ (j : Nat) (u : Slot), ρ[j]? = some u → u.owns = true → σ[j]? ≠ some (some (.ref p))) →
    RelP K c F' (setAll ρ is ss) (setAllV σ is vs) H' := by
  intro is
  induction is with
  | nil =>
    intro vs ss ρ σ R hB P nd hl far
    cases ss with
    | nil =>
      cases P
      exact R
    | cons s ss => cases hl
  | cons i is ih =>
    intro vs ss ρ σ R hB P nd hl far
    have nd' := (List.nodup_cons.mp nd).2
    cases P with
    | nil => cases hl
    | @dat v d vs ss r q =>
      refine ih (R.dat r) hB q nd' (by simpa using hl) ?_
      intro k t p h1 h2 h3 j u e o z
      by_cases y : i = j
      · subst y
        have hi : i < ρ.length := by
          have := (List.getElem?_eq_some_iff.mp e).1
          simpa using this
        rw [List.getElem?_set_self hi] at e
        cases e
        cases o
      · rw [List.getElem?_set_ne y] at e z
        exact far (k + 1) t p (by simpa using h1) h2 (by simpa using h3) j u e o z
    | @own p xs ds vs ss a b c d f q =>
      refine ih (R.take rfl ⟨p, xs, rfl, b, hB p a, c, d⟩ ?_) hB q nd' (by simpa using hl) ?_
      · intro j t _ e o z
        exact far 0 (.own ds) p rfl rfl rfl j t e o z
      · intro k t p' h1 h2 h3 j u e o z
        by_cases y : i = j
        · subst y
          have hi : i < σ.length := by
            have := (List.getElem?_eq_some_iff.mp z).1
            simpa using this
          rw [List.getElem?_set_self hi] at z
          cases z
          exact f k t h1 h2 h3
        · rw [List.getElem?_set_ne y] at e z
          exact far (k + 1) t p' (by simpa using h1) h2 (by simpa using h3) j u e o z
theorem Rel.sets {F0 H0 : Hp} {is : List Nat} {vs : List V} {ss : List Slot} (R : Rel K c F0 ρ σ H0) (st : Step F0 H0 F' H') (P : Pend K H0 F' H' vs ss) (nd : is.Nodup) (hl : is.length = ss.length) : Rel K c F' (setAll ρ is ss) (setAllV σ is vs) H' := by
  have R1 := R.step st
  refine ⟨RelP.sets R1.p (fun a h => R.freshB h) P nd hl ?_, R1.b, R1.f0, R1.z, R1.cl⟩
  intro k t p h1 h2 h3 j u e o z
  obtain ⟨q, a, _, d⟩ := (R.p.ok j u _ e z).addr o
  cases a
  exact d (P.free h1 h2 h3)
end
abbrev EMr := Env → (List Slot → Env → Prop) → Prop
def SimEM (K : PySem.W.Frag) (ta : TA) (em : EMr) : Prop :=
  ∀ (c : Cd) (F : Hp) (ρ : Env) (σ : L2.St) (H : Hp) (P : List Slot → Env → Prop) (Q : List V → Hp → Prop), Rel K c F ρ σ H → em ρ P →
    (∀ vs ss F0 H0 F' ρ' H', P ss ρ' → Ex F F0 → Rel K c F0 ρ' σ H0 → Step F0 H0 F' H' → Pend K H0 F' H' vs ss → Q vs H') → ta σ H Q
def DEM {ι : Type} (K : PySem.W.Frag) (X : ι → Cx) (es : List Expr) (em : EMr) : Prop := ∃ ta, (∀ c, PA (X c) es ta) ∧ SimEM K ta em
abbrev DMr := Env → (List Slot → Prop) → Prop
def SimM (K : PySem.W.Frag) (ta : TA) (dm : DMr) : Prop :=
  ∀ (B : Cd) (F : Hp) (ρ : Env) (σ : L2.St) (H : Hp) (P : List Slot → Prop) (Q : List V → Hp → Prop), RelP K B F ρ σ H → dm ρ P →
    (∀ vs ss F' H', P ss → Pend K H F' H' vs ss → Step F H F' H' → Q vs H') → ta σ H Q
def DM {ι : Type} (K : PySem.W.Frag) (X : ι → Cx) (es : List Expr) (dm : DMr) : Prop := ∃ ta, (∀ c, PA (X c) es ta) ∧ SimM K ta dm
section
variable {ι : Type} {K : PySem.W.Frag} {X : ι → Cx} {e a b c : Expr} {pos : Pos} {es : List Expr} {da : EPr} {st : Stmt}
def mNil : DMr := fun _ P => P []
def mDat (de : DPr) (dm : DMr) : DMr := fun ρ P => de ρ fun d => dm ρ fun ss => P (.dat d :: ss)
def mOwn (dn : DAr) (dm : DMr) : DMr := fun ρ P => dn ρ fun xs => dm ρ fun ss => P (.own xs :: ss)
theorem dm_nil : DM K X [] mNil := ⟨_, fun _ => pa_nil, fun B F ρ σ H P Q R h k => k [] [] F H h .nil (Step.refl R.fh)⟩
theorem dm_dat {de : DPr} {dm : DMr} (h : DP K X a de) (h' : DM K X es dm)
    (hs : ∀ c, starEach (a :: es) (X c).env = (false, eval a (X c).env) :: starEach es (X c).env := by intro _; rfl) : DM K X (a :: es) (mDat de dm) := by
  obtain ⟨te, p, s⟩ := h
  obtain ⟨tr, p', s'⟩ := h'
  refine ⟨_, fun c => pa_cons (p c) (p' c) (hs c), ?_⟩
  intro B F ρ σ H P Q R hd k
  refine s B F ρ σ H _ _ R hd ?_
  intro v d F1 H1 p1 r1 s1
  refine s' B F1 ρ σ H1 _ _ (R.step s1) p1 ?_
  intro vs ss F2 H2 p2 q2 s2
  exact k (v :: vs) (.dat d :: ss) F2 H2 p2 (.dat (r1.mono s2.ff) (q2.back s1.hh)) (s1.trans s2)
theorem dm_own {dn : DAr} {dm : DMr} (h : DN K X a dn) (h' : DM K X es dm)
    (hs : ∀ c, starEach (a :: es) (X c).env = (false, eval a (X c).env) :: starEach es (X c).env := by intro _; rfl) : DM K X (a :: es) (mOwn dn dm) := by
  obtain ⟨te, p, s⟩ := h
  obtain ⟨tr, p', s'⟩ := h'
  refine ⟨_, fun c => pa_cons (p c) (p' c) (hs c), ?_⟩
  intro B F ρ σ H P Q R hd k
  refine s B F ρ σ H _ _ R hd ?_
  intro q vs1 ds F1 H1 p1 h0 f0 hl r1 s1
  refine s' B F1 ρ σ H1 _ _ (R.step s1) p1 ?_
  intro vs ss F2 H2 p2 q2 s2
  refine k (.ref q :: vs) (.own ds :: ss) F2 H2 p2 (.own h0 (s2.nn q f0 (by rw [hl]; exact Option.some_ne_none _)) (s2.hh _ _ hl) (r1.mono s2.ff) ?_ (q2.back s1.hh)) (s1.trans s2)
  intro j t e o z
  have := q2.free e o z
  rw [hl] at this
  cases this
def emP (dm : DMr) : EMr := fun ρ P => dm ρ fun ss => P ss ρ
def emE (de : EPr) (em : EMr) : EMr := fun ρ P => de ρ fun d ρ1 => em ρ1 fun ss ρ2 => P (.dat d :: ss) ρ2
theorem dem_p {dm : DMr} (h : DM K X es dm) : DEM K X es (emP dm) := by
  obtain ⟨ta, p, s⟩ := h
  refine ⟨ta, p, ?_⟩
  intro c F ρ σ H P Q R hd k
  refine s c F ρ σ H _ _ R.p hd ?_
  intro vs ss F' H' p q st
  exact k vs ss F H F' ρ H' p (Ex.refl F) R st q
theorem dem_e {em : EMr} (h : DE K X a da) (h' : DEM K X es em)
    (hs : ∀ c, starEach (a :: es) (X c).env = (false, eval a (X c).env) :: starEach es (X c).env := by intro _; rfl) : DEM K X (a :: es) (emE da em) := by
  obtain ⟨te, p, s⟩ := h
  obtain ⟨tr, p', s'⟩ := h'
  refine ⟨_, fun c => pa_cons (p c) (p' c) (hs c), ?_⟩
  intro c F ρ σ H P Q R hd k
  refine s c F ρ σ H _ _ R hd ?_
  intro v d F1 ρ1 H1 p1 r1 e1 R1
  refine s' c F1 ρ1 σ H1 _ _ R1 p1 ?_
  intro vs ss F0 H0 F2 ρ2 H2 p2 e2 R2 st q
  exact k (v :: vs) (.dat d :: ss) F0 H0 F2 ρ2 H2 p2 (e1.trans e2) R2 st (.dat (r1.mono (e2.trans st.ff)) q)
def sMany (is : List Nat) (em : EMr) : DSr := fun M ρ => em ρ fun ss ρ' => is.length = ss.length ∧ M.nx (setAll ρ' is ss)
theorem pend_len {K : PySem.W.Frag} {H F' H' : Hp} : ∀ {vs : List V} {ss : List Slot}, Pend K H F' H' vs ss → vs.length = ss.length
  | _, _, .nil => rfl
  | _, _, .dat _ q => congrArg (· + 1) (pend_len q)
  | _, _, .own _ _ _ _ _ q => congrArg (· + 1) (pend_len q)
/-- two or three plain names at once -/
theorem ds_par2 {i j : Nat} {em : EMr} (h : DEM K X es em) (nd : [i, j].Nodup) (ps : ∀ c {ta : TA}, PA (X c) es ta → PS (X c) st (tPar i j ta)) : DS K X st (sMany [i, j] em) := by
  obtain ⟨ta, p, s⟩ := h
  refine ⟨_, fun c => ps c (p c), ?_⟩
  intro c F ρ σ H M E R hd k
  refine s c F ρ σ H _ _ R hd ?_
  intro vs ss F0 H0 F' ρ' H' m e R0 st q
  have hl := pend_len q
  have R' := R0.sets st q nd m.1
  obtain ⟨v, w, rfl⟩ : ∃ v w, vs = [v, w] := by
    have h2 : vs.length = 2 := by rw [hl, ← m.1]; rfl
    match vs, h2 with
    | [v, w], _ => exact ⟨v, w, rfl⟩
  exact ⟨v, w, rfl, k.nx F' _ _ H' m.2 (e.trans st.ff) R'⟩
theorem ds_par3 {i j l : Nat} {em : EMr} (h : DEM K X es em) (nd : [i, j, l].Nodup) (ps : ∀ c {ta : TA}, PA (X c) es ta → PS (X c) st (tPar3 i j l ta)) : DS K X st (sMany [i, j, l] em) := by
  obtain ⟨ta, p, s⟩ := h
  refine ⟨_, fun c => ps c (p c), ?_⟩
  intro c F ρ σ H M E R hd k
  refine s c F ρ σ H _ _ R hd ?_
  intro vs ss F0 H0 F' ρ' H' m e R0 st q
  have hl := pend_len q
  have R' := R0.sets st q nd m.1
  obtain ⟨u, v, w, rfl⟩ : ∃ u v w, vs = [u, v, w] := by
    have h2 : vs.length = 3 := by rw [hl, ← m.1]; rfl
    match vs, h2 with
    | [u, v, w], _ => exact ⟨u, v, w, rfl⟩
  exact ⟨u, v, w, rfl, k.nx F' _ _ H' m.2 (e.trans st.ff) R'⟩
/-- any number of names, by way of a tuple -/
def gNames : List Nat → TGs
  | [] => gNil
  | i :: is => gCons (gName i) (gNames is)
theorem gNames_run {P : L2.St → Hp → Prop} {H : Hp} : ∀ {is : List Nat} {vs : List V} {σ : L2.St}, is.length = vs.length → P (setAllV σ is vs) H → gNames is vs σ H P
  | [], [], σ, _, h => ⟨rfl, h⟩
  | i :: is, v :: vs, σ, hl, h => ⟨v, vs, rfl, gNames_run (is := is) (by simpa using hl) h⟩
theorem ds_many {is : List Nat} {em : EMr} (h : DEM K X es em) (nd : is.Nodup) (hle : is.length ≤ 100) (ps : ∀ c {ta : TA}, PA (X c) es ta → PS (X c) st (tAsg (tTup ta) (gTup K is.length (gNames is)))) : DS K X st (sMany is em) := by
  obtain ⟨ta, p, s⟩ := h
  refine ⟨_, fun c => ps c (p c), ?_⟩
  intro c F ρ σ H M E R hd k
  refine s c F ρ σ H _ _ R hd ?_
  intro vs ss F0 H0 F' ρ' H' m e R0 st q
  have hl := pend_len q
  have hl2 : is.length = vs.length := by rw [hl]; exact m.1
  refine ⟨by rw [← hl2]; exact sz_of (by omega), ?_⟩
  intro t ht
  refine ⟨t, vs, rfl, st_of upd_same, hl2.symm, gNames_run hl2 ?_⟩
  have R' := R0.sets st q nd m.1
  exact k.nx F' _ _ _ m.2 (e.trans st.ff) (R'.step (Step.lay R'.p.fh ht))
/-! #### x[i] = e, x.remove(e), x.reverse() -/
def sItem (i : Nat) (de dk : EPr) : DSr := fun M ρ => de ρ fun d ρ1 => (lstAt ρ1 i).isSome = true ∧ dk ρ1 fun y ρ2 => ∃ xs, lstAt ρ2 i = some xs ∧ ∃ j, y = .int j ∧ ∃ n, ixN xs.length j = some n ∧ M.nx (putLst ρ2 i (xs.set n d))
theorem ds_item {i : Nat} {x : Expr} {dk : EPr} (hx : ∀ c, PE (X c) x (tVar i)) (h : DE K X e da) (hk : DE K X b dk)
    (ps : ∀ c {te tk : TE}, PE (X c) x (tVar i) → PE (X c) e te → PE (X c) b tk → PS (X c) st (tAsg te (L2.gSub (tVar i) tk rSetL))) : DS K X st (sItem i da dk) := by
  obtain ⟨te, p, s⟩ := h
  obtain ⟨tk, p', s'⟩ := hk
  refine ⟨_, fun c => ps c (hx c) (p c) (p' c), ?_⟩
  intro c F ρ σ H M E R hd k
  refine s c F ρ σ H _ _ R hd ?_
  intro v d F1 ρ1 H1 m r e1 R1
  obtain ⟨o1, m⟩ := m
  obtain ⟨q, vs0, hq, hl0⟩ := listAt_addr R1.p o1
  refine ⟨_, hq, ?_⟩
  refine s' c F1 ρ1 σ H1 _ _ R1 m ?_
  intro w d2 F2 ρ2 H2 m2 r2 e2 R2
  obtain ⟨xs, hh, j, rfl, n, hn, m2⟩ := m2
  obtain ⟨p', vs, hv, hl, rs, f0, wr⟩ := R2.write hh
  have ep : p' = q := by
    rw [hq] at hv
    cases hv
    rfl
  subst ep
  refine ⟨p', vs, j, n, rfl, r2.int_inv, hl, by rw [rs.length]; exact hn, ?_⟩
  exact k.nx F2 _ σ _ m2 (e1.trans e2) (wr _ _ (rs.set (r.mono e2) n))
/-- x.remove(e), a list of ints -/
def sRem (i : Nat) (de : EPr) : DSr := fun M ρ => (lstAt ρ i).isSome = true ∧ de ρ fun d ρ' => ∃ (ns : List Int) (k : Int), lstAt ρ' i = some (ns.map PyData.int) ∧ d = .int k ∧ k ∈ ns ∧ M.nx (putLst ρ' i ((ns.erase k).map PyData.int))
theorem Reps.ints_inv {F : Hp} : ∀ {ns : List Int} {vs : List V}, Reps K F vs (ns.map PyData.int) → vs = ns.map V.int
  | [], _, r => by
    cases r
    rfl
  | n :: ns, _, r => by
    cases r with
    | cons r1 r2 => rw [r1.int_inv, Reps.ints_inv r2] <;> rfl
theorem first_at {k : Int} : ∀ {ns : List Int}, k ∈ ns → ∃ j, ns[j]? = some k ∧ (∀ m : Nat, m < j → ns[m]? ≠ some k) ∧ ns.eraseIdx j = ns.erase k
  | [], h => by simp at h
  | n :: ns, h => by
    by_cases q : n = k
    · subst q
      exact ⟨0, rfl, fun m hm => absurd hm (Nat.not_lt_zero m), by simp⟩
    · have h' : k ∈ ns := by
        rcases List.mem_cons.mp h with z | z
        · exact absurd z.symm q
        · exact z
      obtain ⟨j, a, b, c⟩ := first_at h'
      refine ⟨j + 1, by simpa using a, ?_, ?_⟩
      · intro m hm
        cases m with
        | zero => simpa using q
        | succ m => simpa using b m (by omega)
      · rw [List.eraseIdx_cons_succ, c, List.erase_cons_tail (by simpa using q)]
theorem ds_rem {i : Nat} {x : Expr} (hx : ∀ c, PE (X c) x (tVar i)) (h : DE K X e da) (ps : ∀ c {te : TE}, PE (X c) x (tVar i) → PE (X c) e te → PS (X c) st (tDrop (tBM K "list" rRemI (tVar i) (tCons te tNil)))) : DS K X st (sRem i da) := by
  obtain ⟨te, p, s⟩ := h
  refine ⟨_, fun c => ps c (hx c) (p c), ?_⟩
  intro c F ρ σ H M E R hd k
  obtain ⟨o1, hd⟩ := hd
  obtain ⟨q, vs0, hq, hl0⟩ := listAt_addr R.p o1
  refine ⟨_, hq, Or.inl ⟨rfl, vs0, Or.inl (Or.inl hl0)⟩, ?_⟩
  refine s c F ρ σ H _ _ R hd ?_
  intro v d F' ρ' H' m r e R'
  obtain ⟨ns, n, hh, rfl, hmem, m⟩ := m
  obtain ⟨p', vs, hv, hl, rs, f0, w⟩ := R'.write hh
  have ep : p' = q := by
    rw [hq] at hv
    cases hv
    rfl
  subst ep
  obtain ⟨j, a, b, c⟩ := first_at hmem
  have ev := rs.ints_inv
  subst ev
  refine ⟨p', ns, n, j, rfl, ?_, hl, a, b, ?_⟩
  · rw [r.int_inv]
  · rw [c]
    exact k.nx F' _ σ _ m e (w _ _ (Reps.ints _))
end
end Dl

set_option Elab.async false
set_option linter.all false
set_option maxRecDepth 100000
set_option maxHeartbeats 4000000
namespace Dl
open PySem PySem.Spec PyProof.Rows L2 Evl G
/-! ### defs -/
def startD (N : List Str) (ds : List D) : Env := ds.map .dat ++ List.replicate (N.length - ds.length) .no
def startC (N : List Str) (cs : List D) (ds : List D) : Env := .cel cs :: ds.map .dat ++ List.replicate (N.length - (ds.length + 1)) .no
theorem start_get {N : List Str} {vs : List V} {i : Nat} {o : Option V} (h : (L2.start N vs)[i]? = some o) : (i < vs.length ∧ ∃ v, vs[i]? = some v ∧ o = some v) ∨ (vs.length ≤ i ∧ o = none) := by
  unfold L2.start at h
  by_cases hi : i < vs.length
  · rw [List.getElem?_append_left (by simpa using hi), List.getElem?_map] at h
    refine Or.inl ⟨hi, vs[i], List.getElem?_eq_getElem hi, ?_⟩
    rw [List.getElem?_eq_getElem hi] at h
    simpa using h.symm
  · rw [List.getElem?_append_right (by simpa using hi), List.getElem?_replicate] at h
    split at h
    · exact Or.inr ⟨by omega, by simpa using h.symm⟩
    · cases h
theorem startD_get {N : List Str} {ds : List D} {i : Nat} {s : Slot} (h : (startD N ds)[i]? = some s) : (i < ds.length ∧ ∃ d, ds[i]? = some d ∧ s = .dat d) ∨ (ds.length ≤ i ∧ s = .no) := by
  unfold startD at h
  by_cases hi : i < ds.length
  · rw [List.getElem?_append_left (by simpa using hi), List.getElem?_map] at h
    refine Or.inl ⟨hi, ds[i], List.getElem?_eq_getElem hi, ?_⟩
    rw [List.getElem?_eq_getElem hi] at h
    simpa using h.symm
  · rw [List.getElem?_append_right (by simpa using hi), List.getElem?_replicate] at h
    split at h
    · exact Or.inr ⟨by omega, by simpa using h.symm⟩
    · cases h
theorem startC_get {N : List Str} {cs ds : List D} {i : Nat} {s : Slot} (h : (startC N cs ds)[i]? = some s) : (i = 0 ∧ s = .cel cs) ∨ (0 < i ∧ ∃ d, ds[i - 1]? = some d ∧ s = .dat d) ∨ (ds.length < i ∧ s = .no) := by
  unfold startC at h
  cases i with
  | zero =>
    simp at h
    exact Or.inl ⟨rfl, h.symm⟩
  | succ i =>
    right
    have h' : (ds.map Slot.dat ++ List.replicate (N.length - (ds.length + 1)) Slot.no)[i]? = some s := by simpa using h
    by_cases hi : i < ds.length
    · rw [List.getElem?_append_left (by simpa using hi), List.getElem?_map] at h'
      refine Or.inl ⟨Nat.succ_pos i, ds[i], List.getElem?_eq_getElem hi, ?_⟩
      rw [List.getElem?_eq_getElem hi] at h'
      simpa using h'.symm
    · rw [List.getElem?_append_right (by simpa using hi), List.getElem?_replicate] at h'
      split at h'
      · exact Or.inr ⟨by omega, by simpa using h'.symm⟩
      · cases h'
section
variable {K : PySem.W.Frag}
theorem rel_start {F H : Hp} {N : List Str} {vs : List V} {ds : List D} (e : Ex F H) (r : Reps K F vs ds) : Rel K ⟨F, H, none⟩ F (startD N ds) (L2.start N vs) H := by
  have hl := r.length
  refine ⟨⟨e, ?_, ?_, ?_⟩, fun a o _ z => z, Ex.refl F, fun a _ z => z, fun a z => by cases z⟩
  · unfold startD L2.start
    simp [hl]
  · intro i s o h1 h2
    rcases startD_get h1 with ⟨hi, d, hd, rfl⟩ | ⟨hi, rfl⟩
    · rcases start_get h2 with ⟨hj, v, hv, rfl⟩ | ⟨hj, rfl⟩
      · obtain ⟨v', hv', rv⟩ := r.get hd
        rw [hv] at hv'
        cases hv'
        exact ⟨v, rfl, rv⟩
      · omega
    · rcases start_get h2 with ⟨hj, v, hv, rfl⟩ | ⟨hj, rfl⟩
      · omega
      · rfl
  · intro i j s t p _ h1 _ o1
    rcases startD_get h1 with ⟨_, d, _, rfl⟩ | ⟨_, rfl⟩
    · cases o1
    · cases o1
theorem rel_startC {F H : Hp} {N : List Str} {p : Addr} {xs vs : List V} {cs ds : List D} (e : Ex F H) (hp : H p = some (.lst xs)) (f0 : F p = none) (rc : Reps K F xs cs) (r : Reps K F vs ds) :
    Rel K ⟨F, H, some p⟩ F (startC N cs ds) (L2.start N (.ref p :: vs)) H := by
  have hl := r.length
  refine ⟨⟨e, ?_, ?_, ?_⟩, fun a o _ z => z, Ex.refl F, fun a _ z => z, ?_⟩
  · unfold startC L2.start
    simp [hl]
  · intro i s o h1 h2
    rcases startC_get h1 with ⟨rfl, rfl⟩ | ⟨hi, d, hd, rfl⟩ | ⟨hi, rfl⟩
    · rcases start_get h2 with ⟨hj, v, hv, rfl⟩ | ⟨hj, rfl⟩
      · simp at hv
        subst hv
        exact ⟨p, xs, rfl, f0, rfl, hp, rc⟩
      · simp at hj
    · rcases start_get h2 with ⟨hj, v, hv, rfl⟩ | ⟨hj, rfl⟩
      · obtain ⟨v', hv', rv⟩ := r.get hd
        have e1 : (V.ref p :: vs)[i]? = vs[i - 1]? := by
          cases i with
          | zero => omega
          | succ i => simp
        rw [e1, hv'] at hv
        cases hv
        exact ⟨_, rfl, rv⟩
      · have := (List.getElem?_eq_some_iff.mp hd).1
        simp at hj
        omega
    · rcases start_get h2 with ⟨hj, v, hv, rfl⟩ | ⟨hj, rfl⟩
      · simp at hj
        omega
      · rfl
  · intro i j s t q hij h1 h2 o1 o2
    rcases startC_get h1 with ⟨rfl, rfl⟩ | ⟨_, d, _, rfl⟩ | ⟨_, rfl⟩
    · rcases startC_get h2 with ⟨rfl, rfl⟩ | ⟨_, d, _, rfl⟩ | ⟨_, rfl⟩
      · exact absurd rfl hij
      · cases o2
      · cases o2
    · cases o1
    · cases o1
  · intro a z
    cases z
    rw [hp]
    exact Option.some_ne_none _
/-- a def that changes nothing -/
theorem fn_pure {P : Program} {w : World} {mg : Str → Option Value} {base : Heap} {x qual : Str} {st : Stmt} {f : Addr} {fd : FuncData} {N ps : List Str} {k : Nat} {dp : List D → (D → Prop) → Prop} {body : DSr}
    (Fn : Fun K x qual st f fd) (S : FnScope N ps (defScope st)) (len : ∀ ds Q, dp ds Q → ds.length = ps.length)
    (der : ∀ (cdv : Value) (A : Around) (outer : List PySem.Env) (s : Shared) (H : Hp) (E : XK), A.guards = some [] → Room k (A.deeper (envOfC qual (defScope st) s.heap.objs.size f cdv)) →
      DSs K (fun _ : Unit => (cxOf L2.CX0 P w K mg base N qual (defScope st) f cdv A outer s H E).nox) (defBody st) body)
    (sem : ∀ ds Q, dp ds Q → body { nx := fun _ => Q .none, rt := fun d _ => Q d, rn := fun xs _ => Q (.list xs) } (startD N ds)) : FnG P w K mg base L2.CX0 (k + 1) f fd ps (spP K dp) := by
  obtain ⟨oc, od, kV, doc, pm, an, cdv, ct, osl, rfl, lk, hcd⟩ := Fn.ex
  refine fnG_of lk hcd S ?_ ?_
  · rintro vs H Q E ⟨F, ds, R, e, r, h, k⟩
    rw [r.length]
    exact len ds R h
  · rintro A outer s H vs Q E hgd hr ⟨F, ds, R, e, r, h, kont⟩
    obtain ⟨ts, pp, ss⟩ := der cdv A outer s H E hgd hr
    refine ⟨ts, (pp ()).nox, ?_⟩
    refine ss _ F _ _ H _ _ (rel_start e r) (sem ds R h) ?_
    have fin : ∀ v d F' ρ σ H', R d → Rep K F' v d → Ex F F' → Rel K ⟨F, H, none⟩ F' ρ σ H' → Q v H' := by
      intro v d F' ρ σ H' rd rv ex R'
      exact kont v d F' H' rd rv ⟨ex, R'.p.fh, fun a o z => R'.b a o (by intro y; cases y) z, fun a h1 h2 => R'.z a h2 h1⟩
    refine ⟨?_, ?_, ?_, ?_, ?_⟩
    · intro F' ρ σ H' m ex R'
      exact fin .non .none F' ρ σ H' m .non ex R'
    · intro F' ρ σ H' m
      exact m.elim
    · intro F' ρ σ H' m
      exact m.elim
    · intro v d F' ρ σ H' m rv ex R'
      exact fin v d F' ρ σ H' m rv ex R'
    · intro p vs' xs F' ρ σ H' m q1 q2 q3 q4 ex R'
      have st : Step F H F' H' := ⟨ex, R'.p.fh, fun a o z => R'.b a o (by intro y; cases y) z, fun a h1 h2 => R'.z a h2 h1⟩
      exact kont (.ref p) (.list xs) _ H' m (.lst (Or.inl (Or.inl upd_same)) (q4.mono (Ex.new q1))) (st.freeze q2 q3)
/-- a def that hands back a new list -/
def spN (K : PySem.W.Frag) (dn : List D → (List D → Prop) → Prop) : Sp := fun vs H Q _ => ∃ F ds P, Ex F H ∧ Reps K F vs ds ∧ dn ds P ∧
  ∀ p vs xs F' H', P xs → H p = none → F' p = none → H' p = some (.lst vs) → Reps K F' vs xs → Step F H F' H' → Q (.ref p) H'
theorem fn_new {P : Program} {w : World} {mg : Str → Option Value} {base : Heap} {x qual : Str} {st : Stmt} {f : Addr} {fd : FuncData} {N ps : List Str} {k : Nat} {dn : List D → (List D → Prop) → Prop} {body : DSr}
    (Fn : Fun K x qual st f fd) (S : FnScope N ps (defScope st)) (len : ∀ ds Q, dn ds Q → ds.length = ps.length)
    (der : ∀ (cdv : Value) (A : Around) (outer : List PySem.Env) (s : Shared) (H : Hp) (E : XK), A.guards = some [] → Room k (A.deeper (envOfC qual (defScope st) s.heap.objs.size f cdv)) →
      DSs K (fun _ : Unit => (cxOf L2.CX0 P w K mg base N qual (defScope st) f cdv A outer s H E).nox) (defBody st) body)
    (sem : ∀ ds Q, dn ds Q → body { nx := fun _ => False, rt := fun _ _ => False, rn := fun xs _ => Q xs } (startD N ds)) : FnG P w K mg base L2.CX0 (k + 1) f fd ps (spN K dn) := by
  obtain ⟨oc, od, kV, doc, pm, an, cdv, ct, osl, rfl, lk, hcd⟩ := Fn.ex
  refine fnG_of lk hcd S ?_ ?_
  · rintro vs H Q E ⟨F, ds, R, e, r, h, k⟩
    rw [r.length]
    exact len ds R h
  · rintro A outer s H vs Q E hgd hr ⟨F, ds, R, e, r, h, kont⟩
    obtain ⟨ts, pp, ss⟩ := der cdv A outer s H E hgd hr
    refine ⟨ts, (pp ()).nox, ?_⟩
    refine ss _ F _ _ H _ _ (rel_start e r) (sem ds R h) ?_
    refine ⟨?_, ?_, ?_, ?_, ?_⟩
    · intro F' ρ σ H' m
      exact m.elim
    · intro F' ρ σ H' m
      exact m.elim
    · intro F' ρ σ H' m
      exact m.elim
    · intro v d F' ρ σ H' m
      exact m.elim
    · intro p vs' xs F' ρ σ H' m q1 q2 q3 q4 ex R'
      exact kont p vs' xs F' H' m q2 q1 q3 q4 ⟨ex, R'.p.fh, fun a o z => R'.b a o (by intro y; cases y) z, fun a h1 h2 => R'.z a h2 h1⟩
/-- a def whose first argument is a list that it changes -/
theorem fn_cell {P : Program} {w : World} {mg : Str → Option Value} {base : Heap} {x qual : Str} {st : Stmt} {f : Addr} {fd : FuncData} {N ps : List Str} {k : Nat} {dc : List D → List D → (D → List D → Prop) → Prop} {body : DSr}
    (Fn : Fun K x qual st f fd) (S : FnScope N ps (defScope st)) (len : ∀ cs ds Q, dc cs ds Q → ds.length + 1 = ps.length)
    (der : ∀ (cdv : Value) (A : Around) (outer : List PySem.Env) (s : Shared) (H : Hp) (E : XK), A.guards = some [] → Room k (A.deeper (envOfC qual (defScope st) s.heap.objs.size f cdv)) →
      DSs K (fun _ : Unit => (cxOf L2.CX0 P w K mg base N qual (defScope st) f cdv A outer s H E).nox) (defBody st) body)
    (sem : ∀ cs ds Q, dc cs ds Q → body { nx := fun ρ => ∃ cs', ρ[0]? = some (.cel cs') ∧ Q .none cs', rt := fun d ρ => ∃ cs', ρ[0]? = some (.cel cs') ∧ Q d cs', rn := fun xs ρ => ∃ cs', ρ[0]? = some (.cel cs') ∧ Q (.list xs) cs' } (startC N cs ds)) : FnG P w K mg base L2.CX0 (k + 1) f fd ps (spC K dc) := by
  obtain ⟨oc, od, kV, doc, pm, an, cdv, ct, osl, rfl, lk, hcd⟩ := Fn.ex
  refine fnG_of lk hcd S ?_ ?_
  · rintro vs H Q E ⟨F, p, xs, cs, us, ds, R, rfl, hp, f0, e, rc, r, h, kont⟩
    have := len cs ds R h
    rw [← this]
    show us.length + 1 = ds.length + 1
    rw [r.length]
  · rintro A outer s H vs Q E hgd hr ⟨F, p, xs, cs, us, ds, R, rfl, hp, f0, e, rc, r, h, kont⟩
    obtain ⟨ts, pp, ss⟩ := der cdv A outer s H E hgd hr
    refine ⟨ts, (pp ()).nox, ?_⟩
    refine ss _ F _ _ H _ _ (rel_startC e hp f0 rc r) (sem cs ds R h) ?_
    have fin : ∀ v d F' ρ σ H', (∃ cs', ρ[0]? = some (Slot.cel cs') ∧ R d cs') → Rep K F' v d → Ex F F' → Rel K ⟨F, H, some p⟩ F' ρ σ H' → Q v H' := by
      rintro v d F' ρ σ H' ⟨cs', h0, rd⟩ rv ex R'
      obtain ⟨p', xs', _, _, hc, hl, rs⟩ := R'.p.celv h0
      cases hc
      exact kont v d F' H' xs' cs' rd rv ex R'.p.fh (fun a o q z => R'.b a o (by intro y; cases y; exact q rfl) z) (fun a h1 h2 => R'.z a h2 h1) hl rs
    refine ⟨?_, ?_, ?_, ?_, ?_⟩
    · intro F' ρ σ H' m ex R'
      exact fin .non .none F' ρ σ H' m .non ex R'
    · intro F' ρ σ H' m
      exact m.elim
    · intro F' ρ σ H' m
      exact m.elim
    · intro v d F' ρ σ H' m rv ex R'
      exact fin v d F' ρ σ H' m rv ex R'
    · rintro q vs' ys F' ρ σ H' ⟨cs', h0, rd⟩ q1 q2 q3 q4 ex R'
      obtain ⟨p', xs', _, f1, hc, hl, rs⟩ := R'.p.celv h0
      cases hc
      have np : p ≠ q := by
        intro y
        subst y
        have q2' : H p = none := q2
        rw [hp] at q2'
        cases q2'
      have e1 : Ex F' (upd F' q (.lst vs')) := Ex.new q1
      refine kont (.ref q) (.list ys) (upd F' q (.lst vs')) H' xs' cs' rd (.lst (Or.inl (Or.inl upd_same)) (q4.mono e1)) (ex.trans e1) ?_ (fun a o y z => R'.b a o (by intro w; cases w; exact y rfl) z) ?_ hl (rs.mono e1)
      · intro a u z
        by_cases y : a = q
        · subst y
          rw [upd_same] at z
          rw [q3]
          exact z
        · rw [upd_ne y] at z
          exact R'.p.fh a u z
      · intro a h1 h2
        by_cases y : a = q
        · subst y
          exact absurd q2 h2
        · rw [upd_ne y]
          exact R'.z a h2 h1
end
/-- what the top has made of a def: its place, that it may be called by its name -/
structure FnAt (K : PySem.W.Frag) (mg : Str → Option Value) (x : Str) (st : Stmt) (ps : List Str) (f : Addr) (fd : FuncData) : Prop where
  g : mg x = some (.ref f)
  F : Fun K x x st f fd
  b : Binds K fd ps []
section
variable {X : Cx} {CX : CXT} {k : Nat} {f : Addr} {fd : FuncData} {ps : List Str} {sp : Sp} {E : XK} {x : Str} {p pos : Pos} {es : List Expr} {ta : TA}
/-- f(k = v, ..): ks the names, perm how their values lie among the parameters -/
def tCallGK (sp : Sp) (perm : List V → List V) (n : Nat) (E : XK) (t : TA) : TE := fun σ H Q => t σ H fun zs H1 => zs.length = n ∧ sp (perm zs) H1 Q E
structure KwOk (K : PySem.W.Frag) (fd : FuncData) (ps ks : List Str) (pm : {α : Type} → List α → List α) : Prop where
  to : ∀ (s : Shared) (ws : List Value), K.In s.heap → ws.length = ks.length → BindsTo s fd ⟨[], ks.zip ws⟩ (ps.zip (pm ws))
  rel : ∀ {zs : List V} {ws : List Value}, zs.length = ks.length → Vals zs ws → Vals (pm zs) (pm ws)
theorem pe_GK {kws : List Keyword} {ks : List Str} {pm : {α : Type} → List α → List α}
    (F : FnG X.prog X.w X.K X.mg X.base CX k f fd ps sp) (hgd : X.A.guards = some []) (hr : Room k X.A)
    (hg : Gl X x) (hm : X.mg x = some (.ref f)) (hk : PySem.W.keepIn X.K (.ref f) = true) (hb : KwOk X.K fd ps ks pm)
    (hx : Passes CX X E) (hkw : PK X kws ta) (hall : (backToKw pos (keywordEach kws X.env)).all (·.1.isSome) = true := by rfl) (hks : (backToKw pos (keywordEach kws X.env)).filterMap (·.1) = ks := by rfl)
    (hdb : (x == ("__debug__" : Str)) = false := by decide) (hpl : ((backTo pos (starEach [] X.env)).any (·.1) || (backToKw pos (keywordEach kws X.env)).any (·.1.isNone)) = false := by rfl) :
    PE X (.Call (.Name x p) [] kws pos) (tCallGK sp pm ks.length E ta) := by
  refine ⟨?_⟩
  intro pins s σ H Q I h
  refine wpAny_Call_Name_kw (ld_glob I hg hm ?_ hdb)
  refine PySem.W.callWith_KW0 (h₀ := X.base) I.ok.mod.kin hk hall (thn (hkw.run pos pins s σ H _ I h) ?_) hpl
  rintro ws s1 ⟨zs, H1, I1, rz, l1, q⟩
  refine ⟨I1.kIn, ?_⟩
  rw [hks]
  have r2 := hb.rel l1 rz
  refine wpAny_call (codeAny_mono (F.run X.A X.stack s1 H1 ⟨[], ks.zip ws⟩ (pm ws) (pm zs) Q E hgd hr I1.env0 (hb.to s1 ws I1.kIn (rz.length.symm.trans l1)) r2 q) ?_)
  intro z s' hz
  have y := after_call hx I1 hz
  cases z with
  | error e => exact y
  | ok fl =>
    cases fl with
    | ret u => exact y
    | next => exact y
    | brk => exact y
    | cont => exact y
end
section
variable {ι : Type} {K : PySem.W.Frag} {X : ι → Cx} {e : Expr} {kws : List Keyword}
/-- keywords' values, from the left -/
def DK {ι : Type} (K : PySem.W.Frag) (X : ι → Cx) (kws : List Keyword) (da : DAr) : Prop := ∃ ta, (∀ c, PK (X c) kws ta) ∧ SimA K ta da
def DKE {ι : Type} (K : PySem.W.Frag) (X : ι → Cx) (kws : List Keyword) (da : EAr) : Prop := ∃ ta, (∀ c, PK (X c) kws ta) ∧ SimEA K ta da
theorem dk_nil : DK K X [] dNil := ⟨_, fun _ => pk_nil, fun B F ρ σ H P Q R hd k => k [] [] F H hd .nil (Step.refl R.fh)⟩
theorem dk_cons {a : Expr} {nm : Option Str} {kpos : Pos} {da : DPr} {dr : DAr} (h : DP K X a da) (h' : DK K X kws dr) : DK K X (⟨nm, a, kpos⟩ :: kws) (dCons da dr) := by
  obtain ⟨ta, p, s⟩ := h
  obtain ⟨tr, p', s'⟩ := h'
  refine ⟨_, fun c => pk_cons (p c) (p' c), ?_⟩
  intro B F ρ σ H P Q R hd k
  refine s B F ρ σ H _ _ R hd ?_
  intro v d F1 H1 p1 r1 s1
  refine s' B F1 ρ σ H1 _ _ (R.step s1) p1 ?_
  intro vs ds F2 H2 p2 r2 s2
  exact k (v :: vs) (d :: ds) F2 H2 p2 (.cons (r1.mono s2.ff) r2) (s1.trans s2)
/-- a call of a def that hands back a new list -/
theorem dn_fn {es : List Expr} {dn : List D → (List D → Prop) → Prop} {dr : DAr} {E : XK} (ha : DA K X es dr) (pe : ∀ c {ta : TA}, PA (X c) es ta → PE (X c) e (G.tCallG (spN K dn) E ta)) : DN K X e (dCallN dn dr) := by
  obtain ⟨ta, pa, sa⟩ := ha
  refine ⟨_, fun c => pe c (pa c), ?_⟩
  intro B F ρ σ H P Q R hd k
  refine sa B F ρ σ H _ _ R hd ?_
  intro vs ds F1 H1 p1 r1 s1
  refine ⟨F1, ds, P, s1.fh, r1, p1, ?_⟩
  intro p vs xs F2 H2 p2 h0 f0 hl rs s2
  exact k p vs xs F2 H2 p2 (fresh_back s1.hh h0) f0 hl rs (s1.trans s2)
/-- f(k = v, ..) of a def that changes nothing -/
def dCallK (n : Nat) (pm : {α : Type} → List α → List α) (dp : List D → (D → Prop) → Prop) (dr : DAr) : DPr := fun ρ P => dr ρ fun ds => ds.length = n ∧ dp (pm ds) P
theorem dp_fnK {dp : List D → (D → Prop) → Prop} {dr : DAr} {E : XK} {ks : List Str} {pm : {α : Type} → List α → List α} (ha : DK K X kws dr) (hpm : ∀ {F : Hp} {vs : List V} {ds : List D}, ds.length = ks.length → Reps K F vs ds → Reps K F (pm vs) (pm ds))
    (pe : ∀ c {ta : TA}, PK (X c) kws ta → PE (X c) e (tCallGK (spP K dp) pm ks.length E ta)) : DP K X e (dCallK ks.length pm dp dr) := by
  obtain ⟨ta, pa, sa⟩ := ha
  refine ⟨_, fun c => pe c (pa c), ?_⟩
  intro B F ρ σ H P Q R hd k
  refine sa B F ρ σ H _ _ R hd ?_
  intro vs ds F1 H1 p1 r1 s1
  refine ⟨by rw [r1.length]; exact p1.1, F1, pm ds, P, s1.fh, hpm p1.1 r1, p1.2, ?_⟩
  intro v d F2 H2 p2 r2 s2
  exact k v d F2 H2 p2 r2 (s1.trans s2)
end
end Dl

set_option Elab.async false
set_option linter.all false
set_option maxRecDepth 100000
set_option maxHeartbeats 4000000
namespace Dl
open PySem PySem.Spec PyProof.Rows L2 Evl G
section
variable {Y : Cx} {ι : Type} {K : PySem.W.Frag} {X : ι → Cx} {e a b c : Expr} {pos p : Pos} {es : List Expr} {da db : DPr} {dn : DAr} {st : Stmt} {ds : DSr}
/-! ### [x] * n -/
def dRepN (dn : DAr) (db : DPr) : DAr := fun ρ P => dn ρ fun xs => db ρ fun y => ∃ k, y = .int k ∧ (0 ≤ k ∧ k ≤ 100000 ∧ xs.length * k.toNat ≤ 100000) ∧ P (List.replicate k.toNat xs).flatten
theorem Reps.reps {F : Hp} {vs : List V} {ds : List D} (r : Reps K F vs ds) : ∀ n, Reps K F (List.replicate n vs).flatten (List.replicate n ds).flatten
  | 0 => .nil
  | n + 1 => by
    rw [List.replicate_succ, List.replicate_succ, List.flatten_cons, List.flatten_cons]
    exact r.append (Reps.reps r n)
theorem dn_rep (ha : DN K X a dn) (hb : DP K X b db) : DN K X (.BinOp a .Mult b pos) (dRepN dn db) := by
  obtain ⟨ta, pa, sa⟩ := ha
  obtain ⟨tb, pb, sb⟩ := hb
  refine ⟨_, fun c => pe_op op_rep (pa c) (pb c), ?_⟩
  intro B F ρ σ H P Q R hd k
  refine sa B F ρ σ H _ _ R hd ?_
  intro q vs xs F1 H1 p1 h0 f0 hl r1 s1
  refine sb B F1 ρ σ H1 _ _ (R.step s1) p1 ?_
  intro v d F2 H2 p2 r2 s2
  obtain ⟨n, rfl, hn, p2⟩ := p2
  refine ⟨q, n, vs, rfl, r2.int_inv, s2.hh _ _ hl, by omega, by omega, ?_, ?_⟩
  · rw [r1.length]
    exact sz_of hn.2.2
  · intro q' hq'
    have st := s1.trans s2
    exact k q' _ _ F2 _ p2 (fresh_back st.hh hq') (fresh_back s2.fh hq') upd_same ((r1.mono s2.ff).reps _) (st.trans (Step.lay s2.fh hq'))
/-! ### list(range(..)) -/
def dRng1 (da : DPr) : DAr := fun ρ P => da ρ fun x => ∃ n, x = .int n ∧ (-(2 ^ 62) ≤ n ∧ n ≤ 100000) ∧ P (rangeD 0 n.toNat)
theorem reps_range {F : Hp} (lo : Int) (n : Nat) : Reps K F ((List.range n).map fun i => V.int (lo + (i : Nat))) (rangeD lo n) := by
  unfold rangeD
  generalize List.range n = l
  induction l with
  | nil => exact .nil
  | cons x l ih => exact .cons (.int _) ih
theorem dn_rng1 (ha : DP K X a da) (pe : ∀ c {te : TE}, PE (X c) a te → PE (X c) e (tLstRg (tRg1 te))) : DN K X e (dRng1 da) := by
  obtain ⟨ta, pa, sa⟩ := ha
  refine ⟨_, fun c => pe c (pa c), ?_⟩
  intro B F ρ σ H P Q R hd k
  refine sa B F ρ σ H _ _ R hd ?_
  intro v d F1 H1 p1 r1 s1
  obtain ⟨n, rfl, hn, p1⟩ := p1
  refine ⟨n, r1.int_inv, ⟨by omega, by omega, by omega, by omega, by omega⟩, ?_⟩
  intro q hq
  have rr : Reps K F1 (rgV 0 n) (rangeD 0 n.toNat) := by
    unfold rgV
    have e : (n - 0).toNat = n.toNat := by rw [Int.sub_zero]
    rw [e]
    exact reps_range 0 n.toNat
  exact k q _ _ F1 _ p1 (fresh_back s1.hh hq) (fresh_back s1.fh hq) upd_same rr (s1.trans (Step.lay s1.fh hq))
/-! ### signs, None -/
def gNeg : D → (D → Prop) → Prop
  | .int i, P => P (.int (-i))
  | _, _ => False
theorem neg_d : UnD K (rU fun i => .int (-i)) gNeg := by
  intro F H x dx P Q e r h k
  cases dx <;> try exact False.elim h
  exact ⟨_, r.int_inv, k _ _ F H h (.int _) (Step.refl e)⟩
def gMul := gMulI
theorem og_mul : OpR Y (binaryOp .Mult) (rG Y.K gMul) := og_mulI
theorem gNeg_int {i : Int} {P : D → Prop} : gNeg (.int i) P = P (.int (-i)) := rfl
theorem gMul_int {i j : Int} {P : D → Prop} : gMul (.int i) (.int j) P = ((i.natAbs < big ∧ j.natAbs < big) ∧ P (.int (i * j))) := rfl
def isNoneD : D → Bool
  | .none => true
  | _ => false
def gIsN : D → D → (D → Prop) → Prop := fun x y P => y = .none ∧ P (.bool (isNoneD x))
def gNotN : D → D → (D → Prop) → Prop := fun x y P => y = .none ∧ P (.bool (!isNoneD x))
theorem Rep.isNone {F : Hp} {v : V} {d : D} (r : Rep K F v d) : decide (v = .non) = isNoneD d := by
  cases r <;> rfl
theorem og_isN : OpR Y (compareOp .Is) (rG Y.K gIsN) := by
  refine toG op_isN ?_
  intro F H x y dx dy P Q e a b h k
  obtain ⟨rfl, h⟩ := h
  refine ⟨b.none_inv, ?_⟩
  rw [a.isNone]
  exact k _ _ F H h (.bl _) (Step.refl e)
theorem og_notN : OpR Y (compareOp .IsNot) (rG Y.K gNotN) := by
  refine toG op_notN ?_
  intro F H x y dx dy P Q e a b h k
  obtain ⟨rfl, h⟩ := h
  refine ⟨b.none_inv, ?_⟩
  rw [a.isNone]
  exact k _ _ F H h (.bl _) (Step.refl e)
/-! ### <= of ints, of tuples of ints -/
def intsOf : List D → Option (List Int)
  | [] => some []
  | .int i :: r => (intsOf r).map (i :: ·)
  | _ :: _ => none
theorem intsOf_eq : ∀ {ds : List D} {ns : List Int}, intsOf ds = some ns → ds = ns.map PyData.int
  | [], ns, h => by
    cases h
    rfl
  | .int i :: r, ns, h => by
    unfold intsOf at h
    cases q : intsOf r with
    | none =>
      rw [q] at h
      cases h
    | some ms =>
      rw [q] at h
      cases h
      rw [intsOf_eq q] <;> rfl
  | .none :: _, _, h => by cases h
  | .bool _ :: _, _, h => by cases h
  | .str _ :: _, _, h => by cases h
  | .list _ :: _, _, h => by cases h
  | .tuple _ :: _, _, h => by cases h
  | .dict _ :: _, _, h => by cases h
theorem intsOf_map (ns : List Int) : intsOf (ns.map PyData.int) = some ns := by
  induction ns with
  | nil => rfl
  | cons n ns ih =>
    show (intsOf (ns.map PyData.int)).map (n :: ·) = _
    rw [ih] <;> rfl
/-- the order of lists of ints as Python tells it -/
def lexLe (ns ms : List Int) : Bool := Ob.lexAt (fun j => decide (ns.getD j 0 = ms.getD j 0)) (fun j => decide (ns.getD j 0 ≤ ms.getD j 0)) (decide (ns.length ≤ ms.length)) 0 (min ns.length ms.length)
def gLeA : D → D → (D → Prop) → Prop
  | .int i, .int j, P => P (.bool (decide (i ≤ j)))
  | .tuple a, .tuple b, P => ∃ ns ms, intsOf a = some ns ∧ intsOf b = some ms ∧ P (.bool (lexLe ns ms))
  | _, _, _ => False
theorem gLeA_int {i j : Int} {P : D → Prop} : gLeA (.int i) (.int j) P = P (.bool (decide (i ≤ j))) := rfl
theorem gLeA_tuple {a b : List D} {P : D → Prop} : gLeA (.tuple a) (.tuple b) P = ∃ ns ms, intsOf a = some ns ∧ intsOf b = some ms ∧ P (.bool (lexLe ns ms)) := rfl
theorem og_leA (hu : Y.A.units + 64 < cLine) : OpR Y (compareOp .LtE) (rG Y.K gLeA) := by
  intro pins s σ H x y v u Q I rx ry ⟨F, dx, dy, P, e, a, b, hg, k⟩
  cases dx <;> cases dy <;> try exact False.elim hg
  · exact og_le pins s σ H x y v u Q I rx ry ⟨F, _, _, P, e, a, b, hg, k⟩
  · obtain ⟨ns, ms, h1, h2, p⟩ := hg
    obtain ⟨l, xs, rfl, hl, rl⟩ := a.tuple_inv
    obtain ⟨m, ys, rfl, hm, rm⟩ := b.tuple_inv
    rw [intsOf_eq h1] at rl
    rw [intsOf_eq h2] at rm
    have e1 := rl.ints_inv
    have e2 := rm.ints_inv
    subst e1
    subst e2
    exact op_leT (by omega) pins s σ H _ _ v u Q I rx ry ⟨l, m, ns, ms, rfl, rfl, ex_t e hl, ex_t e hm, k _ _ F H p (.bl _) (Step.refl e)⟩
/-! ### isinstance with a built-in class -/
def isT (T : String) : D → Bool
  | .none => false
  | .bool _ => T == "bool" || T == "int"
  | .int _ => T == "int"
  | .str _ => T == "str"
  | .list _ => T == "list"
  | .tuple _ => T == "tuple"
  | .dict _ => T == "dict"
def dIsi (T : String) (da : DPr) : DPr := fun ρ P => da ρ fun x => P (.bool (isT T x))
theorem tyx_d {F H : Hp} {v : V} {d : D} (e : Ex F H) (r : Rep K F v d) : ∃ n, TyX K H v (.type n) ∧ ∀ T, (T = "int" ∨ T = "bool" ∨ T = "str" ∨ T = "list" ∨ T = "tuple" ∨ T = "dict") → PySem.W.kitOne K (.type n) (.type T) = some (isT T d) := by
  cases r with
  | non => exact ⟨"NoneType", .base .non, by rintro T (rfl | rfl | rfl | rfl | rfl | rfl) <;> exact kit_ty (by decide +kernel)⟩
  | bl b => exact ⟨"bool", .base (.bl b), by rintro T (rfl | rfl | rfl | rfl | rfl | rfl) <;> exact kit_ty (by show kitB _ _ = some (isT _ (.bool true)); decide +kernel)⟩
  | int i => exact ⟨"int", .base (.int i), by rintro T (rfl | rfl | rfl | rfl | rfl | rfl) <;> exact kit_ty (by show kitB _ _ = some (isT _ (.int 0)); decide +kernel)⟩
  | str x => exact ⟨"str", .base (.str x), by rintro T (rfl | rfl | rfl | rfl | rfl | rfl) <;> exact kit_ty (by show kitB _ _ = some (isT _ (.str Str.empty)); decide +kernel)⟩
  | lst h _ =>
    refine ⟨"list", ?_, by rintro T (rfl | rfl | rfl | rfl | rfl | rfl) <;> exact kit_ty (by show kitB _ _ = some (isT _ (.list [])); decide +kernel)⟩
    rcases ex_l e h with (h | ⟨o, h⟩) | ⟨o, its, n, h1, h2, _⟩
    · exact .base (.lst h)
    · exact .base (.frz h)
    · exact .kList h1 h2
  | tup h _ =>
    refine ⟨"tuple", ?_, by rintro T (rfl | rfl | rfl | rfl | rfl | rfl) <;> exact kit_ty (by show kitB _ _ = some (isT _ (.tuple [])); decide +kernel)⟩
    rcases ex_t e h with (h | ⟨o, h⟩) | ⟨o, its, n, h1, h2, _⟩
    · exact .base (.tup h)
    · exact .fTuple h
    · exact .kTuple h1 h2
theorem dp_isi {T : String} (ha : DP K X a da) (hT : T = "int" ∨ T = "bool" ∨ T = "str" ∨ T = "list" ∨ T = "tuple" ∨ T = "dict") (hb : ∀ c, PE (X c) b (tC (.ty T)))
    (hs : ∀ c, starEach (a :: [b]) (X c).env = (false, eval a (X c).env) :: starEach [b] (X c).env := by intro _; rfl) (hs2 : ∀ c, starEach (b :: []) (X c).env = (false, eval b (X c).env) :: starEach [] (X c).env := by intro _; rfl)
    (hK : ∀ c, (X c).K = K := by intro _; rfl) (pe : ∀ c {ta : TA}, PA (X c) [a, b] ta → PE (X c) e (tCB (rIsi (X c).K) ta)) : DP K X e (dIsi T da) := by
  obtain ⟨ta, pa, sa⟩ := ha
  refine ⟨tCB (rIsi K) (tCons ta (tCons (tC (.ty T)) tNil)), fun c => hK c ▸ pe c (pa_cons (pa c) (pa_cons (hb c) pa_nil (hs2 c)) (hs c)), ?_⟩
  intro B F ρ σ H P Q R hd k
  refine sa B F ρ σ H _ _ R hd ?_
  intro v d F1 H1 p1 r1 s1
  obtain ⟨n, ty, kk⟩ := tyx_d s1.fh r1
  exact ⟨v, .ty T, .type n, .type T, _, rfl, .ty T, ty, kk T hT, k _ _ F1 H1 p1 (.bl _) s1⟩
/-! ### an owned list is frozen for good -/
def sFreeze (i : Nat) (s : DSr) : DSr := fun M ρ => ∃ xs, ρ[i]? = some (.own xs) ∧ s M (ρ.set i (.dat (.list xs)))
theorem ds_freeze (i : Nat) (h : DS K X st ds) : DS K X st (sFreeze i ds) := by
  obtain ⟨t, p, s⟩ := h
  refine ⟨t, p, ?_⟩
  intro c F ρ σ H M E R hd k
  obtain ⟨xs, ho, hd⟩ := hd
  obtain ⟨q, vs, hv, f0, b0, hl, rs⟩ := R.p.ownv ho
  have e1 : Ex F (upd F q (.lst vs)) := Ex.new f0
  have R1 : Rel K c (upd F q (.lst vs)) (ρ.set i (.dat (.list xs))) σ H := by
    obtain ⟨F1, e, R2⟩ := R.p.peek ho
    have hi : i < ρ.length := (List.getElem?_eq_some_iff.mp ho).1
    have fh : Ex (upd F q (.lst vs)) H := by
      intro x u hx
      by_cases y : x = q
      · subst y
        rw [upd_same] at hx
        rw [hl]
        exact hx
      · rw [upd_ne y] at hx
        exact R.p.fh x u hx
    refine ⟨⟨fh, R2.len, ?_, R2.ne⟩, R.b, R.f0.trans e1, ?_, R.cl⟩
    · intro j s o h1 h2
      by_cases y : i = j
      · subst y
        rw [List.getElem?_set_self hi] at h1
        cases h1
        rw [hv] at h2
        cases h2
        exact ⟨_, rfl, .lst (Or.inl (Or.inl upd_same)) (rs.mono e1)⟩
      · have h1' := h1
        rw [List.getElem?_set_ne y] at h1'
        have ok := R.p.ok j s o h1' h2
        cases s with
        | no => exact ok
        | any => trivial
        | dat d =>
          obtain ⟨v, z, r⟩ := ok
          exact ⟨v, z, r.mono e1⟩
        | own es =>
          obtain ⟨p', ys, z, f1, b1, h3, r⟩ := ok
          subst z
          have np : p' ≠ q := R.p.mine (Ne.symm y) h1' ho rfl rfl h2 hv
          exact ⟨p', ys, rfl, by rw [upd_ne np]; exact f1, b1, h3, r.mono e1⟩
        | cel es =>
          obtain ⟨p', ys, z, f1, b1, h3, r⟩ := ok
          subst z
          have np : p' ≠ q := R.p.mine (Ne.symm y) h1' ho rfl rfl h2 hv
          exact ⟨p', ys, rfl, by rw [upd_ne np]; exact f1, b1, h3, r.mono e1⟩
        | obj u =>
          obtain ⟨p', z, f1, b1, h3⟩ := ok
          subst z
          have np : p' ≠ q := R.p.mine (Ne.symm y) h1' ho rfl rfl h2 hv
          exact ⟨p', rfl, by rw [upd_ne np]; exact f1, b1, h3⟩
    · intro a h1 h2
      have np : a ≠ q := by
        intro y
        subst y
        exact h1 b0
      rw [upd_ne np]
      exact R.z a h1 h2
  exact s c _ _ σ H M E R1 hd (k.mono e1)
/-! ### name = a comprehension, which the model stores at the comprehension's own end -/
def DNS {ι : Type} (K : PySem.W.Frag) (X : ι → Cx) (i : Nat) (st : Stmt) (dn : DAr) : Prop := ∃ te, (∀ c, PS (X c) st (tAsg te (gName i))) ∧ SimN K te dn
theorem dns_lc {i : Nat} {y : Str} {py spos : Pos} {elt tg iter : Expr} {ifs : List Expr} {scope : Scope} {own : List (Str × Nat)} {di : DIr} {dg : DGr} {dt : DTr} {de : DPr} {sl : List Nat}
    (hi : DI K X tg iter di) (hg : DG K (blkX X scope) tg dg sl) (ht : DTs K (blkX X scope) ifs dt) (he : DP K (blkX X scope) elt de)
    (hy : ∀ c, (X c).N[i]? = some y) (hyl : ∀ c, (X c).env.scope.names.lookup y = some .local) (hsw : ∀ c, swapsWith (.ListComp elt [⟨tg, iter, ifs, 0⟩] scope pos) (some (.Name y py)) spos.line (X c).env = pure true)
    (ok : ∀ c, BlkOk (X c).N (X c).env.scope scope own) (hN : ∀ c, (X c).N.Nodup) (hsl : ∀ i ∈ sl, i ∈ own.map (·.2) := by decide) (hc : ∀ c, (X c).calm = true := by intro _; rfl)
    (hs : ∀ c x, foldedSetIterable iter (X c).env x = pure x := by intro _ _; rfl) :
    DNS K X i (.Assign [.Name y py] (.ListComp elt [⟨tg, iter, ifs, 0⟩] scope pos) spos) (dLc di dg dt de (own.map (·.2))) := by
  obtain ⟨wi, pi, si⟩ := hi
  obtain ⟨g, pg, sg⟩ := hg
  obtain ⟨tt, pt, st⟩ := ht
  obtain ⟨te, pe, se⟩ := he
  exact ⟨_, fun c => ps_setLc (hc c) (hN c) (hy c) (hyl c) (hsw c) (pi c) (ok c) (fun s H C cl fp => pg (c, s, H, C, cl, fp)) (fun s H C cl fp => pt (c, s, H, C, cl, fp)) (fun s H C cl fp => pe (c, s, H, C, cl, fp)) (hs c), sim_lc si sg st se hsl⟩
theorem SimN.peek {te : TE} (i : Nat) (h : SimN K te dn) : SimN K te (dPeekN i dn) := by
  intro B F ρ σ H P Q R hd k
  obtain ⟨ds, ho, hd⟩ := hd
  obtain ⟨F1, e1, R1⟩ := R.peek ho
  refine h B F1 _ σ H _ Q R1 hd ?_
  intro p vs es F' H' p1 h0 f0 hl r1 s1
  have fp : F p = none := fresh_back R.fh h0
  exact k p vs es F H' p1.2 h0 fp hl (r1.scal p1.1) ⟨Ex.refl F, R.fh.trans s1.hh, s1.hh, fun a h _ => h⟩
theorem dns_peek {i : Nat} (j : Nat) (h : DNS K X i st dn) : DNS K X i st (dPeekN j dn) := let ⟨te, p, s⟩ := h; ⟨te, p, s.peek j⟩
theorem ds_ownS {i : Nat} (h : DNS K X i st dn) : DS K X st (sOwn i dn) := by
  obtain ⟨te, p, s⟩ := h
  refine ⟨_, p, ?_⟩
  intro c F ρ σ H M E R hd k
  refine s c F ρ σ H _ _ R.p hd ?_
  intro q vs xs F' H' m h0 f0 hl rs st
  have R1 := R.step st
  refine k.nx F' _ _ H' m st.ff ⟨R1.p.take rfl ⟨q, vs, rfl, f0, R.freshB h0, hl, rs⟩ ?_, R1.b, R1.f0, R1.z, R1.cl⟩
  intro j t _ e1 o1 z
  obtain ⟨q', a, _, d⟩ := (R.p.ok j t _ e1 z).addr o1
  cases a
  exact d h0
theorem ds_setS {i : Nat} (h : DNS K X i st dn) : DS K X st (sSet (gN i) (eP (dFreeze dn))) := by
  obtain ⟨te, p, s⟩ := h
  refine ⟨_, p, ?_⟩
  intro c F ρ σ H M E R hd k
  have hd' : dFreeze dn ρ fun d => M.nx (ρ.set i (.dat d)) := hd
  refine s.frozen c F ρ σ H _ _ R.p hd' ?_
  intro v d F' H' m r st
  exact k.nx F' _ _ H' m st.ff ((R.step st).dat r)
end
end Dl

set_option Elab.async false
set_option linter.all false
set_option maxRecDepth 100000
set_option maxHeartbeats 4000000
namespace Dl
open PySem PySem.Spec PyProof.Rows L2 Evl G
section
variable {Y : Cx} {ι : Type} {K : PySem.W.Frag} {X : ι → Cx} {e a b c : Expr} {pos p : Pos} {es : List Expr} {da db : DPr} {dn : DAr} {st : Stmt}
/-! ### sorted(x) of data of one shape -/
def gSorted : List D → (List D → Prop) → Prop
  | [.list ds], P => (PySem.W.AllAlike ds ∧ PySem.W.Sortable ds ∧ ds.length ≤ 100000 ∧ ∀ d ∈ ds, d.depth ≤ 20) ∧ P (ds.mergeSort (PySem.W.dataLe false id))
  | _, _ => False
def rSortD (K : PySem.W.Frag) : List V → Hp → VK → Prop := fun xs H Q => ∃ F a vs ds, xs = [.ref a] ∧ Ex F H ∧ SqL K F a vs ∧ Reps K F vs ds ∧
  (PySem.W.AllAlike ds ∧ PySem.W.Sortable ds ∧ ds.length ≤ 100000 ∧ ∀ d ∈ ds, d.depth ≤ 20) ∧ ∀ p ws, H p = none → Reps K F ws (ds.mergeSort (PySem.W.dataLe false id)) → Q (.ref p) (upd H p (.lst ws))
def rSt (K : PySem.W.Frag) (F : Hp) (u : Value) (d : D) : Prop := ∃ x : V, RelV x u ∧ Rep K F x d
theorem each_of {F : Hp} : ∀ {vs : List V} {us : List Value} {ds : List D}, Vals vs us → Reps K F vs ds → PySem.W.EachIs (rSt K F) us ds
  | _, _, _, .nil, .nil => .nil
  | _, _, _, .cons r1 r2, .cons q1 q2 => .cons ⟨_, r1, q1⟩ (each_of r2 q2)
theorem of_each {F : Hp} : ∀ {us : List Value} {ds : List D}, PySem.W.EachIs (rSt K F) us ds → ∃ vs : List V, Vals vs us ∧ Reps K F vs ds
  | _, _, .nil => ⟨[], .nil, .nil⟩
  | _, _, .cons ⟨x, r, q⟩ h => let ⟨vs, a, b⟩ := of_each h; ⟨x :: vs, .cons r a, .cons q b⟩
theorem call_sorted (hu : Y.A.units + 64 < cLine) : CallR Y (.builtin "sorted") (rSortD Y.K) := by
  intro pins s σ H xs us Q I r ⟨F, l, vs, ds, ex, e, hl, rs, ⟨h1, h2, h3, h4⟩, q⟩
  subst ex
  obtain ⟨its, rv, pl, _⟩ := I.list (ex_l e hl)
  rw [Vals.ref1 r]
  have ee := each_of rv rs
  have em : ds.map (id : D → D) = ds := List.map_id ds
  refine PySem.W.sorted_data (enc := id) pl.isList ee (ee.mono fun u d ⟨x, r1, r2⟩ => r2.reads I e r1) (by rw [em]; exact h1) (by rw [em]; exact h2) (sz_of h3) ?_ ?_
  · intro d hd
    have := h4 d hd
    show Y.A.units + 2 + d.depth < cLine
    omega
  · intro out ho hr
    obtain ⟨ws, r1, r2⟩ := of_each hr
    obtain ⟨ep, he'⟩ := PyProof.Rows.sortedAll_at s.heap its out.toArray
    have hlen : ws.length ≤ sizeLine := by
      rw [r1.length, ho]
      exact sz_of h3
    refine ⟨.ref _, upd H (s.heap.objs.size + 1) (.lst ws), I.laid (t' := s.toks) (fun _ _ => PyProof.Rows.sortedAll_old) (Nat.le_succ _) ⟨hlen, out, ep, r1, ?_⟩, rfl, q _ _ (I.hok.fresh (Nat.le_succ _)) r2⟩
    exact he'
theorem sorted_d : CallDN K (rSortD K) gSorted := by
  intro F H vs ds P Q e r h k
  match ds, h with
  | [.list ds], h =>
    cases r with
    | cons r1 r2 =>
      cases r2
      obtain ⟨l, xs, rfl, hl, rl⟩ := r1.list_inv
      refine ⟨F, l, xs, ds, rfl, e, hl, rl, h.1, ?_⟩
      intro p ws hp rw'
      exact k p ws _ F _ h.2 hp (fresh_back e hp) upd_same rw' (Step.lay e hp)
/-! ### a dict that a slot alone holds: ints or texts as keys, plain values -/
def vD : V → D
  | .non => .none
  | .bl b => .bool b
  | .int i => .int i
  | .str x => .str x
  | _ => .none
def plainV : V → Bool
  | .non => true
  | .bl _ => true
  | .int _ => true
  | .str _ => true
  | _ => false
theorem Rep.ofV {F : Hp} {v : V} (h : plainV v = true) : Rep K F v (vD v) := by
  cases v with
  | non => exact .non
  | bl b => exact .bl b
  | int i => exact .int i
  | str x => exact .str x
  | byt _ => cases h
  | flt _ => cases h
  | ref _ => cases h
  | ty _ => cases h
def dV : D → V
  | .none => .non
  | .bool b => .bl b
  | .int i => .int i
  | .str x => .str x
  | _ => .non
theorem Rep.toV {F : Hp} {v : V} {d : D} (r : Rep K F v d) (h : scalD d = true) : v = dV d := by
  cases r with
  | non => rfl
  | bl b => rfl
  | int i => rfl
  | str x => rfl
  | lst _ _ => cases h
  | tup _ _ => cases h
def keyD : D → Option Key
  | .int i => some (.inl i)
  | .str x => some (.inr x)
  | _ => none
theorem Rep.key {F : Hp} {v : V} {d : D} {k : Key} (r : Rep K F v d) (h : keyD d = some k) : v = kV k := by
  cases r with
  | int i =>
    cases h
    rfl
  | str x =>
    cases h
    rfl
  | non => cases h
  | bl _ => cases h
  | lst _ _ => cases h
  | tup _ _ => cases h
/-- x = {} -/
def sDict (i : Nat) : DSr := fun M ρ => M.nx (ρ.set i (.obj (.dK [])))
theorem ds_dict {i : Nat} (ps : ∀ c, PS (X c) st (tAsg tDNewK (gName i))) : DS K X st (sDict i) := by
  refine ⟨_, ps, ?_⟩
  intro c F ρ σ H M E R hd k
  intro q hq
  have st := Step.lay (o := .dK []) R.p.fh hq
  have R1 := R.step st
  refine k.nx F _ _ _ hd (Ex.refl F) ⟨R1.p.take rfl ⟨q, rfl, fresh_back R.p.fh hq, R.freshB hq, upd_same⟩ ?_, R1.b, R1.f0, R1.z, R1.cl⟩
  intro j t _ e1 o1 z
  obtain ⟨q', a, _, d⟩ := (R.p.ok j t _ e1 z).addr o1
  cases a
  exact d hq
/-- x.get(k, d) -/
def dGetK (i : Nat) (dk dx : DPr) : DPr := fun ρ P => ∃ kvs, ρ[i]? = some (.obj (.dK kvs)) ∧ dk ρ fun y => dx ρ fun z => ∃ k, keyD y = some k ∧ scalD z = true ∧ ((valV kvs k).all plainV = true) ∧ P (vD ((valV kvs k).getD (dV z)))
theorem scal_plain {d : D} (h : scalD d = true) : plainV (dV d) = true ∧ vD (dV d) = d := by
  cases d <;> first | exact ⟨rfl, rfl⟩ | cases h
theorem dp_getK {i : Nat} {f : Expr} {dk dx : DPr} (hk : DP K X b dk) (hd : DP K X f dx) (pe : ∀ c {tk tx : TE}, PE (X c) b tk → PE (X c) f tx → PE (X c) e (tDGet2 (tVar i) tk tx)) : DP K X e (dGetK i dk dx) := by
  obtain ⟨tk, pk, sk⟩ := hk
  obtain ⟨tx, px, sx⟩ := hd
  refine ⟨_, fun c => pe c (pk c) (px c), ?_⟩
  intro B F ρ σ H P Q R hd k
  obtain ⟨kvs, ho, hd⟩ := hd
  obtain ⟨p, hv, f0, b0, hl⟩ := R.objv ho
  refine ⟨_, hv, p, rfl, Or.inl ⟨kvs, Or.inl hl⟩, ?_⟩
  refine sk B F ρ σ H _ _ R hd ?_
  intro v d F1 H1 p1 r1 s1
  refine sx B F1 ρ σ H1 _ _ (R.step s1) p1 ?_
  intro w d2 F2 H2 p2 r2 s2
  obtain ⟨key, hk1, sc, pl, p2⟩ := p2
  have ew := r2.toV sc
  have ev := (r1.mono s2.ff).key hk1
  have hl2 : H2 p = some (.dK kvs) := s2.hh _ _ (s1.hh _ _ hl)
  refine ⟨valV kvs key, Or.inl ⟨kvs, key, Or.inl hl2, ev, rfl⟩, ?_⟩
  refine k _ _ F2 H2 p2 ?_ (s1.trans s2)
  rw [ew]
  refine Rep.ofV ?_
  cases q : valV kvs key with
  | none => exact (scal_plain sc).1
  | some u =>
    rw [q] at pl
    exact pl
/-- x[k] = v -/
def sPutK (i : Nat) (dv dk : EPr) : DSr := fun M ρ => dv ρ fun z ρ1 => ownsAt ρ1 i = true ∧ dk ρ1 fun y ρ2 => ∃ kvs k, ρ2[i]? = some (.obj (.dK kvs)) ∧ keyD y = some k ∧ scalD z = true ∧ kvs.length < 100000 ∧ M.nx (ρ2.set i (.obj (.dK (putK kvs k (dV z)))))
theorem ds_putK {i : Nat} {x : Expr} {dv dk : EPr} (hx : ∀ c, PE (X c) x (tVar i)) (hv : DE K X e dv) (hk : DE K X b dk)
    (ps : ∀ c {tv tk : TE}, PE (X c) x (tVar i) → PE (X c) b tk → PE (X c) e tv → PS (X c) st (sDPut (tVar i) tk tv)) : DS K X st (sPutK i dv dk) := by
  obtain ⟨tv, pv', sv⟩ := hv
  obtain ⟨tk, pk, sk⟩ := hk
  refine ⟨_, fun c => ps c (hx c) (pk c) (pv' c), ?_⟩
  intro c F ρ σ H M E R hd k
  refine sv c F ρ σ H _ _ R hd ?_
  intro v d F1 ρ1 H1 m1 r1 e1 R1
  obtain ⟨o1, m1⟩ := m1
  obtain ⟨q, hq⟩ := ownsAt_addr R1.p o1
  refine ⟨_, hq, ?_⟩
  refine sk c F1 ρ1 σ H1 _ _ R1 m1 ?_
  intro w d2 F2 ρ2 H2 m2 r2 e2 R2
  obtain ⟨kvs, key, ho, hk1, sc, hlen, m2⟩ := m2
  obtain ⟨p, hv, f0, b0, hl⟩ := R2.p.objv ho
  have ep : p = q := by
    rw [hq] at hv
    cases hv
    rfl
  subst ep
  have ev := (r1.mono e2).toV sc
  have ek := r2.key hk1
  refine ⟨p, upd H2 p (.dK (putK kvs key v)), rfl, Or.inl ⟨kvs, key, hl, ek, sz_lt hlen, rfl⟩, ?_⟩
  rw [ev]
  refine k.nx F2 _ σ _ m2 (e1.trans e2) ⟨R2.p.turn ho rfl rfl hv (Ex.refl F2) (upd_lst_step (F' := F2) (H' := H2) f0 R2.p.fh) (fun a o q z => by rw [upd_ne q]; exact z) (fun a z _ => z) ⟨p, rfl, f0, b0, upd_same⟩, ?_, R2.f0, R2.z, ?_⟩
  · intro a o q z
    have np : a ≠ p := by
      intro y
      subst y
      rw [b0] at z
      cases z
    rw [upd_ne np]
    exact R2.b a o q z
  · intro a z
    by_cases y : a = p
    · subst y
      rw [upd_same]
      exact Option.some_ne_none _
    · rw [upd_ne y]
      exact R2.cl a z
end
end Dl

set_option Elab.async false
set_option linter.all false
set_option maxRecDepth 100000
set_option maxHeartbeats 4000000
namespace Dl
open PySem PySem.Spec PyProof.Rows L2 Evl G
section
variable {i j : Int} {P : D → Prop}
theorem shaped_int : PySem.SeqAt.shaped (.int i) = true := by
  unfold PySem.SeqAt.shaped
  simp [PyData.canLay0, PyData.depth]
theorem gEq_int : gEq (.int i) (.int j) P = P (.bool (decide (i = j))) := by
  unfold gEq
  rw [shaped_int, shaped_int]
  have e : PyData.eqv (.int i) (.int j) = decide (i = j) := by
    rw [PyData.eqv]
    first
      | rfl
      | (by_cases q : i = j <;> simp [q])
  rw [e]
  simp
theorem gNe_int : gNe (.int i) (.int j) P = P (.bool (!decide (i = j))) := by
  unfold gNe
  rw [shaped_int, shaped_int]
  have e : PyData.eqv (.int i) (.int j) = decide (i = j) := by
    rw [PyData.eqv]
    first
      | rfl
      | (by_cases q : i = j <;> simp [q])
  rw [e]
  simp
end
theorem rangeD_get {n i : Nat} {d : D} (h : (rangeD 0 n)[i]? = some d) : i < n ∧ d = .int (i : Nat) := by
  unfold rangeD at h
  rw [List.getElem?_map] at h
  by_cases q : i < n
  · rw [List.getElem?_range q] at h
    refine ⟨q, ?_⟩
    cases h
    show PyData.int (0 + (i : Int)) = _
    rw [Int.zero_add]
  · rw [List.getElem?_eq_none (by simpa using q)] at h
    cases h
theorem rangeD_len (lo : Int) (n : Nat) : (rangeD lo n).length = n := by simp [rangeD]
/-- a for over range(n) -/
theorem for_range1 {di : DIr} {g : DGr} {s : DSr} {M : DEnds} {ρ : Env} {n : Int} (hdi : ∀ P : List D → Prop, P (rangeD 0 n.toNat) → di ρ P) (I : Nat → Env → Prop) (h0 : I 0 ρ)
    (ht : ∀ (i : Nat) ρ1, (i : Int) < n → I i ρ1 → g (.int (i : Nat)) ρ1 fun ρ2 => s { M with nx := I (i + 1), ct := I (i + 1), bk := M.nx } ρ2) (hd : ∀ ρ1, I n.toNat ρ1 → M.nx ρ1) : sFor di g s M ρ := by
  refine hdi _ ⟨I, h0, ?_, ?_⟩
  · intro i d ρ1 hi h
    obtain ⟨q, rfl⟩ := rangeD_get hi
    exact ht i ρ1 (by omega) h
  · intro ρ1 h
    rw [rangeD_len] at h
    exact hd ρ1 h
/-- a for over what is a list of data -/
theorem for_items {di : DIr} {g : DGr} {s : DSr} {M : DEnds} {ρ : Env} {xs : List D} (hdi : ∀ P : List D → Prop, P xs → di ρ P) (I : Nat → Env → Prop) (h0 : I 0 ρ)
    (ht : ∀ (i : Nat) d ρ1, xs[i]? = some d → I i ρ1 → g d ρ1 fun ρ2 => s { M with nx := I (i + 1), ct := I (i + 1), bk := M.nx } ρ2) (hd : ∀ ρ1, I xs.length ρ1 → M.nx ρ1) : sFor di g s M ρ :=
  hdi _ ⟨I, h0, ht, hd⟩
/-- a comprehension without draws, its test c and its element f told for each item -/
theorem lc_fun {di : DIr} {dg : DGr} {dt : DTr} {de : DPr} {vs : List Nat} {ρ : Env} {P : List D → Prop} {xs : List D} (c : D → Bool) (f : D → D) (hdi : ∀ P : List D → Prop, P xs → di ρ P) (hl : xs.length ≤ 100000)
    (ht : ∀ d ∈ xs, ∀ (B : Prop) (k : D → Prop), (c d = true → k (f d)) → (c d = false → B) → dg d (wipeD ρ vs) fun ρ' => dt ρ' fun b => if b = true then de ρ' k else B)
    (hp : P ((xs.filter c).map f)) : dLc di dg dt de vs ρ P := by
  refine hdi _ ⟨hl, fun i acc => acc = ((xs.take i).filter c).map f, rfl, ?_, ?_⟩
  · intro i d acc hi _ ha
    subst ha
    have hm : d ∈ xs := List.mem_of_getElem? hi
    have hlt := (List.getElem?_eq_some_iff.mp hi).1
    have hx : xs[i] = d := (List.getElem?_eq_some_iff.mp hi).2
    have e : xs.take (i + 1) = xs.take i ++ [d] := by
      rw [List.take_succ, hi] <;> rfl
    refine ht d hm _ _ ?_ ?_
    · intro hc
      show _ = ((xs.take (i + 1)).filter c).map f
      rw [e, List.filter_append, List.filter_cons, if_pos hc, List.map_append] <;> rfl
    · intro hc
      show _ = ((xs.take (i + 1)).filter c).map f
      rw [e, List.filter_append, List.filter_cons, if_neg (by rw [hc]; decide)]
      simp
  · intro acc _ ha
    subst ha
    rw [List.take_length]
    exact hp
end Dl

set_option Elab.async false
set_option linter.all false
set_option maxRecDepth 100000
set_option maxHeartbeats 4000000
namespace Dl
open PySem PySem.Spec PyProof.Rows L2 Evl G
def prD (p : Int × Int) : D := .tuple [.int p.1, .int p.2]
def pairLe (a b : Int × Int) : Bool := decide (a.1 < b.1 ∨ (a.1 = b.1 ∧ a.2 ≤ b.2))
theorem itemLt_int {a b : Int} : PyProof.Rows.itemLt (.inl a) (.inl b) = decide (a < b) := rfl
theorem dataLe_int {a b : Int} : PySem.W.dataLe false id (.int a) (.int b) = decide (a ≤ b) := by
  show (!PyProof.Rows.lexLt PyProof.Rows.itemOrd [.inl b] [.inl a]) = _
  simp [PyProof.Rows.lexLt, PyProof.Rows.itemOrd, PyProof.Rows.itemLt]
  rcases Int.lt_or_le b a with h | h
  · have h2 : ¬ a ≤ b := by omega
    simp [h, h2]
  · have h2 : ¬ b < a := by omega
    simp [h, h2]
theorem dataLe_pair {a b : Int × Int} : PySem.W.dataLe false id (prD a) (prD b) = pairLe a b := by
  show (!PyProof.Rows.lexLt PyProof.Rows.itemOrd [.inl 1, .inl b.1, .inl 1, .inl b.2, .inl 0] [.inl 1, .inl a.1, .inl 1, .inl a.2, .inl 0]) = _
  simp [PyProof.Rows.lexLt, PyProof.Rows.itemOrd, PyProof.Rows.itemLt, pairLe]
  rw [Bool.eq_iff_iff]
  simp
  omega
theorem pairLe_trans (a b c : Int × Int) (h1 : pairLe a b = true) (h2 : pairLe b c = true) : pairLe a c = true := by
  simp [pairLe] at *
  omega
theorem pairLe_total (a b : Int × Int) : (pairLe a b || pairLe b a) = true := by
  simp [pairLe]
  omega
theorem sorted_pairs {ps : List (Int × Int)} {P : List D → Prop} (hl : ps.length ≤ 100000) (h : ∀ L : List (Int × Int), L.Perm ps → L.Pairwise (fun a b => pairLe a b = true) → P (L.map prD)) : gSorted [.list (ps.map prD)] P := by
  refine ⟨⟨?_, Or.inl ?_, by simpa using hl, ?_⟩, ?_⟩
  · intro d hd d' hd'
    obtain ⟨p, _, rfl⟩ := List.mem_map.mp hd
    obtain ⟨q, _, rfl⟩ := List.mem_map.mp hd'
    rfl
  · intro d hd
    obtain ⟨p, _, rfl⟩ := List.mem_map.mp hd
    exact ⟨_, _, rfl⟩
  · intro d hd
    obtain ⟨p, _, rfl⟩ := List.mem_map.mp hd
    show (prD p).depth ≤ 20
    simp [prD, PyData.depth, PyData.depthAll]
  · rw [← List.map_mergeSort (r := pairLe) (fun a _ b _ => dataLe_pair.symm)]
    exact h _ (List.mergeSort_perm _ _) (List.pairwise_mergeSort pairLe_trans pairLe_total _)
theorem sorted_ints {ns : List Int} {P : List D → Prop} (hl : ns.length ≤ 100000) (h : ∀ L : List Int, L.Perm ns → L.Pairwise (fun a b => a ≤ b) → P (L.map .int)) : gSorted [.list (ns.map .int)] P := by
  refine ⟨⟨?_, Or.inr ?_, by simpa using hl, ?_⟩, ?_⟩
  · intro d hd d' hd'
    obtain ⟨p, _, rfl⟩ := List.mem_map.mp hd
    obtain ⟨q, _, rfl⟩ := List.mem_map.mp hd'
    rfl
  · intro d hd
    obtain ⟨p, _, rfl⟩ := List.mem_map.mp hd
    exact ⟨fun z => (by cases z), fun xs z => (by cases z)⟩
  · intro d hd
    obtain ⟨p, _, rfl⟩ := List.mem_map.mp hd
    show (PyData.int p).depth ≤ 20
    simp [PyData.depth]
  · rw [← List.map_mergeSort (r := fun a b => decide (a ≤ b)) (fun a _ b _ => dataLe_int.symm)]
    refine h _ (List.mergeSort_perm _ _) ?_
    refine (List.pairwise_mergeSort (le := fun a b : Int => decide (a ≤ b)) ?_ ?_ ns).imp ?_
    · intro a b c h1 h2
      simp at *
      omega
    · intro a b
      simp
      omega
    · intro a b h
      simpa using h
end Dl

set_option Elab.async false
set_option linter.all false
set_option maxRecDepth 100000
set_option maxHeartbeats 4000000
namespace Dl
open PySem PySem.Spec PyProof.Rows L2 Evl G
theorem canLay_ints : ∀ ns : List Int, PyData.canLayAll0 (ns.map PyData.int) = true
  | [] => by simp [PyData.canLayAll0]
  | n :: r => by simp [PyData.canLayAll0, PyData.canLay0, canLay_ints r]
theorem depth_ints : ∀ ns : List Int, PyData.depthAll (ns.map PyData.int) ≤ 1
  | [] => by simp [PyData.depthAll]
  | n :: r => by
    have := depth_ints r
    simp [PyData.depthAll, PyData.depth]
    omega
theorem shaped_ints (ns : List Int) : PySem.SeqAt.shaped (.list (ns.map PyData.int)) = true := by
  unfold PySem.SeqAt.shaped
  have := depth_ints ns
  simp [PyData.canLay0, PyData.depth, canLay_ints]
  omega
theorem eqv_ints : ∀ ns ms : List Int, PyData.eqvAll (ns.map PyData.int) (ms.map PyData.int) = decide (ns = ms)
  | [], [] => by simp [PyData.eqvAll]
  | [], _ :: _ => by simp [PyData.eqvAll]
  | _ :: _, [] => by simp [PyData.eqvAll]
  | n :: r, m :: t => by
    simp [PyData.eqvAll, PyData.eqv, eqv_ints r t]
    rw [Bool.eq_iff_iff]
    simp
theorem gEq_ints {ns ms : List Int} {P : D → Prop} : gEq (.list (ns.map PyData.int)) (.list (ms.map PyData.int)) P = P (.bool (decide (ns = ms))) := by
  unfold gEq
  rw [shaped_ints, shaped_ints, PyData.eqv, eqv_ints]
  simp
theorem gNe_ints {ns ms : List Int} {P : D → Prop} : gNe (.list (ns.map PyData.int)) (.list (ms.map PyData.int)) P = P (.bool (!decide (ns = ms))) := by
  unfold gNe
  rw [shaped_ints, shaped_ints, PyData.eqv, eqv_ints]
  simp
theorem gEq_str {a b : Str} {P : D → Prop} : gEq (.str a) (.str b) P = P (.bool (decide (a = b))) := by
  unfold gEq
  rw [PyData.eqv]
  simp [isStr]
  rw [show (a == b) = decide (a = b) by rw [Bool.eq_iff_iff]; simp]
theorem gNe_str {a b : Str} {P : D → Prop} : gNe (.str a) (.str b) P = P (.bool (!decide (a = b))) := by
  unfold gNe
  rw [PyData.eqv]
  simp [isStr]
  rw [show (a == b) = decide (a = b) by rw [Bool.eq_iff_iff]; simp]
end Dl

set_option Elab.async false
set_option linter.all false
set_option maxRecDepth 100000
set_option maxHeartbeats 4000000
namespace Dl
open PySem PySem.Spec PyProof.Rows L2 Evl G
/-! ### two new lists in a list that are appended to, and forgotten: kept, told = e1, [n1, n2]; again = e2; if t3: return False; for some in told: some.append(None); return e5 -/
def toldTS (K : PySem.W.Frag) (t1 u1 u2 t2 : TE) (t3 : TT) (t5 : TE) : TS :=
  tSeq (tPar 3 4 (tCons t1 (tCons (tLst (tCons u1 (tCons u2 tNil))) tNil)))
    (tSeq (tAsg t2 (L2.gName 5)) (tSeq (tIfS t3 (tRet (tC (.bl false))) tNext)
      (tSeq (tFor (iList K (tVar 4)) (L2.gName 6) (tDrop (tBM K "list" rAppend (tVar 6) (tCons (tC .non) tNil)))) (tRet t5))))
theorem told_run {K : PySem.W.Frag} {t1 u1 u2 t2 t5 : TE} {t3 : TT} {a1 a2 a5 : DPr} {b1 b2 : DAr} {d3 : DTr} (s1 : SimP K t1 a1) (n1 : SimN K u1 b1) (n2 : SimN K u2 b2) (s2 : SimP K t2 a2) (s3 : SimT K t3 d3) (s5 : SimP K t5 a5)
    {F H : Hp} {v0 v1 v2 : V} {w0 w1 w2 : D} {Q : VK} {P : D → Prop} (e : Ex F H) (r0 : Rep K F v0 w0) (r1 : Rep K F v1 w1) (r2 : Rep K F v2 w2)
    (h : a1 [.dat w0, .dat w1, .dat w2, .no, .no, .no, .no] fun k => scalD k = true ∧ b1 [.dat w0, .dat w1, .dat w2, .no, .no, .no, .no] fun xs => xs.length ≤ 1000 ∧ b2 [.dat w0, .dat w1, .dat w2, .no, .no, .no, .no] fun ys => ys.length ≤ 1000 ∧
      a2 [.dat w0, .dat w1, .dat w2, .dat k, .dat (.list [.list xs, .list ys]), .no, .no] fun ag => d3 [.dat w0, .dat w1, .dat w2, .dat k, .dat (.list [.list xs, .list ys]), .dat ag, .no] fun b =>
        if b = true then P (.bool false) else a5 [.dat w0, .dat w1, .dat w2, .dat k, .any, .any, .any] P)
    (kont : ∀ v d F' H', P d → Rep K F' v d → Step F H F' H' → Q v H') (E : Ends) (hE : E.rt = Q) :
    toldTS K t1 u1 u2 t2 t3 t5 E [some v0, some v1, some v2, none, none, none, none] H := by
  have R0 : RelP K ⟨F, H, none⟩ F [.dat w0, .dat w1, .dat w2, .no, .no, .no, .no] [some v0, some v1, some v2, none, none, none, none] H := by
    refine ⟨e, rfl, ?_, ?_⟩
    · intro i s o h1 h2
      match i with
      | 0 => cases h1; cases h2; exact ⟨v0, rfl, r0⟩
      | 1 => cases h1; cases h2; exact ⟨v1, rfl, r1⟩
      | 2 => cases h1; cases h2; exact ⟨v2, rfl, r2⟩
      | 3 => cases h1; cases h2; exact rfl
      | 4 => cases h1; cases h2; exact rfl
      | 5 => cases h1; cases h2; exact rfl
      | 6 => cases h1; cases h2; exact rfl
      | i + 7 => simp at h1
    · intro i j s t p hij h1 h2 o1
      match i with
      | 0 => cases h1; cases o1
      | 1 => cases h1; cases o1
      | 2 => cases h1; cases o1
      | 3 => cases h1; cases o1
      | 4 => cases h1; cases o1
      | 5 => cases h1; cases o1
      | 6 => cases h1; cases o1
      | i + 7 => simp at h1
  -- kept, told
  refine s1 _ F _ _ H _ _ R0 h ?_
  intro vk k F1 H1 m1 rk st1
  obtain ⟨sk, m1⟩ := m1
  refine n1 _ F1 _ _ H1 _ _ (R0.step st1) m1 ?_
  intro p1 vs1 xs F2 H2 m2 hp1 fp1 hl1 rx st2
  obtain ⟨lx1, m2⟩ := m2
  have st2' := st2.freeze hp1 hl1
  have rx' : Rep K (upd F2 p1 (.lst vs1)) (.ref p1) (.list xs) := .lst (Or.inl (Or.inl upd_same)) (rx.mono (Ex.new fp1))
  have st12 := st1.trans st2'
  refine n2 _ _ _ _ H2 _ _ (R0.step st12) m2 ?_
  intro p2 vs2 ys F3 H3 m3 hp2 fp2 hl2 ry st3
  obtain ⟨ly1, m3⟩ := m3
  have st3' := st3.freeze hp2 hl2
  have ry' : Rep K (upd F3 p2 (.lst vs2)) (.ref p2) (.list ys) := .lst (Or.inl (Or.inl upd_same)) (ry.mono (Ex.new fp2))
  have st13 := st12.trans st3'
  refine ⟨(show 2 ≤ sizeLine by decide), ?_⟩
  intro q hq
  have st4 := Step.new (o := .lst [.ref p1, .ref p2]) st13.fh hq
  have st14 := st13.trans st4
  have rt : Rep K (upd (upd F3 p2 (.lst vs2)) q (.lst [.ref p1, .ref p2])) (.ref q) (.list [.list xs, .list ys]) :=
    .lst (Or.inl (Or.inl upd_same)) (.cons (rx'.mono (st3'.ff.trans st4.ff)) (.cons (ry'.mono st4.ff) .nil))
  refine ⟨vk, .ref q, rfl, ?_⟩
  have R1 := ((R0.step st14).dat (i := 3) (rk.mono (st2'.ff.trans (st3'.ff.trans st4.ff)))).dat (i := 4) rt
  -- again
  refine s2 _ _ _ _ _ _ _ R1 m3 ?_
  intro va ag F5 H5 m5 ra st5
  have R2 := (R1.step st5).dat (i := 5) ra
  -- if
  refine s3 _ _ _ _ _ _ _ R2 m5 ?_
  intro b F6 H6 m6 st6
  have st := (st14.trans st5).trans st6
  cases b with
  | true =>
    have m6 : P (.bool false) := m6
    show E.rt (.bl false) H6
    rw [hE]
    exact kont _ _ _ _ m6 (.bl false) st
  | false =>
    have m6 : a5 _ P := m6
    -- the loop
    have hq6 : H6 q = some (.lst [.ref p1, .ref p2]) := st6.hh _ _ (st5.hh _ _ upd_same)
    have h16 : H6 p1 = some (.lst vs1) := st6.hh _ _ (st5.hh _ _ (st4.hh _ _ (st3.hh _ _ hl1)))
    have h26 : H6 p2 = some (.lst vs2) := st6.hh _ _ (st5.hh _ _ (st4.hh _ _ hl2))
    have nq1 : q ≠ p1 := fun z => by
      have := st3.hh _ _ hl1
      rw [← z, hq] at this
      cases this
    have nq2 : q ≠ p2 := fun z => by
      rw [← z, hq] at hl2
      cases hl2
    have n12 : p1 ≠ p2 := fun z => by
      rw [← z] at hp2
      rw [hp2] at hl1
      cases hl1
    have base : ∀ a, H a ≠ none → a ≠ p1 ∧ a ≠ p2 := by
      intro a ha
      refine ⟨fun z => ?_, fun z => ?_⟩
      · subst z
        exact ex_some st1.hh ha hp1
      · subst z
        exact ex_some st12.hh ha hp2
    refine ⟨.ref q, rfl, q, rfl, ⟨_, .inl (.inl hq6)⟩, ?_⟩
    refine ⟨fun i m σ' H' => m = 2 - i ∧ i ≤ 2 ∧ (∃ x, σ' = [some v0, some v1, some v2, some vk, some (.ref q), some va, x]) ∧ (∀ a o, a ≠ p1 → a ≠ p2 → H6 a = some o → H' a = some o) ∧
      (∃ ws, H' p1 = some (.lst ws) ∧ ws.length ≤ 1000 + i) ∧ (∃ ws, H' p2 = some (.lst ws) ∧ ws.length ≤ 1000 + i),
      ⟨2, rfl, by decide, ⟨_, rfl⟩, fun a o _ _ z => z, ⟨_, h16, by rw [rx.length]; omega⟩, ⟨_, h26, by rw [ry.length]; omega⟩⟩, ?_⟩
    rintro i m σ' H' ⟨rfl, hi, ⟨x, rfl⟩, keep, ⟨ws1, e1, l1⟩, ⟨ws2, e2, l2⟩⟩
    have hq' : SqL K H' q [.ref p1, .ref p2] := .inl (.inl (keep q _ nq1 nq2 hq6))
    have szl : (2001 : Nat) < sizeLine := by decide
    match i, hi with
    | 2, _ =>
      left
      refine ⟨⟨_, hq', Nat.le_refl _⟩, ?_⟩
      -- what is told behind the loop
      have ex7 : Ex H H' := fun a o z => by
        obtain ⟨c1, c2⟩ := base a (by rw [z]; exact Option.some_ne_none _)
        exact keep a o c1 c2 (st.hh a o z)
      have R3 : RelP K ⟨F, H, none⟩ F [.dat w0, .dat w1, .dat w2, .dat k, .any, .any, .any] [some v0, some v1, some v2, some vk, some (.ref q), some va, x] H' := by
        refine ⟨e.trans ex7, rfl, ?_, ?_⟩
        · intro i s o h1 h2
          match i with
          | 0 => cases h1; cases h2; exact ⟨v0, rfl, r0⟩
          | 1 => cases h1; cases h2; exact ⟨v1, rfl, r1⟩
          | 2 => cases h1; cases h2; exact ⟨v2, rfl, r2⟩
          | 3 =>
            cases h1
            cases h2
            have := rk.toV sk
            subst this
            refine ⟨_, rfl, ?_⟩
            have := Rep.ofV (K := K) (F := F) (scal_plain sk).1
            rw [(scal_plain sk).2] at this
            exact this
          | 4 => cases h1; exact True.intro
          | 5 => cases h1; exact True.intro
          | 6 => cases h1; exact True.intro
          | i + 7 => simp at h1
        · intro i j s t p hij h1 h2 o1
          match i with
          | 0 => cases h1; cases o1
          | 1 => cases h1; cases o1
          | 2 => cases h1; cases o1
          | 3 => cases h1; cases o1
          | 4 => cases h1; cases o1
          | 5 => cases h1; cases o1
          | 6 => cases h1; cases o1
          | i + 7 => simp at h1
      show t5 _ _ E.rt
      rw [hE]
      refine s5 _ F _ _ H' _ _ R3 m6 ?_
      intro v d F8 H8 m8 r8 st8
      exact kont v d F8 H8 m8 r8 ⟨st8.ff, st8.fh, ex7.trans st8.hh, fun a f1 f2 => st8.nn a f1 (ex_some ex7 f2)⟩
    | 0, _ =>
      right
      refine ⟨⟨_, _, hq', rfl⟩, fun σ'' H'' => (∃ x, σ'' = [some v0, some v1, some v2, some vk, some (.ref q), some va, x]) ∧ (∀ a o, a ≠ p1 → a ≠ p2 → H6 a = some o → H'' a = some o) ∧
        (∃ ws, H'' p1 = some (.lst ws) ∧ ws.length ≤ 1000 + 1) ∧ (∃ ws, H'' p2 = some (.lst ws) ∧ ws.length ≤ 1000 + 1), ?_, ?_⟩
      · rintro σ'' H'' ⟨c1, c2, c3, c4⟩
        exact ⟨1, by decide, rfl, by decide, c1, c2, c3, c4⟩
      · rintro y H'' ⟨rfl, hy⟩
        have hy2 := hy _ hq'
        cases hy2
        refine ⟨.ref p1, rfl, Or.inl ⟨rfl, ws1, Or.inl (Or.inl e1)⟩, ?_⟩
        refine ⟨p1, ws1, .non, rfl, rfl, e1, by omega, ?_⟩
        refine ⟨⟨_, rfl⟩, ?_, ⟨_, upd_same, by simp; omega⟩, ⟨_, by rw [upd_ne n12.symm]; exact e2, by omega⟩⟩
        intro a o c1 c2 c3
        rw [upd_ne c1]
        exact keep a o c1 c2 c3
    | 1, _ =>
      right
      refine ⟨⟨_, _, hq', rfl⟩, fun σ'' H'' => (∃ x, σ'' = [some v0, some v1, some v2, some vk, some (.ref q), some va, x]) ∧ (∀ a o, a ≠ p1 → a ≠ p2 → H6 a = some o → H'' a = some o) ∧
        (∃ ws, H'' p1 = some (.lst ws) ∧ ws.length ≤ 1000 + 2) ∧ (∃ ws, H'' p2 = some (.lst ws) ∧ ws.length ≤ 1000 + 2), ?_, ?_⟩
      · rintro σ'' H'' ⟨c1, c2, c3, c4⟩
        exact ⟨0, by decide, rfl, by decide, c1, c2, c3, c4⟩
      · rintro y H'' ⟨rfl, hy⟩
        have hy2 := hy _ hq'
        cases hy2
        refine ⟨.ref p2, rfl, Or.inl ⟨rfl, ws2, Or.inl (Or.inl e2)⟩, ?_⟩
        refine ⟨p2, ws2, .non, rfl, rfl, e2, by omega, ?_⟩
        refine ⟨⟨_, rfl⟩, ?_, ⟨_, by rw [upd_ne n12]; exact e1, by omega⟩, ⟨_, upd_same, by simp; omega⟩⟩
        intro a o c1 c2 c3
        rw [upd_ne c2]
        exact keep a o c1 c2 c3
end Dl
namespace Dl
open PySem PySem.Spec PyProof.Rows L2 Evl G
def asgV : Stmt → Expr
  | .Assign _ e _ => e
  | .Return (some e) _ => e
  | .If c _ _ _ => c
  | _ => .Constant .none 0 ⟨0, 0, 0, 0⟩
def tupI (i : Nat) : Expr → Expr
  | .Tuple es _ _ => es.getD i (.Constant .none 0 ⟨0, 0, 0, 0⟩)
  | .List es _ => es.getD i (.Constant .none 0 ⟨0, 0, 0, 0⟩)
  | _ => .Constant .none 0 ⟨0, 0, 0, 0⟩
def bodyI (i : Nat) (st : Stmt) : Stmt := (defBody st).getD i (.Pass ⟨0, 0, 0, 0⟩)
theorem fn_told {P : Program} {w : World} {K : PySem.W.Frag} {mg : Str → Option Value} {base : Heap} {x qual : Str} {st : Stmt} {f : Addr} {fd : FuncData} {N ps : List Str} {k : Nat} {dp : List D → (D → Prop) → Prop} {a1 a2 a5 : DPr} {b1 b2 : DAr} {d3 : DTr}
    (Fn : Fun K x qual st f fd) (S : FnScope N ps (defScope st)) (hN : N.length = 7) (hps : ps.length = 3) (len : ∀ ds Q, dp ds Q → ds.length = 3)
    (der : ∀ (cdv : Value) (A : Around) (outer : List PySem.Env) (s : Shared) (H : Hp) (E : XK), A.guards = some [] → Room k (A.deeper (envOfC qual (defScope st) s.heap.objs.size f cdv)) →
      ∃ t1 u1 u2 t2 t3 t5, PSs (cxOf L2.CX0 P w K mg base N qual (defScope st) f cdv A outer s H E).nox (defBody st) (toldTS K t1 u1 u2 t2 t3 t5) ∧ SimP K t1 a1 ∧ SimN K u1 b1 ∧ SimN K u2 b2 ∧ SimP K t2 a2 ∧ SimT K t3 d3 ∧ SimP K t5 a5)
    (sem : ∀ w0 w1 w2 (R : D → Prop), dp [w0, w1, w2] R → a1 [.dat w0, .dat w1, .dat w2, .no, .no, .no, .no] fun k => scalD k = true ∧ b1 [.dat w0, .dat w1, .dat w2, .no, .no, .no, .no] fun xs => xs.length ≤ 1000 ∧ b2 [.dat w0, .dat w1, .dat w2, .no, .no, .no, .no] fun ys => ys.length ≤ 1000 ∧
      a2 [.dat w0, .dat w1, .dat w2, .dat k, .dat (.list [.list xs, .list ys]), .no, .no] fun ag => d3 [.dat w0, .dat w1, .dat w2, .dat k, .dat (.list [.list xs, .list ys]), .dat ag, .no] fun b =>
        if b = true then R (.bool false) else a5 [.dat w0, .dat w1, .dat w2, .dat k, .any, .any, .any] R) : FnG P w K mg base L2.CX0 (k + 1) f fd ps (spP K dp) := by
  obtain ⟨oc, od, kV, doc, pm, an, cdv, ct, osl, rfl, lk, hcd⟩ := Fn.ex
  refine fnG_of lk hcd S ?_ ?_
  · rintro vs H Q E ⟨F, ds, R, e, r, h, k⟩
    rw [r.length, hps]
    exact len ds R h
  · rintro A outer s H vs Q E hgd hr ⟨F, ds, R, e, r, h, kont⟩
    obtain ⟨t1, u1, u2, t2, t3, t5, pp, h1, h2, h3, h4, h5, h6⟩ := der cdv A outer s H E hgd hr
    refine ⟨_, pp.nox, ?_⟩
    have hl := len ds R h
    match ds, hl with
    | [w0, w1, w2], _ =>
      cases r with
      | cons r0 r =>
        cases r with
        | cons r1 r =>
          cases r with
          | cons r2 r =>
            cases r
            have e0 : ∀ v0 v1 v2 : V, L2.start N [v0, v1, v2] = [some v0, some v1, some v2, none, none, none, none] := by
              intro v0 v1 v2
              unfold L2.start
              rw [hN]
              rfl
            rw [e0]
            exact told_run h1 h2 h3 h4 h5 h6 e r0 r1 r2 (sem _ _ _ R h) (fun v d F' H' m rv st => kont v d F' H' m rv st) _ rfl
end Dl
namespace Dl
open PySem PySem.Spec PyProof.Rows L2 Evl G
section
variable {ι : Type} {K : PySem.W.Frag} {X : ι → Cx} {e : Expr} {kws : List Keyword}
/-- f(k = v, ..) of a def that hands back a new list -/
def dCallNK (n : Nat) (pm : {α : Type} → List α → List α) (dn : List D → (List D → Prop) → Prop) (dr : DAr) : DAr := fun ρ P => dr ρ fun ds => ds.length = n ∧ dn (pm ds) P
theorem dn_fnK {dn : List D → (List D → Prop) → Prop} {dr : DAr} {E : XK} {ks : List Str} {pm : {α : Type} → List α → List α} (ha : DK K X kws dr) (hpm : ∀ {F : Hp} {vs : List V} {ds : List D}, ds.length = ks.length → Reps K F vs ds → Reps K F (pm vs) (pm ds))
    (pe : ∀ c {ta : TA}, PK (X c) kws ta → PE (X c) e (tCallGK (spN K dn) pm ks.length E ta)) : DN K X e (dCallNK ks.length pm dn dr) := by
  obtain ⟨ta, pa, sa⟩ := ha
  refine ⟨_, fun c => pe c (pa c), ?_⟩
  intro B F ρ σ H P Q R hd k
  refine sa B F ρ σ H _ _ R hd ?_
  intro vs ds F1 H1 p1 r1 s1
  refine ⟨by rw [r1.length]; exact p1.1, F1, pm ds, P, s1.fh, hpm p1.1 r1, p1.2, ?_⟩
  intro p vs xs F2 H2 p2 h0 f0 hl rs s2
  exact k p vs xs F2 H2 p2 (fresh_back s1.hh h0) f0 hl rs (s1.trans s2)
end
end Dl

set_option Elab.async false
set_option linter.all false
set_option maxRecDepth 100000
set_option maxHeartbeats 4000000
namespace Dl
open PySem PySem.Spec PyProof.Rows L2 Evl G
/-! ### data whose repr is short -/
structure Sm (k n : Nat) (d : D) : Prop where
  lay : d.canLay0 = true
  shrt : d.intsShort 41 = true
  show_ : d.showable = true
  dep : d.depth ≤ k
  wei : d.weight ≤ n
theorem Sm.mono {k n k' n' : Nat} {d : D} (h : Sm k n d) (hk : k ≤ k') (hn : n ≤ n') : Sm k' n' d := ⟨h.lay, h.shrt, h.show_, Nat.le_trans h.dep hk, Nat.le_trans h.wei hn⟩
theorem sm_int {i : Int} (h : i.natAbs < 10 ^ 40) : Sm 1 140 (.int i) := by
  have e : (PyData.shown (.int i)).length ≤ 41 := by
    have e := int_text_length_le10 (k := 40) (by decide) h
    show (Str.ofString (toString i)).length ≤ 41
    rw [PySem.ofString_length]
    exact e
  have lg : i.natAbs = 0 ∨ i.natAbs.log2 < 133 := by
    by_cases z : i.natAbs = 0
    · exact Or.inl z
    · exact Or.inr ((Nat.log2_lt z).mpr (Nat.lt_trans h (by decide)))
  refine ⟨by simp only [PyData.canLay0], by simp only [PyData.intsShort]; exact decide_eq_true e, ?_, by simp [PyData.depth], ?_⟩
  · simp only [PyData.showable]
    refine decide_eq_true ?_
    rcases lg with z | z
    · rw [z]
      decide
    · omega
  · simp only [PyData.weight]
    split
    · omega
    · rename_i q
      rcases lg with z | z
      · simp at q
        omega
      · omega
theorem sm_all {k n : Nat} : ∀ {xs : List D}, (∀ x ∈ xs, Sm k n x) → PyData.canLayAll0 xs = true ∧ PyData.intsShortAll 41 xs = true ∧ PyData.showableAll xs = true ∧ PyData.depthAll xs ≤ k ∧ PyData.weightAll xs ≤ xs.length * (n + 1)
  | [], _ => by simp [PyData.canLayAll0, PyData.intsShortAll, PyData.showableAll, PyData.depthAll, PyData.weightAll]
  | x :: xs, h => by
    obtain ⟨a, b, c, d, e⟩ := sm_all fun y hy => h y (List.mem_cons_of_mem _ hy)
    have hx := h x List.mem_cons_self
    refine ⟨by simp [PyData.canLayAll0, a, hx.lay], by simp [PyData.intsShortAll, b, hx.shrt], by simp [PyData.showableAll, c, hx.show_], ?_, ?_⟩
    · simp only [PyData.depthAll]
      have := hx.dep
      omega
    · simp only [PyData.weightAll, List.length_cons]
      have := hx.wei
      have e2 : (xs.length + 1) * (n + 1) = xs.length * (n + 1) + (n + 1) := by rw [Nat.add_mul, Nat.one_mul]
      omega
theorem sm_list {k n : Nat} {xs : List D} (h : ∀ x ∈ xs, Sm k n x) : Sm (k + 1) (xs.length * (n + 1)) (.list xs) := by
  obtain ⟨a, b, c, d, e⟩ := sm_all h
  exact ⟨by simpa only [PyData.canLay0] using a, by simpa only [PyData.intsShort] using b, by simpa only [PyData.showable] using c, by simp only [PyData.depth]; omega, by simpa only [PyData.weight] using e⟩
theorem sm_tup {k n : Nat} {xs : List D} (h : ∀ x ∈ xs, Sm k n x) : Sm (k + 1) (xs.length * (n + 1)) (.tuple xs) := by
  obtain ⟨a, b, c, d, e⟩ := sm_all h
  exact ⟨by simpa only [PyData.canLay0] using a, by simpa only [PyData.intsShort] using b, by simpa only [PyData.showable] using c, by simp only [PyData.depth]; omega, by simpa only [PyData.weight] using e⟩
theorem run_repr {n : Nat} {ds : List D} {P : D → Prop} (h : Sm 20 n (.list ds)) (hn : n ≤ 300000) (k : P (.str (PyData.shown (.list ds)))) : gRepr [.list ds] P := by
  refine ⟨⟨h.show_, PyData.hasDict_of_canLay _ h.lay, h.dep, ?_⟩, k⟩
  have e := PyData.shown_le 41 (by decide) (.list ds) (PyData.leavesShort_of_canLay0 41 _ h.lay h.shrt)
  have w := h.wei
  have z : sizeLine = 16777216 := by decide
  omega
end Dl

set_option Elab.async false
set_option linter.all false
set_option maxRecDepth 100000
set_option maxHeartbeats 4000000
namespace Ez
open PySem PySem.Spec PyProof.Rows L2
/-! a zip of two lists whose last pair is held by nobody, by the heap's own word: one more step of it -/
abbrev Zp (h : Heap) (z TI TO : Addr) (g : Value) (f : Bool) : Prop :=
  h.get? z = some { cls := .type "zip", dict := none, data := .fields #[g, .bool f, .bool false, .ref TI, .ref TO], slots := #[] }
section
variable {prog : Program} {w : World} {A : Around} {E : Value → Shared → Prop} {s : Shared}
/-- nobody holds the pair -/
def Lone (g : Value) (h : Heap) : Prop := g = .none ∨ ∃ T : Addr, g = rawInt T ∧ h.get? T = none
theorem lone_free {z TI TO : Addr} {g : Value} {f : Bool} {Q : Bool → Shared → Prop} (hz : Zp s.heap z TI TO g f) (hl : Lone g s.heap) (q : Q true s) :
    wpAny (model prog w) A (Builtin.SmallTypes.ownedTupleIsFree (.ref z)) Q E s := by
  unfold Builtin.SmallTypes.ownedTupleIsFree
  rcases hl with rfl | ⟨T, rfl, hT⟩
  · exact wpAny_bind (wpAny_field hz rfl (x := .none) rfl (wpAny_pure q))
  · refine wpAny_bind (wpAny_field hz rfl (x := rawInt T) rfl ?_)
    show wpAny _ _ (loadIfAlive ((T : Int).toNat) >>= _) _ _ _
    rw [Int.toNat_natCast]
    have e0 : wpAny (model prog w) A (loadIfAlive T) (fun o s1 => o = none ∧ s1 = s) E s := by
      have h' : (fun (o : Option Obj) (s1 : Shared) => o = none ∧ s1 = s) (s.heap.get? T) s := ⟨hT, rfl⟩
      exact fun _ _ _ => h'
    refine wpAny_bind (thn e0 ?_)
    rintro o s1 ⟨rfl, rfl⟩
    simp only [Option.isNone_none, if_true]
    exact wpAny_pure q
theorem lone_item {z TI TO i1 i2 l1 l2 : Addr} {g : Value} {f : Bool} {m n : Nat} {as bs : Array Value} {x y p q : Value} {Q : Value → Shared → Prop} (D : ZipApart z TI TO i1 i2 l1 l2)
    (hz : Zp s.heap z TI TO g f) (hl : Lone g s.heap) (pI : IsPair s.heap TI (.ref i1) (.ref i2)) (pO : IsPair s.heap TO p q)
    (r1 : s.heap.IsListIter i1 l1 m) (r2 : s.heap.IsListIter i2 l2 n) (a1 : s.heap.IsList l1 as) (a2 : s.heap.IsList l2 bs) (ex : as[m]? = some x) (ey : bs[n]? = some y)
    (k : ∀ h', Zp h' z TI TO (rawInt s.heap.objs.size) false → IsPair h' TO x y → h'.IsListIter i1 l1 (m + 1) → h'.IsListIter i2 l2 (n + 1) → IsPair h' s.heap.objs.size x y → h'.objs.size = s.heap.objs.size + 1 →
      (∀ c o, c ≠ z → c ≠ TO → c ≠ i1 → c ≠ i2 → s.heap.get? c = some o → h'.get? c = some o) → Q (.ref s.heap.objs.size) { s with heap := h' }) :
    wpAny (model prog w) A (Builtin.«zip.__next__» ⟨[.ref z], []⟩) (fun fin s' => ∃ v, fin = .done (.ret v) ∧ Q v s') E s := by
  show wpAny _ _ (field (.ref z) 2 >>= _) _ _ _
  refine wpAny_bind (wpAny_field hz rfl (x := Value.bool false) rfl ?_)
  show wpAny _ _ (field (.ref z) 3 >>= _) _ _ _
  refine wpAny_bind (wpAny_field hz rfl (x := Value.ref TI) rfl ?_)
  refine wpAny_bind (wpAny_seqItems pI rfl ?_)
  show wpAny _ _ (Builtin.SmallTypes.ownedTupleIsFree (.ref z) >>= _) _ _ _
  refine wpAny_bind (lone_free hz hl ?_)
  simp only [if_true]
  refine wpAny_bind (wpAny_rule ?_)
  refine wpAny_bind (wpAny_field hz rfl (x := Value.ref TO) rfl ?_)
  refine wpAny_bind (wpAny_setField_rec hz (by simp) fun g1 z1 b1 => ?_)
  replace z1 : Zp g1 z TI TO .ellipsis f := z1
  refine wpAny_bind ?_
  simp only [List.zipIdx_cons, List.zipIdx_nil, List.forIn_cons, List.forIn_nil]
  refine wpAny_bind (wpAny_bind (wpAny_onRaise ?_))
  show wpAny _ _ (Builtin.SmallTypes.nextOf (.ref i1) >>= _) _ _ _
  refine wpAny_bind (wpAny_nextOf_list_item (r1.extBut b1.extBut D.i1z) (a1.extBut b1.extBut D.l1z) ex fun g2 r12 b2 => wpAny_pure ?_)
  have pO2 : IsPair g2 TO p q := b2.extBut _ _ D.TOi1 (b1.extBut _ _ D.TOz pO)
  refine wpAny_bind (wpAny_seqItems pO2 rfl ?_)
  refine wpAny_bind (wpAny_updateSeq_pair pO2 fun g3 pO3 b3 => ?_)
  replace pO3 : IsPair g3 TO x q := pO3
  refine wpAny_bind (wpAny_letGo (wpAny_pure ?_))
  refine wpAny_bind (wpAny_bind (wpAny_onRaise ?_))
  show wpAny _ _ (Builtin.SmallTypes.nextOf (.ref i2) >>= _) _ _ _
  have r23 := ((r2.extBut b1.extBut D.i2z).extBut b2.extBut D.i12.symm).extBut b3.extBut D.TOi2.symm
  have a23 := ((a2.extBut b1.extBut D.l2z).extBut b2.extBut D.l2i1).extBut b3.extBut D.l2TO
  refine wpAny_bind (wpAny_nextOf_list_item r23 a23 ey fun g4 r24 b4 => wpAny_pure ?_)
  have pO4 : IsPair g4 TO x q := b4.extBut _ _ D.TOi2 pO3
  refine wpAny_bind (wpAny_seqItems pO4 rfl ?_)
  refine wpAny_bind (wpAny_updateSeq_pair pO4 fun g5 pO5 b5 => ?_)
  replace pO5 : IsPair g5 TO x y := pO5
  refine wpAny_bind (wpAny_letGo (wpAny_pure (wpAny_pure ?_)))
  refine wpAny_bind (wpAny_seqItems pO5 rfl ?_)
  refine wpAny_bind (wpAny_newTuple ?_)
  have sz5 : g5.objs.size = s.heap.objs.size := by rw [b5.1, b4.1, b3.1, b2.1, b1.1]
  have z5 : Zp g5 z TI TO .ellipsis f := b5.extBut _ _ D.TOz.symm (b4.extBut _ _ D.i2z.symm (b3.extBut _ _ D.TOz.symm (b2.extBut _ _ D.i1z.symm z1)))
  have kp5 : ∀ c o, c ≠ z → c ≠ TO → c ≠ i1 → c ≠ i2 → s.heap.get? c = some o → g5.get? c = some o := fun c o n1 n2 n3 n4 e =>
    b5.extBut _ _ n2 (b4.extBut _ _ n4 (b3.extBut _ _ n2 (b2.extBut _ _ n3 (b1.extBut _ _ n1 e))))
  have r15 : g5.IsListIter i1 l1 (m + 1) := ((r12.extBut b3.extBut D.TOi1.symm).extBut b4.extBut D.i12).extBut b5.extBut D.TOi1.symm
  have r25 : g5.IsListIter i2 l2 (n + 1) := r24.extBut b5.extBut D.TOi2.symm
  have lz : z < g5.objs.size := Heap.lt_size z5
  show wpAny _ _ (Builtin.SmallTypes.ownedTupleHandOut (.ref z) (.ref g5.objs.size) >>= _) _ _ _
  refine wpAny_bind ?_
  unfold Builtin.SmallTypes.ownedTupleHandOut
  have z6 : Zp (g5.push { cls := .type "tuple", data := .seq #[x, y] }) z TI TO .ellipsis f := Heap.get?_push_of_some _ z5
  refine wpAny_bind (wpAny_setField_rec z6 (by simp) fun g7 z7 b7 => ?_)
  replace z7 : Zp g7 z TI TO (rawInt g5.objs.size) f := z7
  refine wpAny_setField_rec z7 (by simp) fun g8 z8 b8 => ?_
  replace z8 : Zp g8 z TI TO (rawInt g5.objs.size) false := z8
  have on : ∀ c o, c ≠ z → g5.get? c = some o → g8.get? c = some o := fun c o n1 e => b8.extBut _ _ n1 (b7.extBut _ _ n1 (Heap.get?_push_of_some _ e))
  have pT : IsPair g8 g5.objs.size x y := b8.extBut _ _ (Nat.ne_of_gt lz) (b7.extBut _ _ (Nat.ne_of_gt lz) (Heap.get?_push_size _ rfl))
  have sz8 : g8.objs.size = g5.objs.size + 1 := by rw [b8.1, b7.1, Heap.size_push]
  rw [sz5] at z8 pT sz8
  refine wpAny_pure ⟨_, rfl, ?_⟩
  show Q (.ref g5.objs.size) _
  rw [sz5]
  exact k g8 z8 (on _ _ D.TOz pO5) (r15.at fun o e => on _ o D.i1z e) (r25.at fun o e => on _ o D.i2z e) pT sz8 fun c o n1 n2 n3 n4 e => on c o n1 (kp5 c o n1 n2 n3 n4 e)
theorem lone_end {z TI TO i1 i2 l1 l2 : Addr} {g : Value} {f : Bool} {m n : Nat} {as bs : Array Value} {p q : Value} {Q : Fin → Shared → Prop} (hh : A.handled = none) (D : ZipApart z TI TO i1 i2 l1 l2)
    (hz : Zp s.heap z TI TO g f) (hl : Lone g s.heap) (pI : IsPair s.heap TI (.ref i1) (.ref i2)) (pO : IsPair s.heap TO p q)
    (r1 : s.heap.IsListIter i1 l1 m) (r2 : s.heap.IsListIter i2 l2 n) (a1 : s.heap.IsList l1 as) (a2 : s.heap.IsList l2 bs) (he : as[m]? = none ∨ bs[n]? = none)
    (k : ∀ h' e, (∀ c o, c ≠ z → c ≠ TO → c ≠ i1 → c ≠ i2 → s.heap.get? c = some o → h'.get? c = some o) → (∃ o, h'.get? e = some o ∧ o.cls = .type "StopIteration") → E (.ref e) { s with heap := h' }) :
    wpAny (model prog w) A (Builtin.«zip.__next__» ⟨[.ref z], []⟩) Q E s := by
  show wpAny _ _ (field (.ref z) 2 >>= _) _ _ _
  refine wpAny_bind (wpAny_field hz rfl (x := Value.bool false) rfl ?_)
  show wpAny _ _ (field (.ref z) 3 >>= _) _ _ _
  refine wpAny_bind (wpAny_field hz rfl (x := Value.ref TI) rfl ?_)
  refine wpAny_bind (wpAny_seqItems pI rfl ?_)
  show wpAny _ _ (Builtin.SmallTypes.ownedTupleIsFree (.ref z) >>= _) _ _ _
  refine wpAny_bind (lone_free hz hl ?_)
  simp only [if_true]
  refine wpAny_bind (wpAny_rule ?_)
  refine wpAny_bind (wpAny_field hz rfl (x := Value.ref TO) rfl ?_)
  refine wpAny_bind (wpAny_setField_rec hz (by simp) fun g1 z1 b1 => ?_)
  replace z1 : Zp g1 z TI TO .ellipsis f := z1
  refine wpAny_bind ?_
  simp only [List.zipIdx_cons, List.zipIdx_nil, List.forIn_cons, List.forIn_nil]
  refine wpAny_bind (wpAny_bind (wpAny_onRaise ?_))
  show wpAny _ _ (Builtin.SmallTypes.nextOf (.ref i1) >>= _) _ _ _
  cases ex : as[m]? with
  | none =>
    refine wpAny_bind (wpAny_nextOf_list_end hh (r1.extBut b1.extBut D.i1z) (a1.extBut b1.extBut D.l1z) ex fun g2 u b2 hu => ?_)
    obtain ⟨ou, hou, cu⟩ := hu
    have z2 : Zp g2 z TI TO .ellipsis f := b2 _ _ D.i1z.symm z1
    have uz : u ≠ z := fun e => by
      rw [e, z2] at hou
      cases hou
      simp at cu
    refine wpAny_setField_rec z2 (by simp) fun g3 _ b3 => k g3 u (fun c o n1 _ n3 _ e => b3.extBut _ _ n1 (b2 _ _ n3 (b1.extBut _ _ n1 e))) ⟨ou, b3.extBut _ _ uz hou, cu⟩
  | some x =>
    have ey : bs[n]? = none := by
      rcases he with e | e
      · rw [ex] at e
        cases e
      · exact e
    refine wpAny_bind (wpAny_nextOf_list_item (r1.extBut b1.extBut D.i1z) (a1.extBut b1.extBut D.l1z) ex fun g2 r12 b2 => wpAny_pure ?_)
    have pO2 : IsPair g2 TO p q := b2.extBut _ _ D.TOi1 (b1.extBut _ _ D.TOz pO)
    refine wpAny_bind (wpAny_seqItems pO2 rfl ?_)
    refine wpAny_bind (wpAny_updateSeq_pair pO2 fun g3 pO3 b3 => ?_)
    refine wpAny_bind (wpAny_letGo (wpAny_pure ?_))
    refine wpAny_bind (wpAny_bind (wpAny_onRaise ?_))
    show wpAny _ _ (Builtin.SmallTypes.nextOf (.ref i2) >>= _) _ _ _
    have r23 := ((r2.extBut b1.extBut D.i2z).extBut b2.extBut D.i12.symm).extBut b3.extBut D.TOi2.symm
    have a23 := ((a2.extBut b1.extBut D.l2z).extBut b2.extBut D.l2i1).extBut b3.extBut D.l2TO
    refine wpAny_bind (wpAny_nextOf_list_end hh r23 a23 ey fun g4 u b4 hu => ?_)
    obtain ⟨ou, hou, cu⟩ := hu
    have z4 : Zp g4 z TI TO .ellipsis f := b4 _ _ D.i2z.symm (b3.extBut _ _ D.TOz.symm (b2.extBut _ _ D.i1z.symm z1))
    have uz : u ≠ z := fun e => by
      rw [e, z4] at hou
      cases hou
      simp at cu
    refine wpAny_setField_rec z4 (by simp) fun g5 _ b5 => k g5 u (fun c o n1 n2 n3 n4 e => b5.extBut _ _ n1 (b4 _ _ n4 (b3.extBut _ _ n2 (b2.extBut _ _ n3 (b1.extBut _ _ n1 e))))) ⟨ou, b5.extBut _ _ uz hou, cu⟩
end
end Ez

set_option Elab.async false
set_option linter.all false
set_option maxRecDepth 100000
set_option maxHeartbeats 4000000
namespace Ez
open PySem PySem.Spec PyProof.Rows L2
/-- between two steps of a zip, whoever holds what it gave out -/
structure Zs (h : Heap) (z TI TO i1 i2 l1 l2 : Addr) (m : Nat) : Prop where
  z : ∃ g f, Zp h z TI TO g f ∧ ((g = Value.none ∧ f = false) ∨ ∃ T : Addr, g = rawInt T)
  pI : IsPair h TI (.ref i1) (.ref i2)
  pO : ∃ p q, IsPair h TO p q
  r1 : h.IsListIter i1 l1 m
  r2 : h.IsListIter i2 l2 m
section
variable {prog : Program} {w : World} {A : Around} {E : Value → Shared → Prop} {s : Shared}
theorem Zs.at {h h' : Heap} {z TI TO i1 i2 l1 l2 : Addr} {m : Nat} (S : Zs h z TI TO i1 i2 l1 l2 m) (k : ∀ b ∈ [z, TI, TO, i1, i2], ∀ o, h.get? b = some o → h'.get? b = some o) : Zs h' z TI TO i1 i2 l1 l2 m := by
  obtain ⟨⟨g, f, hz, hg⟩, pI, ⟨p, q, pO⟩, r1, r2⟩ := S
  exact ⟨⟨g, f, k z (by simp) _ hz, hg⟩, k TI (by simp) _ pI, ⟨p, q, k TO (by simp) _ pO⟩, r1.at fun o e => k i1 (by simp) o e, r2.at fun o e => k i2 (by simp) o e⟩
/-- the zip's own step, an item -/
theorem z_item {z TI TO i1 i2 l1 l2 : Addr} {m : Nat} {as bs : Array Value} {x y : Value} {Q : Value → Shared → Prop} (D : ZipApart z TI TO i1 i2 l1 l2)
    (S : Zs s.heap z TI TO i1 i2 l1 l2 m) (a1 : s.heap.IsList l1 as) (a2 : s.heap.IsList l2 bs) (ex : as[m]? = some x) (ey : bs[m]? = some y)
    (k : ∀ h', Zs h' z TI TO i1 i2 l1 l2 (m + 1) → IsPair h' s.heap.objs.size x y → h'.objs.size = s.heap.objs.size + 1 →
      (∀ c o, c ∉ [z, TI, TO, i1, i2] → s.heap.get? c = some o → h'.get? c = some o) → Q (.ref s.heap.objs.size) { s with heap := h' }) :
    wpAny (model prog w) A (Builtin.«zip.__next__» ⟨[.ref z], []⟩) (fun fin s' => ∃ v, fin = .done (.ret v) ∧ Q v s') E s := by
  obtain ⟨⟨g, f, hz, hg⟩, pI, ⟨p, q, pO⟩, r1, r2⟩ := S
  have hTOz : TI ≠ z := D.TIz
  rcases hg with ⟨rfl, rfl⟩ | ⟨T, rfl⟩
  · refine lone_item D hz (Or.inl rfl) pI pO r1 r2 a1 a2 ex ey fun h' c1 c2 c3 c4 c5 c6 c7 => k h' ⟨⟨_, _, c1, Or.inr ⟨_, rfl⟩⟩, ?_, ⟨x, y, c2⟩, c3, c4⟩ c5 c6 ?_
    · exact c7 _ _ D.TIz D.TITO D.TIi1 D.TIi2 pI
    · intro c o hc e
      simp only [List.mem_cons, List.not_mem_nil, or_false, not_or] at hc
      exact c7 c o hc.1 hc.2.2.1 hc.2.2.2.1 hc.2.2.2.2 e
  · cases hT : s.heap.get? T with
    | none =>
      refine lone_item D hz (Or.inr ⟨T, rfl, hT⟩) pI pO r1 r2 a1 a2 ex ey fun h' c1 c2 c3 c4 c5 c6 c7 => k h' ⟨⟨_, _, c1, Or.inr ⟨_, rfl⟩⟩, ?_, ⟨x, y, c2⟩, c3, c4⟩ c5 c6 ?_
      · exact c7 _ _ D.TIz D.TITO D.TIi1 D.TIi2 pI
      · intro c o hc e
        simp only [List.mem_cons, List.not_mem_nil, or_false, not_or] at hc
        exact c7 c o hc.1 hc.2.2.1 hc.2.2.2.1 hc.2.2.2.2 e
    | some oT =>
      refine zip_next_item_held D hz hT pI r1 r2 a1 a2 ex ey fun h' c1 c3 c4 c5 c6 c7 => k h' ⟨⟨_, _, c1, Or.inr ⟨_, rfl⟩⟩, ?_, ⟨p, q, ?_⟩, c3, c4⟩ c5 c6 ?_
      · exact c7 _ _ D.TIz D.TIi1 D.TIi2 pI
      · exact c7 _ _ D.TOz D.TOi1 D.TOi2 pO
      · intro c o hc e
        simp only [List.mem_cons, List.not_mem_nil, or_false, not_or] at hc
        exact c7 c o hc.1 hc.2.2.2.1 hc.2.2.2.2 e
theorem z_end {z TI TO i1 i2 l1 l2 : Addr} {m : Nat} {as bs : Array Value} {Q : Fin → Shared → Prop} (hh : A.handled = none) (D : ZipApart z TI TO i1 i2 l1 l2)
    (S : Zs s.heap z TI TO i1 i2 l1 l2 m) (a1 : s.heap.IsList l1 as) (a2 : s.heap.IsList l2 bs) (he : as[m]? = none ∨ bs[m]? = none)
    (k : ∀ h' e, (∀ c o, c ∉ [z, TI, TO, i1, i2] → s.heap.get? c = some o → h'.get? c = some o) → (∃ o, h'.get? e = some o ∧ o.cls = .type "StopIteration") → E (.ref e) { s with heap := h' }) :
    wpAny (model prog w) A (Builtin.«zip.__next__» ⟨[.ref z], []⟩) Q E s := by
  obtain ⟨⟨g, f, hz, hg⟩, pI, ⟨p, q, pO⟩, r1, r2⟩ := S
  have out : ∀ {h' : Heap}, (∀ c o, c ≠ z → c ≠ TO → c ≠ i1 → c ≠ i2 → s.heap.get? c = some o → h'.get? c = some o) → ∀ c o, c ∉ [z, TI, TO, i1, i2] → s.heap.get? c = some o → h'.get? c = some o := by
    intro h' c7 c o hc e
    simp only [List.mem_cons, List.not_mem_nil, or_false, not_or] at hc
    exact c7 c o hc.1 hc.2.2.1 hc.2.2.2.1 hc.2.2.2.2 e
  rcases hg with ⟨rfl, rfl⟩ | ⟨T, rfl⟩
  · exact lone_end hh D hz (Or.inl rfl) pI pO r1 r2 a1 a2 he fun h' e c => k h' e (out c)
  · cases hT : s.heap.get? T with
    | none => exact lone_end hh D hz (Or.inr ⟨T, rfl, hT⟩) pI pO r1 r2 a1 a2 he fun h' e c => k h' e (out c)
    | some oT => exact zip_next_end_held hh D hz hT pI r1 r2 a1 a2 he fun h' e c => k h' e (out fun c' o n1 _ n3 n4 e' => c c' o n1 n3 n4 e')
theorem Zs.ty {z TI TO i1 i2 l1 l2 : Addr} {m : Nat} (S : Zs s.heap z TI TO i1 i2 l1 l2 m) : s.TypeIs (.ref z) "zip" := by
  obtain ⟨⟨g, f, hz, hg⟩, _⟩ := S
  exact ⟨_, hz, rfl⟩
theorem nz_item {z TI TO i1 i2 l1 l2 : Addr} {m : Nat} {as bs : Array Value} {x y : Value} {Q : Value → Shared → Prop} (D : ZipApart z TI TO i1 i2 l1 l2)
    (S : Zs s.heap z TI TO i1 i2 l1 l2 m) (a1 : s.heap.IsList l1 as) (a2 : s.heap.IsList l2 bs) (ex : as[m]? = some x) (ey : bs[m]? = some y)
    (k : ∀ h', Zs h' z TI TO i1 i2 l1 l2 (m + 1) → IsPair h' s.heap.objs.size x y → h'.objs.size = s.heap.objs.size + 1 →
      (∀ c o, c ∉ [z, TI, TO, i1, i2] → s.heap.get? c = some o → h'.get? c = some o) → Q (.ref s.heap.objs.size) { s with heap := h' }) :
    wpAny (model prog w) A (Builtin.SmallTypes.nextOf (.ref z)) Q E s := by
  unfold Builtin.SmallTypes.nextOf
  refine wpAny_bind (wpAny_callSpecial?_slot (name := Str.ofString "__next__") S.ty F.slot_zip_next
    (wpAny_call_entry F.slot_zip_next S.ty F.entry_zip_next ?_ (F.args_zip_next_1 _)))
  exact z_item D S a1 a2 ex ey fun h' c1 c2 c3 c4 => wpAny_pure (k h' c1 c2 c3 c4)
theorem nz_end {z TI TO i1 i2 l1 l2 : Addr} {m : Nat} {as bs : Array Value} {Q : Value → Shared → Prop} (hh : A.handled = none) (D : ZipApart z TI TO i1 i2 l1 l2)
    (S : Zs s.heap z TI TO i1 i2 l1 l2 m) (a1 : s.heap.IsList l1 as) (a2 : s.heap.IsList l2 bs) (he : as[m]? = none ∨ bs[m]? = none)
    (k : ∀ h' e, (∀ c o, c ∉ [z, TI, TO, i1, i2] → s.heap.get? c = some o → h'.get? c = some o) → (∃ o, h'.get? e = some o ∧ o.cls = .type "StopIteration") → E (.ref e) { s with heap := h' }) :
    wpAny (model prog w) A (Builtin.SmallTypes.nextOf (.ref z)) Q E s := by
  unfold Builtin.SmallTypes.nextOf
  exact wpAny_bind (wpAny_callSpecial?_slot (name := Str.ofString "__next__") S.ty F.slot_zip_next
    (wpAny_call_entry F.slot_zip_next S.ty F.entry_zip_next (z_end hh D S a1 a2 he k) (F.args_zip_next_1 _)))
/-- an enumerate's step above what gives x and lays no more than it says -/
theorem en_item {e z : Addr} {c : Int} {old x : Value} {Q : Value → Shared → Prop} {R : Heap → Prop} (he : IsEnum s.heap e z c old)
    (inner : ∀ (Q' : Value → Shared → Prop), (∀ g, R g → IsEnum g e z c old → s.heap.objs.size ≤ g.objs.size → Q' x { s with heap := g }) → wpAny (model prog w) A (Builtin.SmallTypes.nextOf (.ref z)) Q' E s)
    (k : ∀ g h', R g → IsEnumOut h' e z (c + 1) x g.objs.size → h'.get? g.objs.size = some { cls := .type "tuple", data := .seq #[.int c s.toks, x] } → h'.objs.size = g.objs.size + 1 →
      (∀ b o, b ≠ e → g.get? b = some o → h'.get? b = some o) → Q (.ref g.objs.size) { s with heap := h', toks := s.toks + 1 }) :
    wpAny (model prog w) A (Builtin.«enumerate.__next__» ⟨[.ref e], []⟩) (fun fin s' => ∃ v, fin = .done (.ret v) ∧ Q v s') E s := by
  obtain ⟨hp, gs, d, tk, os⟩ := s
  show wpAny _ _ (field (.ref e) 2 >>= _) _ _ _
  refine wpAny_bind (wpAny_field he rfl (x := Value.ref z) rfl ?_)
  refine wpAny_bind (inner _ fun g hR e1 _ => ?_)
  show wpAny _ _ (field (.ref e) 3 >>= _) _ _ ⟨g, gs, d, tk, os⟩
  refine wpAny_bind (wpAny_field e1 rfl (x := rawInt c) rfl ?_)
  show wpAny _ _ (field (.ref e) 4 >>= _) _ _ ⟨g, gs, d, tk, os⟩
  refine wpAny_bind (wpAny_field e1 rfl (x := Value.none) rfl ?_)
  show wpAny _ _ (mkInt c >>= _) _ _ ⟨g, gs, d, tk, os⟩
  refine wpAny_bind (wpAny_mkInt ?_)
  show wpAny _ _ (setField (.ref e) 3 (rawInt (c + 1)) >>= _) _ _ ⟨g, gs, d, tk + 1, os⟩
  refine wpAny_bind (wpAny_setField_rec e1 (by simp) fun g2 e2 b2 => ?_)
  replace b2 : Heap.SameBut e g g2 := b2
  replace e2 : IsEnum g2 e z (c + 1) old := e2
  show wpAny _ _ (setField (.ref e) 4 .none >>= _) _ _ ⟨g2, gs, d, tk + 1, os⟩
  refine wpAny_bind (wpAny_setField_rec e2 (by simp) fun g3 e3 b3 => ?_)
  replace b3 : Heap.SameBut e g2 g3 := b3
  replace e3 : IsEnum g3 e z (c + 1) old := e3
  show wpAny _ _ (newTuple [.int c tk, x] >>= _) _ _ ⟨g3, gs, d, tk + 1, os⟩
  refine wpAny_bind (wpAny_newTuple ?_)
  have e4 : IsEnum (g3.push { cls := .type "tuple", data := .seq #[.int c tk, x] }) e z (c + 1) old := Heap.get?_push_of_some _ e3
  have sz3 : g3.objs.size = g.objs.size := by rw [b3.1, b2.1]
  have le : e < g.objs.size := Heap.lt_size e1
  generalize hg4 : g3.push { cls := .type "tuple", data := .seq #[.int c tk, x] } = g4 at e4
  have t4 : g4.get? g.objs.size = some { cls := .type "tuple", data := .seq #[.int c tk, x] } := by
    rw [← hg4, ← sz3]
    exact Heap.get?_push_size _ rfl
  have sz4 : g4.objs.size = g.objs.size + 1 := by rw [← hg4, Heap.size_push, sz3]
  have kp4 : ∀ b o, b ≠ e → g.get? b = some o → g4.get? b = some o := fun b o nb hb => by
    rw [← hg4]
    exact Heap.get?_push_of_some _ (b3.extBut b o nb (b2.extBut b o nb hb))
  show wpAny _ _ (Builtin.SmallTypes.ownedTupleIsFree (.ref e) >>= _) _ _ ⟨g4, gs, d, tk + 1, os⟩
  rw [sz3]
  clear hg4 e3 b3 e2 b2
  refine wpAny_bind ?_
  unfold Builtin.SmallTypes.ownedTupleIsFree
  refine wpAny_bind (wpAny_field e4 rfl (x := Value.none) rfl (wpAny_pure ?_))
  simp only [if_true]
  refine wpAny_bind (wpAny_rule ?_)
  refine wpAny_bind (wpAny_field e4 rfl (x := old) rfl ?_)
  refine wpAny_bind (wpAny_setField_rec e4 (by simp) fun g5 e5 b5 => ?_)
  replace b5 : Heap.SameBut e g4 g5 := b5
  replace e5 : IsEnum g5 e z (c + 1) x := e5
  show wpAny _ _ (Builtin.SmallTypes.ownedTupleHandOut (.ref e) (.ref g.objs.size) >>= _) _ _ ⟨g5, gs, d, tk + 1, os⟩
  refine wpAny_bind ?_
  unfold Builtin.SmallTypes.ownedTupleHandOut
  refine wpAny_bind (wpAny_setField_rec e5 (by simp) fun g6 e6 b6 => ?_)
  replace b6 : Heap.SameBut e g5 g6 := b6
  replace e6 : IsEnumOut g6 e z (c + 1) x g.objs.size := e6
  refine wpAny_setField_rec e6 (by simp) fun g7 e7 b7 => ?_
  replace b7 : Heap.SameBut e g6 g7 := b7
  replace e7 : IsEnumOut g7 e z (c + 1) x g.objs.size := e7
  refine wpAny_bind (wpAny_letGo (wpAny_pure ⟨_, rfl, k g g7 hR e7 ?_ ?_ ?_⟩))
  · exact b7.extBut _ _ (Nat.ne_of_gt le) (b6.extBut _ _ (Nat.ne_of_gt le) (b5.extBut _ _ (Nat.ne_of_gt le) t4))
  · rw [b7.1, b6.1, b5.1, sz4]
  · exact fun b o nb hb => b7.extBut b o nb (b6.extBut b o nb (b5.extBut b o nb (kp4 b o nb hb)))
theorem pn_item {e z : Addr} {c : Int} {old x : Value} {Q : Option Value → Shared → Prop} {R : Heap → Prop} (he : IsEnum s.heap e z c old)
    (inner : ∀ (A : Around) (E : Value → Shared → Prop) (Q' : Value → Shared → Prop), (∀ g, R g → IsEnum g e z c old → s.heap.objs.size ≤ g.objs.size → Q' x { s with heap := g }) → wpAny (model prog w) A (Builtin.SmallTypes.nextOf (.ref z)) Q' E s)
    (k : ∀ g h', R g → IsEnumOut h' e z (c + 1) x g.objs.size → h'.get? g.objs.size = some { cls := .type "tuple", data := .seq #[.int c s.toks, x] } → h'.objs.size = g.objs.size + 1 →
      (∀ b o, b ≠ e → g.get? b = some o → h'.get? b = some o) → Q (some (.ref g.objs.size)) { s with heap := h', toks := s.toks + 1 }) :
    wpAny (model prog w) A (pyNext (.ref e)) Q E s := by
  have hT : s.TypeIs (.ref e) "enumerate" := ⟨_, he, rfl⟩
  unfold pyNext
  refine wpAny_bind (wpAny_attempt (wpAny_callSpecial?_slot (name := Str.ofString "__next__") hT F.slot_enumerate_next
    (wpAny_call_entry F.slot_enumerate_next hT F.entry_enumerate_next ?_ (F.args_enumerate_next_1 _))))
  exact en_item he (inner _ _) fun g h' c1 c2 c3 c4 c5 => wpAny_pure (k g h' c1 c2 c3 c4 c5)
theorem pn_end {e z : Addr} {c : Int} {old : Value} {Q : Option Value → Shared → Prop} {R : Heap → Prop} (hh : A.handled = none) (he : IsEnum s.heap e z c old)
    (inner : ∀ (A : Around) (E : Value → Shared → Prop) (Q' : Value → Shared → Prop), A.handled = none → (∀ g u, R g → (∃ o, g.get? u = some o ∧ o.cls = .type "StopIteration") → E (.ref u) { s with heap := g }) → wpAny (model prog w) A (Builtin.SmallTypes.nextOf (.ref z)) Q' E s)
    (k : ∀ g, R g → Q none { s with heap := g }) :
    wpAny (model prog w) A (pyNext (.ref e)) Q E s := by
  have hT : s.TypeIs (.ref e) "enumerate" := ⟨_, he, rfl⟩
  unfold pyNext
  refine wpAny_bind (wpAny_attempt (wpAny_callSpecial?_slot (name := Str.ofString "__next__") hT F.slot_enumerate_next
    (wpAny_call_entry F.slot_enumerate_next hT F.entry_enumerate_next ?_ (F.args_enumerate_next_1 _))))
  show wpAny _ _ (field (.ref e) 2 >>= _) _ _ _
  refine wpAny_bind (wpAny_field he rfl (x := Value.ref z) rfl ?_)
  refine wpAny_bind (inner _ _ _ hh fun g u hR hu => ?_)
  obtain ⟨o, ho, hc⟩ := hu
  refine wpAny_bind (wpAny_isInstance (T := "StopIteration") (b := true) ⟨o, ho, hc⟩ isSubtype_stop ?_)
  exact wpAny_pure (k _ hR)
end
end Ez

set_option Elab.async false
set_option linter.all false
set_option maxRecDepth 100000
set_option maxHeartbeats 4000000
namespace Ez
open PySem PySem.Spec PyProof.Rows L2
/-- the lists at a and b, item by item: (number, (x, y)), both pairs new -/
def Ity (K : PySem.W.Frag) (a b : Addr) : It :=
  ⟨fun i H => ∃ (xs ys : List V) (x y : V), SqL K H a xs ∧ SqL K H b ys ∧ xs[i]? = some x ∧ ys[i]? = some y,
    fun i H v H' => ∃ T U x y, v = .ref U ∧ H T = none ∧ H U = none ∧ T ≠ U ∧ H' = upd (upd H T (.tup [x, y])) U (.tup [.int (i : Nat), .ref T]) ∧ (∀ xs, SqL K H a xs → xs[i]? = some x) ∧ ∀ ys, SqL K H b ys → ys[i]? = some y,
    fun i H => ∃ xs ys : List V, SqL K H a xs ∧ SqL K H b ys ∧ (xs.length ≤ i ∨ ys.length ≤ i)⟩
theorem isEnum_at {h h' : Heap} {e z : Addr} {c : Int} {old : Value} (he : IsEnum h e z c old) (k : ∀ o, h.get? e = some o → h'.get? e = some o) : IsEnum h' e z c old := k _ he
theorem turn_ez {P : Program} {w : World} {K : PySem.W.Frag} {elts : List Expr} {kk : Nat} {tpos : Pos} {a b e z TI TO i1 i2 : Addr} (D : ZipApart z TI TO i1 i2 a b) (ne : e ∉ [z, TI, TO, i1, i2]) (nea : e ≠ a) (neb : e ≠ b) :
    Turn P w K (.Tuple elts kk tpos) (Ity K a b) [e, z, TI, TO, i1, i2] e (fun i h => (∃ old, IsEnum h e z ((i : Nat) : Int) old) ∧ Zs h z TI TO i1 i2 a b i) where
  mem := by simp
  obj := fun i h st c hc => by
    obtain ⟨⟨old, he⟩, ⟨⟨g, f, hz, _⟩, pI, ⟨p, q, pO⟩, ⟨o1, e1, _, d1⟩, ⟨o2, e2, _, d2⟩⟩⟩ := st
    have hc' : c = e ∨ c = z ∨ c = TI ∨ c = TO ∨ c = i1 ∨ c = i2 := by simpa using hc
    rcases hc' with q | q | q | q | q | q
    · rw [q]
      exact ⟨_, he, fun v y => nomatch y⟩
    · rw [q]
      exact ⟨_, hz, fun v y => nomatch y⟩
    · rw [q]
      exact ⟨_, pI, fun v y => nomatch y⟩
    · rw [q]
      exact ⟨_, pO, fun v y => nomatch y⟩
    · rw [q]
      exact ⟨o1, e1, fun v y => by rw [d1] at y; cases y⟩
    · rw [q]
      exact ⟨o2, e2, fun v y => by rw [d2] at y; cases y⟩
  keep := fun i h h' st k => by
    obtain ⟨⟨old, he⟩, S⟩ := st
    exact ⟨⟨old, isEnum_at he fun o q => k e (by simp) o q⟩, S.at fun c hc o q => k c (List.mem_cons_of_mem _ hc) o q⟩
  item := by
    intro X hP hw hK hc i pins s σ H E I hf st hg
    subst hP hw hK
    obtain ⟨⟨old, he⟩, S⟩ := st
    obtain ⟨xs, ys, x, y, hqx, hqy, hx, hy⟩ := hg
    obtain ⟨us, rv, p, _⟩ := I.list hqx
    obtain ⟨us2, rv2, p2, _⟩ := I.list hqy
    obtain ⟨u, hu, ru⟩ := rv.get hx
    obtain ⟨u2, hu2, ru2⟩ := rv2.get hy
    have le : e < s.heap.objs.size := Heap.lt_size he
    refine pn_item (x := Value.ref s.heap.objs.size) (R := fun g => Zs g z TI TO i1 i2 a b (i + 1) ∧ IsPair g s.heap.objs.size u u2 ∧ g.objs.size = s.heap.objs.size + 1 ∧ ∀ c o, c ∉ [z, TI, TO, i1, i2] → s.heap.get? c = some o → g.get? c = some o) he ?_ ?_
    · intro A E Q' k
      refine nz_item D S p.isList p2.isList (x := u) (y := u2) (by simpa using hu) (by simpa using hu2) fun g c1 c2 c3 c4 => ?_
      exact k g ⟨c1, c2, c3, c4⟩ (c4 e _ ne he) (by omega)
    · rintro g h' ⟨c1, c2, c3, c4⟩ ho hT hsz hk
      refine ⟨_, rfl, wpAny_letOwnedTupleGo_enum (s := { s with heap := h', toks := s.toks + 1 }) ho fun h'' he' sb => ?_⟩
      have len : ∀ b ∈ [e, z, TI, TO, i1, i2], b < s.heap.objs.size := by
        intro b hb
        have hb' : b = e ∨ b = z ∨ b = TI ∨ b = TO ∨ b = i1 ∨ b = i2 := by simpa using hb
        obtain ⟨⟨g', f', hz', _⟩, pI', ⟨p', q', pO'⟩, ⟨o1, e1, _⟩, ⟨o2, e2, _⟩⟩ := S
        rcases hb' with q | q | q | q | q | q
        · rw [q]; exact le
        · rw [q]; exact Heap.lt_size hz'
        · rw [q]; exact Heap.lt_size pI'
        · rw [q]; exact Heap.lt_size pO'
        · rw [q]; exact Heap.lt_size e1
        · rw [q]; exact Heap.lt_size e2
      have go : ∀ b o, b ≠ e → g.get? b = some o → h''.get? b = some o := fun b o nb q => (sb.2 b nb).trans (hk b o nb q)
      -- the zip's pair
      have hT1 : g.get? s.heap.objs.size = some { cls := .type "tuple", data := .seq #[u, u2] } := c2
      have new1 : ObjOk X.prog X.w (upd H s.heap.objs.size (.tup [x, y])) g s.heap.objs.size (.tup [x, y]) :=
        ⟨by show 2 ≤ sizeLine; decide, [u, u2], .cons ru (.cons ru2 .nil), ⟨_, hT1, rfl, _, rfl⟩⟩
      have I1 : Inv X pins σ (upd H s.heap.objs.size (.tup [x, y])) { s with heap := g, toks := s.toks } :=
        I.turnedNew (ch := [z, TI, TO, i1, i2]) (fun b o hb q => c4 b o hb q) (fun b hb => hf b (List.mem_cons_of_mem _ hb)) (Nat.le_refl _) new1
      -- the enumerate's pair
      have hU : g.objs.size ≠ e := by
        intro q
        have := le
        rw [← q, c3] at this
        exact absurd this (Nat.not_lt.mpr (Nat.le_add_right _ _))
      have hT2 : h''.get? g.objs.size = some { cls := .type "tuple", data := .seq #[.int i s.toks, .ref s.heap.objs.size] } := (sb.2 _ hU).trans hT
      have new2 : ObjOk X.prog X.w (upd (upd H s.heap.objs.size (.tup [x, y])) g.objs.size (.tup [.int (i : Nat), .ref s.heap.objs.size])) h'' g.objs.size (.tup [.int (i : Nat), .ref s.heap.objs.size]) :=
        ⟨by show 2 ≤ sizeLine; decide, [.int i s.toks, .ref s.heap.objs.size], .cons ⟨_, rfl⟩ (.cons rfl .nil), ⟨_, hT2, rfl, _, rfl⟩⟩
      have fe : FpOk X pins (upd H s.heap.objs.size (.tup [x, y])) e := ⟨by rw [upd_ne (Nat.ne_of_lt le)]; exact (hf e (by simp)).1, (hf e (by simp)).2⟩
      have I2 : Inv X pins σ (upd (upd H s.heap.objs.size (.tup [x, y])) g.objs.size (.tup [.int (i : Nat), .ref s.heap.objs.size])) { s with heap := h'', toks := s.toks + 1 } :=
        I1.turnedNew (ch := [e]) (fun b o hb q => go b o (fun z => hb (by simp [z])) q) (fun b hb => by
          have : b = e := by simpa using hb
          rw [this]
          exact fe) (Nat.le_refl _) new2
      have f1 : H s.heap.objs.size = none := I.hok.fresh (Nat.le_refl _)
      have f2 : H g.objs.size = none := I.hok.fresh (by omega)
      refine ⟨.ref g.objs.size, _, I2, rfl, ⟨s.heap.objs.size, g.objs.size, x, y, rfl, f1, f2, by rw [c3]; exact Nat.ne_of_lt (Nat.lt_succ_self _), rfl, fun l hl => by rw [I.list_inj hl hqx]; exact hx, fun l hl => by rw [I.list_inj hl hqy]; exact hy⟩, ⟨⟨.ref s.heap.objs.size, ?_⟩, ?_⟩, fun b hb => ?_⟩
      · have e1 : ((i + 1 : Nat) : Int) = (i : Int) + 1 := by omega
        rw [e1]
        exact he'
      · refine c1.at fun c hc o q => go c o (fun y => ne (y ▸ hc)) q
      · have := len b hb
        rw [upd_ne (Nat.ne_of_lt (by rw [c3]; exact Nat.lt_succ_of_lt this)), upd_ne (Nat.ne_of_lt this)]
        exact (hf b hb).1
  done := by
    intro X hP hw hK hc i pins s σ H E I hf st hg
    subst hP hw hK
    obtain ⟨⟨old, he⟩, S⟩ := st
    obtain ⟨xs, ys, hqx, hqy, hend⟩ := hg
    obtain ⟨us, rv, p, _⟩ := I.list hqx
    obtain ⟨us2, rv2, p2, _⟩ := I.list hqy
    have l1 := rv.length
    have l2 := rv2.length
    have hn : us.toArray[i]? = none ∨ us2.toArray[i]? = none := by
      rcases hend with q | q
      · exact .inl (by simp; omega)
      · exact .inr (by simp; omega)
    refine pn_end (R := fun g => ∀ c o, c ∉ [z, TI, TO, i1, i2] → s.heap.get? c = some o → g.get? c = some o) (I.ok.hd hc) he ?_ ?_
    · intro A E Q' hA k
      exact nz_end hA D S p.isList p2.isList hn fun g u c1 c2 => k g u c1 c2
    · intro g hR
      exact ⟨rfl, I.turnedL (t' := s.toks) (ch := [e, z, TI, TO, i1, i2]) (fun c o hb q => hR c o (fun y => hb (List.mem_cons_of_mem _ y)) q) hf⟩
  self := fun A i s Q E st h => let ⟨⟨_, he⟩, _⟩ := st; wpAny_pyIter_enum he h
/-! ### enumerate(zip(..)) is made -/
theorem meets_ez (z TI TO : Addr) :
    Meets (Builtin.«enumerate.__new__» ⟨[.type "enumerate", .ref z], []⟩) (fun _ R s => IsZip s.heap z TI TO .none ∧
      R (.ok (.ret (.ref s.heap.objs.size))) { s with heap := s.heap.push { cls := .type "enumerate", data := .fields #[.none, .bool false, .ref z, rawInt 0, .none, .none] } }) :=
  .of_wp fun prog w A R s h => by
    obtain ⟨hp, g, d, tk, os⟩ := s
    obtain ⟨hz, h⟩ := h
    have hsub := sub_enumerate
    have hI : ∀ {A' : Around} {E : Value → Shared → Prop} {Q : Value → Shared → Prop}, Q (.ref z) ⟨hp, g, d, tk, os⟩ → wpAny (model prog w) A' (pyIter (.ref z)) Q E ⟨hp, g, d, tk, os⟩ :=
      fun q => wpAny_pyIter_zip (s := ⟨hp, g, d, tk, os⟩) hz q
    wp_walk using hI
    refine wpAny_stack_any fun st => wpAny_pure ?_
    split
    · rename_i c _ _ _ _ _
      cases (c == Value.type "enumerate")
      · wp_walk using hI
        exact ⟨_, rfl, h⟩
      · wp_walk using hI
        exact ⟨_, rfl, h⟩
    · wp_walk using hI
      exact ⟨_, rfl, h⟩
section
variable {prog : Program} {w : World} {A : Around} {E : Value → Shared → Prop} {s : Shared}
theorem call_ez {z TI TO : Addr} {Q : Value → Shared → Prop} (hz : IsZip s.heap z TI TO .none)
    (k : ∀ h', IsEnum h' s.heap.objs.size z 0 .none → h'.objs.size = s.heap.objs.size + 1 → (∀ b o, s.heap.get? b = some o → h'.get? b = some o) → Q (.ref s.heap.objs.size) { s with heap := h' }) :
    wpAny (model prog w) A (call (.type "enumerate") [.ref z]) Q E s := by
  refine callType_new F.called_enumerate (by decide) (F.typeCall_enumerate_1 _) (F.newCall_enumerate_1 _) (fun obj => F.args_object_init_2 obj _) F.entry_enumerate_new
    (meets_ez z TI TO) ⟨hz, ?_⟩
  have he : IsEnum (s.heap.push { cls := .type "enumerate", data := .fields #[.none, .bool false, .ref z, rawInt 0, .none, .none] }) s.heap.objs.size z 0 .none := Heap.get?_push_size _ rfl
  exact ⟨⟨_, he, rfl⟩, k _ he (Heap.size_push ..) fun b o x => Heap.get?_push_of_some _ x⟩
end
def iEz (K : PySem.W.Frag) (ta : TA) : TI := fun σ H R => ta σ H fun vs H1 => ∃ a b xs ys, vs = [.ref a, .ref b] ∧ SqL K H1 a xs ∧ SqL K H1 b ys ∧ R (Ity K a b) H1
theorem pi_ez {X : Cx} {e e2 : Expr} {ta : TA} {p pos p2 pos2 tpos : Pos} {elts : List Expr} {kk : Nat} (hg : Gl X "enumerate") (hm : X.mg "enumerate" = none) (hg2 : Gl X "zip") (hm2 : X.mg "zip" = none) (ha : PA X [e, e2] ta)
    (hs : starEach [e, e2] X.env = (false, eval e X.env) :: starEach [e2] X.env := by rfl) (hpl : (backTo pos2 (starEach [e2] X.env)).any (·.1) = false := by rfl)
    (hs2 : starEach [Expr.Call (.Name "zip" p2) [e, e2] [] pos2] X.env = [(false, eval (Expr.Call (.Name "zip" p2) [e, e2] [] pos2) X.env)] := by rfl) :
    PI X (.Tuple elts kk tpos) (.Call (.Name "enumerate" p) [.Call (.Name "zip" p2) [e, e2] [] pos2] [] pos) (iEz X.K ta) := by
  refine ⟨fun pins s σ H R I h => ?_⟩
  refine Call_ (ld_blt I hg hm boot_enumerate (PyProof.Rows.callWith_type1 ?_ hs2 rfl))
  rw [hs2]
  refine Calls.spliced_cons ?_
  refine Call_ (ld_blt I hg2 hm2 PyProof.Rows.boot_zip (PyProof.Rows.callWith_type1 (thn (ha.run pos2 pins s σ H _ I h) fun us s1 ⟨vs, H1, I1, r1, q1⟩ => ?_) hs hpl))
  obtain ⟨a, b, xs, ys, ex, hqx, hqy, q⟩ := q1
  subst ex
  cases r1 with
  | cons r rr =>
    cases rr with
    | cons r' rr =>
      cases rr
      cases r
      cases r'
      obtain ⟨us1, rv, c1, _⟩ := I1.list hqx
      obtain ⟨us2, rv2, c2, _⟩ := I1.list hqy
      have la : a < s1.heap.objs.size := c1.lt
      have lb : b < s1.heap.objs.size := c2.lt
      refine call_zip_2 c1.isList c2.isList fun h' hz hTI hTO h1 h2 hsz hk => Calls.spliced_nil ?_
      refine call_ez (s := { s1 with heap := h' }) hz fun h'' he hsz' hk' => wpAny_pyIter_enum he ?_
      have kk : ∀ c o, s1.heap.get? c = some o → h''.get? c = some o := fun c o q => hk' c o (hk c o q)
      have I2 : Inv X pins σ H1 { s1 with heap := h'' } := I1.kept (t' := s1.toks) kk
      have e5 : h'.objs.size = s1.heap.objs.size + 5 := hsz
      have D := PySem.W.ktu_apart s1.heap.objs.size a b la lb
      refine ⟨h'.objs.size, [h'.objs.size, s1.heap.objs.size + 4, s1.heap.objs.size + 2, s1.heap.objs.size + 3, s1.heap.objs.size, s1.heap.objs.size + 1], _, _, H1, rfl, I2, turn_ez D ?_ ?_ ?_, ⟨⟨.none, he⟩, ?_⟩, fun c hcm => ?_, q⟩
      · intro z
        simp only [List.mem_cons, List.not_mem_nil, or_false] at z
        rw [e5] at z
        have : ∀ n : Nat, (n + 5 = n + 4 ∨ n + 5 = n + 2 ∨ n + 5 = n + 3 ∨ n + 5 = n ∨ n + 5 = n + 1) → False := by omega
        exact this _ z
      · intro z
        exact absurd la (by rw [← z, e5]; exact Nat.not_lt.mpr (Nat.le_add_right _ _))
      · intro z
        exact absurd lb (by rw [← z, e5]; exact Nat.not_lt.mpr (Nat.le_add_right _ _))
      · exact ⟨⟨_, _, hk' _ _ hz, Or.inl ⟨rfl, rfl⟩⟩, hk' _ _ hTI, ⟨_, _, hk' _ _ hTO⟩, h1.at fun o e => hk' _ o e, h2.at fun o e => hk' _ o e⟩
      · have hle : s1.heap.objs.size ≤ c := by
          simp only [List.mem_cons, List.not_mem_nil, or_false] at hcm
          rcases hcm with z | z | z | z | z | z
          · rw [z, e5]; exact Nat.le_add_right _ _
          · rw [z]; exact Nat.le_add_right _ _
          · rw [z]; exact Nat.le_add_right _ _
          · rw [z]; exact Nat.le_add_right _ _
          · rw [z]; exact Nat.le_refl _
          · rw [z]; exact Nat.le_add_right _ _
        exact I1.fpOk hle (I1.hok.fresh hle)
end Ez

set_option Elab.async false
set_option linter.all false
set_option maxRecDepth 100000
set_option maxHeartbeats 4000000
namespace Dl
open PySem PySem.Spec PyProof.Rows L2 Evl G
section
variable {ι : Type} {K : PySem.W.Frag} {X : ι → Cx} {Y : Cx} {e a b c : Expr} {pos p : Pos} {es : List Expr} {da db : DPr} {dt : DTr} {dr : DAr} {F H : Hp}
/-! ### enumerate(zip(..)) -/
def ezD (as bs : List D) : List D := enumD (zipD as bs)
theorem iters_ez {l m : Addr} {xs ys : List V} {ds es : List D} (h : SqL K F l xs) (h' : SqL K F m ys) (r : Reps K F xs ds) (r' : Reps K F ys es) : Iters K F (Ez.Ity K l m) (ezD ds es) := by
  intro F1 H1 i e1 e2
  have hq : SqL K H1 l xs := ex_l (e1.trans e2) h
  have hq' : SqL K H1 m ys := ex_l (e1.trans e2) h'
  refine ⟨?_, ?_⟩
  · intro d hd
    obtain ⟨z, hz, rfl⟩ := enumD_get hd
    unfold zipD at hz
    rw [List.getElem?_zipWith] at hz
    cases q : ds[i]? with
    | none =>
      rw [q] at hz
      cases hz
    | some x =>
      cases q' : es[i]? with
      | none =>
        rw [q, q'] at hz
        cases hz
      | some y =>
        rw [q, q'] at hz
        cases hz
        obtain ⟨v, hv, rv⟩ := r.get q
        obtain ⟨v', hv', rv'⟩ := r'.get q'
        refine ⟨⟨xs, ys, v, v', hq, hq', hv, hv'⟩, ?_⟩
        rintro u H2 ⟨T, U, x', y', rfl, hT, hU, hne, rfl, hx, hy⟩
        have a1 := hx xs hq
        rw [hv] at a1
        cases a1
        have a2 := hy ys hq'
        rw [hv'] at a2
        cases a2
        have s1 := Step.new (o := .tup [v, v']) e2 hT
        have hU1 : upd H1 T (.tup [v, v']) U = none := by
          rw [upd_ne (Ne.symm hne)]
          exact hU
        have s2 := Step.new (o := .tup [.int (i : Nat), .ref T]) s1.fh hU1
        have f1 : F1 T = none := fresh_back e2 hT
        have e3 : Ex F (upd F1 T (.tup [v, v'])) := e1.trans s1.ff
        have f2 : upd F1 T (.tup [v, v']) U = none := fresh_back s1.fh hU1
        have e4 := e3.trans s2.ff
        refine ⟨_, s1.trans s2, .tup (st_of upd_same) (.cons (.int _) (.cons ?_ .nil))⟩
        refine .tup (st_of ?_) (.cons (rv.mono e4) (.cons (rv'.mono e4) .nil))
        rw [upd_ne hne, upd_same]
  · intro hi
    refine ⟨xs, ys, hq, hq', ?_⟩
    unfold ezD enumD zipD at hi
    rw [List.length_mapIdx, List.length_zipWith] at hi
    rw [r.length, r'.length]
    omega
def iEZ (dr : DAr) : DIr := fun ρ P => dr ρ fun xs => ∃ ds es, xs = [.list ds, .list es] ∧ P (ezD ds es)
theorem di_ez {tg : Expr} (h : DA K X [a, b] dr) (pi : ∀ c {ta : TA}, PA (X c) [a, b] ta → PI (X c) tg e (Ez.iEz (X c).K ta)) (hK : ∀ c, (X c).K = K := by intro _; rfl) : DI K X tg e (iEZ dr) := by
  obtain ⟨ta, pa, sa⟩ := h
  refine ⟨Ez.iEz K ta, fun c => hK c ▸ pi c (pa c), ?_⟩
  intro B F ρ σ H P R I hd k
  refine sa B F ρ σ H _ _ I hd ?_
  intro vs ds F1 H1 p1 r1 s1
  obtain ⟨d1, d2, rfl, p1⟩ := p1
  cases r1 with
  | cons r1 r2 =>
    cases r2 with
    | cons r2 r3 =>
      cases r3
      obtain ⟨l, xs, rfl, hl, rl⟩ := r1.list_inv
      obtain ⟨m, ys, rfl, hm, rm⟩ := r2.list_inv
      exact ⟨l, m, xs, ys, rfl, ex_l s1.fh hl, ex_l s1.fh hm, k _ _ F1 H1 p1 s1 (iters_ez hl hm rl rm)⟩
/-! ### sum, max, min, all, any of a list; divmod -/
def gSum : List D → (D → Prop) → Prop
  | [.list ds], P => ∃ ns, intsOf ds = some ns ∧ P (.int ns.sum)
  | _, _ => False
theorem sum_d : CallD K (rSum K) gSum := by
  intro F H vs ds P Q e r h k
  match ds, h with
  | [.list ds], h =>
    obtain ⟨ns, h1, h⟩ := h
    cases r with
    | cons r1 r2 =>
      cases r2
      obtain ⟨l, xs, rfl, hl, rl⟩ := r1.list_inv
      rw [intsOf_eq h1] at rl
      have e1 := rl.ints_inv
      subst e1
      exact ⟨l, ns, rfl, ex_l e hl, k _ _ F H h (.int _) (Step.refl e)⟩
def gMaxL : List D → (D → Prop) → Prop
  | [.list ds], P => ∃ ns, intsOf ds = some ns ∧ 0 < ns.length ∧ ∀ m, m ∈ ns → (∀ y, y ∈ ns → y ≤ m) → P (.int m)
  | _, _ => False
theorem maxL_d : CallD K (rMax K) gMaxL := by
  intro F H vs ds P Q e r h k
  match ds, h with
  | [.list ds], h =>
    obtain ⟨ns, h1, h0, h⟩ := h
    cases r with
    | cons r1 r2 =>
      cases r2
      obtain ⟨l, xs, rfl, hl, rl⟩ := r1.list_inv
      rw [intsOf_eq h1] at rl
      have e1 := rl.ints_inv
      subst e1
      exact ⟨l, ns, rfl, ex_l e hl, h0, fun m h2 h3 => k _ _ F H (h m h2 h3) (.int _) (Step.refl e)⟩
def gMinL : List D → (D → Prop) → Prop
  | [.list ds], P => ∃ ns, intsOf ds = some ns ∧ 0 < ns.length ∧ ∀ m, m ∈ ns → (∀ y, y ∈ ns → m ≤ y) → P (.int m)
  | _, _ => False
theorem minL_d : CallD K (rMin K) gMinL := by
  intro F H vs ds P Q e r h k
  match ds, h with
  | [.list ds], h =>
    obtain ⟨ns, h1, h0, h⟩ := h
    cases r with
    | cons r1 r2 =>
      cases r2
      obtain ⟨l, xs, rfl, hl, rl⟩ := r1.list_inv
      rw [intsOf_eq h1] at rl
      have e1 := rl.ints_inv
      subst e1
      exact ⟨l, ns, rfl, ex_l e hl, h0, fun m h2 h3 => k _ _ F H (h m h2 h3) (.int _) (Step.refl e)⟩
theorem Reps.bools_inv {F : Hp} : ∀ {bs : List Bool} {vs : List V}, Reps K F vs (bs.map PyData.bool) → vs = bs.map V.bl
  | [], _, .nil => rfl
  | b :: bs, _, .cons r q => by
    rw [r.bool_inv, Reps.bools_inv q]
    rfl
def boolsOf : List D → Option (List Bool)
  | [] => some []
  | .bool i :: r => (boolsOf r).map (i :: ·)
  | _ :: _ => none
theorem boolsOf_map (ns : List Bool) : boolsOf (ns.map PyData.bool) = some ns := by
  induction ns with
  | nil => rfl
  | cons n ns ih =>
    show (boolsOf (ns.map PyData.bool)).map (n :: ·) = _
    rw [ih] <;> rfl
def gAll : List D → (D → Prop) → Prop
  | [.list ds], P => ∃ bs : List Bool, ds = bs.map PyData.bool ∧ P (.bool (bs.all id))
  | _, _ => False
theorem all_d : CallD K (rAll K) gAll := by
  intro F H vs ds P Q e r h k
  match ds, h with
  | [.list ds], h =>
    obtain ⟨bs, h1, h⟩ := h
    cases r with
    | cons r1 r2 =>
      cases r2
      obtain ⟨l, xs, rfl, hl, rl⟩ := r1.list_inv
      rw [h1] at rl
      have e1 := rl.bools_inv
      subst e1
      exact ⟨l, bs, rfl, ex_l e hl, k _ _ F H h (.bl _) (Step.refl e)⟩
def gAny : List D → (D → Prop) → Prop
  | [.list ds], P => ∃ bs : List Bool, ds = bs.map PyData.bool ∧ P (.bool (bs.any id))
  | _, _ => False
theorem any_d : CallD K (rAny K) gAny := by
  intro F H vs ds P Q e r h k
  match ds, h with
  | [.list ds], h =>
    obtain ⟨bs, h1, h⟩ := h
    cases r with
    | cons r1 r2 =>
      cases r2
      obtain ⟨l, xs, rfl, hl, rl⟩ := r1.list_inv
      rw [h1] at rl
      have e1 := rl.bools_inv
      subst e1
      exact ⟨l, bs, rfl, ex_l e hl, k _ _ F H h (.bl _) (Step.refl e)⟩
def gDivmod : List D → (D → Prop) → Prop
  | [.int i, .int j], P => (0 < j ∧ j < (big : Int)) ∧ P (.tuple [.int (i / j), .int (i % j)])
  | _, _ => False
theorem divmod_d : CallD K (fun xs H Q => ∃ i j, xs = [.int i, .int j] ∧ CDivP i j ∧ ∀ p, H p = none → Q (.ref p) (upd H p (.tup [.int (i / j), .int (i % j)]))) gDivmod := by
  intro F H vs ds P Q e r h k
  match ds, h with
  | [.int i, .int j], h =>
    cases r with
    | cons r1 r2 =>
      cases r2 with
      | cons r2 r3 =>
        cases r3
        cases r1.int_inv
        cases r2.int_inv
        have hw := wide_div (i := i) (b := 4000) h.1.1 (by have h1 := h.1.1; have h2 := h.1.2; show j.natAbs < big; omega) (by decide) (by decide)
        refine ⟨i, j, rfl, ⟨hw.1, PyProof.noPylong_of_log2 hw.2⟩, ?_⟩
        intro q hq
        have st := Step.new (o := .tup [.int (i / j), .int (i % j)]) e hq
        exact k _ _ _ _ h.2 (.tup (st_of upd_same) (.cons (.int _) (.cons (.int _) .nil))) st
/-! ### whether something is there, as a test -/
def truD : D → Bool
  | .none => false
  | .bool b => b
  | .int i => i != 0
  | .str y => ((y.length : Int) != 0)
  | .list ds => !ds.isEmpty
  | .tuple ds => !ds.isEmpty
  | .dict _ => false
def okTru : D → Prop
  | .dict _ => False
  | .str y => y.length ≤ sizeLine
  | _ => True
def dTru (da : DPr) : DTr := fun ρ P => da ρ fun x => okTru x ∧ P (truD x)
theorem tru_d {v : V} {d : D} (e : Ex F H) (r : Rep K F v d) (ok : okTru d) : TruV K v H (truD d) := by
  cases r with
  | non => rfl
  | bl b => rfl
  | int i => rfl
  | str x => exact ⟨ok, rfl⟩
  | lst h q =>
    refine Or.inl ⟨_, ex_l e h, ?_⟩
    cases q <;> rfl
  | tup h q =>
    refine Or.inr (Or.inl ⟨_, ex_t e h, ?_⟩)
    cases q <;> rfl
theorem dt_tru (h : DP K X e da) (hK : ∀ c, (X c).K = K := by intro _; rfl) (he : ∀ c whole, isTrue e (X c).env whole = (do let v ← whole; standAt e.pos; holding [v] (truthy v)) := by intro _ _; rfl) : DT K X e (dTru da) := by
  obtain ⟨te, p, s⟩ := h
  refine ⟨fun σ H Q => te σ H fun x H' => ∃ k, TruV K x H' k ∧ Q k H', fun c => hK c ▸ pt_truth (p c) (he c), ?_⟩
  intro B F ρ σ H P Q R hd k
  refine s B F ρ σ H _ _ R hd ?_
  intro v d F1 H1 p1 r1 s1
  exact ⟨_, tru_d s1.fh r1 p1.1, k _ F1 H1 p1.2 s1⟩
end
end Dl

set_option Elab.async false
set_option linter.all false
set_option maxRecDepth 100000
set_option maxHeartbeats 4000000
namespace Dl
open PySem PySem.Spec PyProof.Rows L2 Evl G
/-! ### a list that is being made stands beside what is told -/
def rmv (H : Hp) (Dl : Addr) : Hp := fun b => if b = Dl then none else H b
theorem rmv_self {H : Hp} {Dl : Addr} : rmv H Dl Dl = none := if_pos rfl
theorem rmv_ne {H : Hp} {Dl b : Addr} (h : b ≠ Dl) : rmv H Dl b = H b := if_neg h
theorem rmv_some {H : Hp} {Dl b : Addr} {o : HO} (h : rmv H Dl b = some o) : b ≠ Dl ∧ H b = some o := by
  by_cases q : b = Dl
  · subst q
    rw [rmv_self] at h
    cases h
  · rw [rmv_ne q] at h
    exact ⟨q, h⟩
open Classical in
noncomputable def besides (B : Cd) (Dl : Addr) : Cd := ⟨B.F0, upd B.B Dl (.lst []), if B.cell = some Dl then none else B.cell⟩
section
variable {K : PySem.W.Frag} {B : Cd} {F F' H H' : Hp} {ρ : Env} {σ : L2.St} {Dl : Addr}
theorem RelP.beside (R : RelP K B F ρ σ H) (h : H Dl = none) : RelP K (besides B Dl) F ρ σ H := by
  refine ⟨R.fh, R.len, ?_, R.ne⟩
  intro i s o h1 h2
  have ok := R.ok i s o h1 h2
  have away : ∀ {p : Addr} {u : HO}, H p = some u → p ≠ Dl := fun {p u} e z => by
    subst z
    rw [h] at e
    cases e
  cases s with
  | no => exact ok
  | any => trivial
  | dat d => exact ok
  | own ds =>
    obtain ⟨p, xs, a, b, c, d, e⟩ := ok
    exact ⟨p, xs, a, b, by show upd B.B Dl _ p = none; rw [upd_ne (away d)]; exact c, d, e⟩
  | cel ds =>
    obtain ⟨p, xs, a, b, c, d, e⟩ := ok
    refine ⟨p, xs, a, b, ?_, d, e⟩
    show (if B.cell = some Dl then none else B.cell) = some p
    rw [if_neg (by rw [c]; intro z; cases z; exact away d rfl)]
    exact c
  | obj u =>
    obtain ⟨p, a, b, c, d⟩ := ok
    exact ⟨p, a, b, by show upd B.B Dl _ p = none; rw [upd_ne (away d)]; exact c, d⟩
theorem RelP.rm (R : RelP K (besides B Dl) F ρ σ H) (h : F Dl = none) : RelP K (besides B Dl) F ρ σ (rmv H Dl) := by
  have n1 : ∀ {p : Addr}, (besides B Dl).B p = none → p ≠ Dl := fun {p} e z => by
    subst z
    have e' : upd B.B p (.lst []) p = none := e
    rw [upd_same] at e'
    cases e'
  have n2 : ∀ {p : Addr}, (besides B Dl).cell = some p → p ≠ Dl := fun {p} e z => by
    subst z
    have e' : (if B.cell = some p then none else B.cell) = some p := e
    split at e'
    · cases e'
    · rename_i q
      exact q e'
  refine ⟨?_, R.len, ?_, R.ne⟩
  · intro a o e
    have : a ≠ Dl := fun z => by
      subst z
      rw [h] at e
      cases e
    rw [rmv_ne this]
    exact R.fh a o e
  · intro i s o h1 h2
    have ok := R.ok i s o h1 h2
    cases s with
    | no => exact ok
    | any => trivial
    | dat d => exact ok
    | own ds =>
      obtain ⟨p, xs, a, b, c, d, e⟩ := ok
      exact ⟨p, xs, a, b, c, by rw [rmv_ne (n1 c)]; exact d, e⟩
    | cel ds =>
      obtain ⟨p, xs, a, b, c, d, e⟩ := ok
      exact ⟨p, xs, a, b, c, by rw [rmv_ne (n2 c)]; exact d, e⟩
    | obj u =>
      obtain ⟨p, a, b, c, d⟩ := ok
      exact ⟨p, a, b, c, by rw [rmv_ne (n1 c)]; exact d⟩
theorem ex_rmv (e : Ex H H') : Ex (rmv H Dl) H' := fun a o h => e a o (rmv_some h).2
/-! ### two generators, nothing changed -/
def dLc2 (di : DIr) (dg : DGr) (dt : DTr) (di1 : DIr) (dg1 : DGr) (dt1 : DTr) (de : DPr) (vs vs1 : List Nat) : DAr := fun ρ P => di ρ fun ds => ∃ I : Nat → List D → Prop, I 0 [] ∧
  (∀ i d acc, ds[i]? = some d → I i acc → dg d (wipeD ρ vs) fun ρ' => dt ρ' fun b => if b = true then
    di1 ρ' fun es => ∃ J : Nat → List D → Prop, J 0 acc ∧
      (∀ j x acc', es[j]? = some x → J j acc' → dg1 x (wipeD ρ' vs1) fun ρ2 => dt1 ρ2 fun c => if c = true then de ρ2 fun y => acc'.length < 100000 ∧ J (j + 1) (acc' ++ [y]) else J (j + 1) acc') ∧
      ∀ acc', J es.length acc' → I (i + 1) acc'
    else I (i + 1) acc) ∧
  ∀ acc, I ds.length acc → P acc
theorem sim_lc2 {wi wi1 : TI} {g g1 : TG} {tt tt1 : TT} {te : TE} {di di1 : DIr} {dg dg1 : DGr} {dt dt1 : DTr} {de : DPr} {vs vs1 sl sl1 : List Nat} (si : SimI K wi di) (sg : SimG K g dg sl) (st : SimT K tt dt)
    (si1 : SimI K wi1 di1) (sg1 : SimG K g1 dg1 sl1) (st1 : SimT K tt1 dt1) (se : SimP K te de) (hsl : ∀ i ∈ sl, i ∈ vs) (hsl1 : ∀ i ∈ sl1, i ∈ vs1) :
    SimN K (tLc2 wi g tt wi1 g1 tt1 te vs vs1) (dLc2 di dg dt di1 dg1 dt1 de vs vs1) := by
  intro B F ρ σ H P Q R hd k
  refine si B F ρ σ H _ _ R hd ?_
  intro ds J F1 H1 p1 s1 its
  obtain ⟨Inv, i0, turn, fin⟩ := p1
  intro Dl hD
  have R1 := (R.step s1).beside hD
  have fD1 : F1 Dl = none := fresh_back s1.fh hD
  refine ⟨fun i m H2 => m = ds.length - i ∧ i ≤ ds.length ∧ ∃ acc F2, Inv i acc ∧ LcAt K F1 H1 Dl acc F2 H2, ⟨ds.length, by simp, Nat.zero_le _, [], F1, i0, ?_⟩, ?_⟩
  · exact ⟨Ex.refl F1, s1.fh.trans (Ex.new hD), Ex.new hD, fun a h _ => h, fD1, ⟨[], upd_same, .nil⟩⟩
  · rintro i m H2 ⟨rfl, hi, acc, F2, hI, L⟩
    obtain ⟨xs, hDl, rxs⟩ := L.at_
    by_cases hlt : i < ds.length
    · right
      have hget : ds[i]? = some ds[i] := List.getElem?_eq_getElem hlt
      obtain ⟨hgo, hy⟩ := (its F2 H2 i L.ff L.fh).1 _ hget
      refine ⟨hgo, fun H' => ∃ acc' F', Inv (i + 1) acc' ∧ LcAt K F1 H1 Dl acc' F' H', ?_, ?_⟩
      · rintro H' ⟨acc', F', h1, h2⟩
        exact ⟨ds.length - (i + 1), by omega, rfl, hlt, acc', F', h1, h2⟩
      · intro x H3 y3
        obtain ⟨F3, s3, r3⟩ := hy x H3 y3
        have s13 : Step F1 H1 F3 H3 := ⟨L.ff.trans s3.ff, s3.fh, L.hh.trans s3.hh, fun a h1 h2 => s3.nn a (L.nn a h1 h2) (ex_some L.hh h2)⟩
        have f3 : F3 Dl = none := s3.nn Dl L.fd (by rw [hDl]; exact Option.some_ne_none _)
        have R3 : RelP K (besides B Dl) F3 (wipeD ρ vs) (wipe σ vs) H3 := (R1.step s13).wiped vs
        refine sg _ F3 _ _ H3 x ds[i] _ _ R3 r3 (turn i _ acc hget hI) ?_
        intro ρ4 σ4 p4 R4 w4
        refine ⟨by rw [w4 vs hsl, wipe_wipe], ?_⟩
        refine st _ F3 ρ4 σ4 H3 _ _ R4 p4 ?_
        intro b F5 H5 p5 s5
        have s15 : Step F1 H1 F5 H5 := s13.trans s5
        have f5 : F5 Dl = none := s5.nn Dl f3 (by rw [s3.hh _ _ hDl]; exact Option.some_ne_none _)
        have hD5 : H5 Dl = some (.lst xs) := s5.hh _ _ (s3.hh _ _ hDl)
        cases b with
        | false =>
          exact ⟨acc, F5, p5, s15.ff, s15.fh, s15.hh, s15.nn, f5, ⟨xs, hD5, rxs.mono (s3.ff.trans s5.ff)⟩⟩
        | true =>
          refine si1 _ F5 ρ4 σ4 H5 _ _ (R4.step s5) p5 ?_
          intro es J1 F6 H6 p6 s6 its1
          obtain ⟨Jv, j0, turn1, fin1⟩ := p6
          have s16 : Step F1 H1 F6 H6 := s15.trans s6
          have f6 : F6 Dl = none := s6.nn Dl f5 (by rw [hD5]; exact Option.some_ne_none _)
          have hD6 : H6 Dl = some (.lst xs) := s6.hh _ _ hD5
          have R6 : RelP K (besides B Dl) F6 ρ4 σ4 (rmv H6 Dl) := ((R4.step s5).step s6).rm f6
          refine ⟨fun j m H7 => m = es.length - j ∧ j ≤ es.length ∧ ∃ acc' F7, Jv j acc' ∧ LcAt K F6 (rmv H6 Dl) Dl acc' F7 H7, ⟨es.length, by simp, Nat.zero_le _, acc, F6, j0, ?_⟩, ?_⟩
          · exact ⟨Ex.refl F6, s6.fh, ex_rmv (Ex.refl H6), fun a h _ => h, f6, ⟨xs, hD6, rxs.mono ((s3.ff.trans s5.ff).trans s6.ff)⟩⟩
          · rintro j m7 H7 ⟨rfl, hj, acc', F7, hJ, L7⟩
            obtain ⟨ys, hDl7, rys⟩ := L7.at_
            by_cases hlt7 : j < es.length
            · right
              have hget7 : es[j]? = some es[j] := List.getElem?_eq_getElem hlt7
              obtain ⟨hgo7, hy7⟩ := (its1 F7 H7 j L7.ff L7.fh).1 _ hget7
              refine ⟨hgo7, fun H' => ∃ acc2 F', Jv (j + 1) acc2 ∧ LcAt K F6 (rmv H6 Dl) Dl acc2 F' H', ?_, ?_⟩
              · rintro H' ⟨acc2, F', h1, h2⟩
                exact ⟨es.length - (j + 1), by omega, rfl, hlt7, acc2, F', h1, h2⟩
              · intro x8 H8 y8
                obtain ⟨F8, s8, r8⟩ := hy7 x8 H8 y8
                have s68 : Step F6 (rmv H6 Dl) F8 H8 := ⟨L7.ff.trans s8.ff, s8.fh, L7.hh.trans s8.hh, fun a h1 h2 => s8.nn a (L7.nn a h1 h2) (ex_some L7.hh h2)⟩
                have f8 : F8 Dl = none := s8.nn Dl L7.fd (by rw [hDl7]; exact Option.some_ne_none _)
                have R8 : RelP K (besides B Dl) F8 (wipeD ρ4 vs1) (wipe σ4 vs1) H8 := (R6.step s68).wiped vs1
                refine sg1 _ F8 _ _ H8 x8 es[j] _ _ R8 r8 (turn1 j _ acc' hget7 hJ) ?_
                intro ρ9 σ9 p9 R9 w9
                refine ⟨by rw [w9 vs1 hsl1, wipe_wipe], ?_⟩
                refine st1 _ F8 ρ9 σ9 H8 _ _ R9 p9 ?_
                intro c F10 H10 p10 s10
                have s610 : Step F6 (rmv H6 Dl) F10 H10 := s68.trans s10
                have f10 : F10 Dl = none := s10.nn Dl f8 (by rw [s8.hh _ _ hDl7]; exact Option.some_ne_none _)
                have hD10 : H10 Dl = some (.lst ys) := s10.hh _ _ (s8.hh _ _ hDl7)
                cases c with
                | false => exact ⟨acc', F10, p10, s610.ff, s610.fh, s610.hh, s610.nn, f10, ⟨ys, hD10, rys.mono (s8.ff.trans s10.ff)⟩⟩
                | true =>
                  refine se _ F10 ρ9 σ9 H10 _ _ (R9.step s10) p10 ?_
                  intro y d F11 H11 p11 r11 s11
                  have s611 : Step F6 (rmv H6 Dl) F11 H11 := s610.trans s11
                  have f11 : F11 Dl = none := s11.nn Dl f10 (by rw [hD10]; exact Option.some_ne_none _)
                  have hD11 : H11 Dl = some (.lst ys) := s11.hh _ _ hD10
                  have rx := rys.mono ((s8.ff.trans s10.ff).trans s11.ff)
                  refine ⟨ys, hD11, ?_, acc' ++ [d], F11, p11.2, s611.ff, ?_, ?_, s611.nn, f11, ⟨ys ++ [y], upd_same, rx.append (.one r11)⟩⟩
                  · rw [rys.length]
                    exact sz_lt p11.1
                  · exact upd_lst_step (F' := F11) (H' := H11) f11 s611.fh
                  · intro a u h
                    rw [upd_ne (rmv_some h).1]
                    exact s611.hh a u h
            · left
              have ej : j = es.length := by omega
              subst ej
              refine ⟨(its1 F7 H7 _ L7.ff L7.fh).2 (Nat.le_refl _), acc', F7, fin1 acc' hJ, s16.ff.trans L7.ff, L7.fh, ?_, ?_, L7.fd, ⟨ys, hDl7, rys⟩⟩
              · intro a o h
                have np : a ≠ Dl := fun z => by
                  subst z
                  rw [hD] at h
                  cases h
                exact L7.hh a o (by rw [rmv_ne np]; exact s16.hh a o h)
              · intro a h1 h2
                have np : a ≠ Dl := fun z => by
                  subst z
                  exact h2 hD
                exact L7.nn a (s16.nn a h1 h2) (by rw [rmv_ne np]; exact ex_some s16.hh h2)
    · left
      have ei : i = ds.length := by omega
      subst ei
      refine ⟨(its F2 H2 _ L.ff L.fh).2 (Nat.le_refl _), ?_⟩
      have hH : H Dl = none := fresh_back s1.hh hD
      exact k Dl xs acc F2 H2 (fin acc hI) hH L.fd hDl rxs (s1.trans ⟨L.ff, L.fh, L.hh, L.nn⟩)
end
section
variable {ι : Type} {K : PySem.W.Frag} {X : ι → Cx} {e a b c : Expr} {pos p : Pos} {es : List Expr} {dn : DAr} {st : Stmt}
theorem dn_lc2 {elt tg iter tg1 iter1 : Expr} {ifs ifs1 : List Expr} {scope : Scope} {own : List (Str × Nat)} {vs1 : List Nat} {di di1 : DIr} {dg dg1 : DGr} {dt dt1 : DTr} {de : DPr} {sl sl1 : List Nat}
    (hi : DI K X tg iter di) (hg : DG K (blkX X scope) tg dg sl) (ht : DTs K (blkX X scope) ifs dt) (hi1 : DI K (blkX X scope) tg1 iter1 di1) (hg1 : DG K (blkX X scope) tg1 dg1 sl1) (ht1 : DTs K (blkX X scope) ifs1 dt1) (he : DP K (blkX X scope) elt de)
    (ok : ∀ c, BlkOk (X c).N (X c).env.scope scope own) (hN : ∀ c, (X c).N.Nodup) (hv : ∀ i ∈ vs1, i ∈ own.map (·.2) := by decide) (hsl : ∀ i ∈ sl, i ∈ own.map (·.2) := by decide) (hsl1 : ∀ i ∈ sl1, i ∈ vs1 := by decide) (hc : ∀ c, (X c).calm = true := by intro _; rfl)
    (hs : ∀ c x, foldedSetIterable iter (X c).env x = pure x := by intro _ _; rfl) (hs1 : ∀ env x, foldedSetIterable iter1 env x = pure x := by intro _ _; rfl) :
    DN K X (.ListComp elt [⟨tg, iter, ifs, 0⟩, ⟨tg1, iter1, ifs1, 0⟩] scope pos) (dLc2 di dg dt di1 dg1 dt1 de (own.map (·.2)) vs1) := by
  obtain ⟨wi, pi, si⟩ := hi
  obtain ⟨g, pg, sg⟩ := hg
  obtain ⟨tt, pt, st⟩ := ht
  obtain ⟨wi1, pi1, si1⟩ := hi1
  obtain ⟨g1, pg1, sg1⟩ := hg1
  obtain ⟨tt1, pt1, st1⟩ := ht1
  obtain ⟨te, pe, se⟩ := he
  exact ⟨_, fun c => pe_lc2 (hc c) (hN c) (pi c) (ok c) hv (fun s H C cl fp => pg (c, s, H, C, cl, fp)) (fun s H C cl fp => pt (c, s, H, C, cl, fp)) (fun s H C cl fp => pi1 (c, s, H, C, cl, fp)) (fun s H C cl fp => pg1 (c, s, H, C, cl, fp)) (fun s H C cl fp => pt1 (c, s, H, C, cl, fp)) (fun s H C cl fp => pe (c, s, H, C, cl, fp)) (hs c) hs1, sim_lc2 si sg st si1 sg1 st1 se hsl hsl1⟩
theorem dns_lc2 {i : Nat} {y : Str} {py spos : Pos} {elt tg iter tg1 iter1 : Expr} {ifs ifs1 : List Expr} {scope : Scope} {own : List (Str × Nat)} {vs1 : List Nat} {di di1 : DIr} {dg dg1 : DGr} {dt dt1 : DTr} {de : DPr} {sl sl1 : List Nat}
    (hi : DI K X tg iter di) (hg : DG K (blkX X scope) tg dg sl) (ht : DTs K (blkX X scope) ifs dt) (hi1 : DI K (blkX X scope) tg1 iter1 di1) (hg1 : DG K (blkX X scope) tg1 dg1 sl1) (ht1 : DTs K (blkX X scope) ifs1 dt1) (he : DP K (blkX X scope) elt de)
    (hy : ∀ c, (X c).N[i]? = some y) (hyl : ∀ c, (X c).env.scope.names.lookup y = some .local) (hsw : ∀ c, swapsWith (.ListComp elt [⟨tg, iter, ifs, 0⟩, ⟨tg1, iter1, ifs1, 0⟩] scope pos) (some (.Name y py)) spos.line (X c).env = pure true)
    (ok : ∀ c, BlkOk (X c).N (X c).env.scope scope own) (hN : ∀ c, (X c).N.Nodup) (hv : ∀ i ∈ vs1, i ∈ own.map (·.2) := by decide) (hsl : ∀ i ∈ sl, i ∈ own.map (·.2) := by decide) (hsl1 : ∀ i ∈ sl1, i ∈ vs1 := by decide) (hc : ∀ c, (X c).calm = true := by intro _; rfl)
    (hs : ∀ c x, foldedSetIterable iter (X c).env x = pure x := by intro _ _; rfl) (hs1 : ∀ env x, foldedSetIterable iter1 env x = pure x := by intro _ _; rfl) :
    DNS K X i (.Assign [.Name y py] (.ListComp elt [⟨tg, iter, ifs, 0⟩, ⟨tg1, iter1, ifs1, 0⟩] scope pos) spos) (dLc2 di dg dt di1 dg1 dt1 de (own.map (·.2)) vs1) := by
  obtain ⟨wi, pi, si⟩ := hi
  obtain ⟨g, pg, sg⟩ := hg
  obtain ⟨tt, pt, st⟩ := ht
  obtain ⟨wi1, pi1, si1⟩ := hi1
  obtain ⟨g1, pg1, sg1⟩ := hg1
  obtain ⟨tt1, pt1, st1⟩ := ht1
  obtain ⟨te, pe, se⟩ := he
  exact ⟨_, fun c => ps_setLc2 (hc c) (hN c) (hy c) (hyl c) (hsw c) (pi c) (ok c) hv (fun s H C cl fp => pg (c, s, H, C, cl, fp)) (fun s H C cl fp => pt (c, s, H, C, cl, fp)) (fun s H C cl fp => pi1 (c, s, H, C, cl, fp)) (fun s H C cl fp => pg1 (c, s, H, C, cl, fp)) (fun s H C cl fp => pt1 (c, s, H, C, cl, fp)) (fun s H C cl fp => pe (c, s, H, C, cl, fp)) (hs c) hs1, sim_lc2 si sg st si1 sg1 st1 se hsl hsl1⟩
end
end Dl

set_option Elab.async false
set_option linter.all false
set_option maxRecDepth 100000
set_option maxHeartbeats 4000000
namespace Dl
open PySem PySem.Spec PyProof.Rows L2 Evl G
/-! ### what is walked, reckoned by what may change a list -/
abbrev EIr := Env → (List D → Env → Prop) → Prop
def SimEI (K : PySem.W.Frag) (wi : TI) (di : EIr) : Prop :=
  ∀ (c : Cd) (F : Hp) (ρ : Env) (σ : L2.St) (H : Hp) (P : List D → Env → Prop) (R : It → Hp → Prop), Rel K c F ρ σ H → di ρ P →
    (∀ ds J F' ρ' H', P ds ρ' → Ex F F' → Rel K c F' ρ' σ H' → Iters K F' J ds → R J H') → wi σ H R
def DEI {ι : Type} (K : PySem.W.Frag) (X : ι → Cx) (tg iter : Expr) (di : EIr) : Prop := ∃ wi, (∀ c, PI (X c) tg iter wi) ∧ SimEI K wi di
/-- a new list, reckoned by what may change a list -/
abbrev ENr := Env → (List D → Env → Prop) → Prop
def SimEN (K : PySem.W.Frag) (te : TE) (dn : ENr) : Prop :=
  ∀ (c : Cd) (F : Hp) (ρ : Env) (σ : L2.St) (H : Hp) (P : List D → Env → Prop) (Q : VK), Rel K c F ρ σ H → dn ρ P →
    (∀ p vs ds F' ρ' H', P ds ρ' → F' p = none → c.B p = none → H' p = some (.lst vs) → Reps K F' vs ds → Ex F F' → Rel K c F' ρ' σ H' →
      (∀ (j : Nat) (t : Slot), ρ'[j]? = some t → t.owns = true → σ[j]? ≠ some (some (.ref p))) → Q (.ref p) H') → te σ H Q
def DEN {ι : Type} (K : PySem.W.Frag) (X : ι → Cx) (e : Expr) (dn : ENr) : Prop := ∃ te, (∀ c, PE (X c) e te) ∧ SimEN K te dn
def DENS {ι : Type} (K : PySem.W.Frag) (X : ι → Cx) (i : Nat) (st : Stmt) (dn : ENr) : Prop := ∃ te, (∀ c, PS (X c) st (tAsg te (gName i))) ∧ SimEN K te dn
section
variable {ι : Type} {K : PySem.W.Frag} {X : ι → Cx} {e a b : Expr} {pos p : Pos} {es : List Expr} {dn : ENr} {st : Stmt} {dr : EAr} {ds : DSr} {body : List Stmt}
def eiP (di : DIr) : EIr := fun ρ P => di ρ fun ds => P ds ρ
theorem dei_p {tg iter : Expr} {di : DIr} (h : DI K X tg iter di) : DEI K X tg iter (eiP di) := by
  obtain ⟨wi, p, s⟩ := h
  refine ⟨wi, p, ?_⟩
  intro c F ρ σ H P R I hd k
  refine s c F ρ σ H _ R I.p hd ?_
  intro ds J F' H' p st its
  exact k ds J F' ρ H' p st.ff (I.step st) its
def eiR1 (dr : EAr) : EIr := fun ρ P => dr ρ fun xs ρ1 => ∃ n, xs = [.int n] ∧ (-(2 ^ 62) ≤ n ∧ n < 2 ^ 62) ∧ P (rangeD 0 n.toNat) ρ1
theorem dei_range1 {tg : Expr} (h : DAE K X [a] dr) (pi : ∀ c {ta : TA}, PA (X c) [a] ta → PI (X c) tg e (iRng1 ta)) : DEI K X tg e (eiR1 dr) := by
  obtain ⟨ta, pa, sa⟩ := h
  refine ⟨_, fun c => pi c (pa c), ?_⟩
  intro c F ρ σ H P R I hd k
  refine sa c F ρ σ H _ _ I hd ?_
  intro vs ds F1 ρ1 H1 p1 r1 e1 R1
  obtain ⟨n, rfl, hn, p1⟩ := p1
  cases r1 with
  | cons r1 r2 =>
    cases r2
    cases r1.int_inv
    exact ⟨n, rfl, hn.1, hn.2, k _ _ F1 ρ1 H1 p1 e1 R1 (iters_range 0 n.toNat)⟩
/-- for target in iter: body -/
def sForE (di : EIr) (g : DGr) (s : DSr) : DSr := fun M ρ => di ρ fun xs ρ0 => ∃ I : Nat → Env → Prop, I 0 ρ0 ∧
  (∀ i d ρ1, xs[i]? = some d → I i ρ1 → g d ρ1 fun ρ2 => s { M with nx := I (i + 1), ct := I (i + 1), bk := M.nx } ρ2) ∧ ∀ ρ1, I xs.length ρ1 → M.nx ρ1
theorem ds_forE {tg iter : Expr} {di : EIr} {g : DGr} {sl : List Nat} (hi : DEI K X tg iter di) (hg : DG K X tg g sl) (hb : DSs K X body ds) (hp : ∀ c, PassesOwn (model (X c).prog (X c).w) (X c).A (X c).env (X c).xe)
    (hc : ∀ c, (X c).calm = true := by intro _; rfl) (hs : ∀ c x, foldedSetIterable iter (X c).env x = pure x := by intro _ _; rfl) : DS K X (.For tg iter body [] pos) (sForE di g ds) := by
  obtain ⟨wi, pi, si⟩ := hi
  obtain ⟨t, pg, sg⟩ := hg
  obtain ⟨tb, pb, sb⟩ := hb
  refine ⟨_, fun c => ps_for (hp c) (hc c) (pi c) (pg c) (pb c) (hs c), ?_⟩
  intro c F ρ σ H M E R hd k
  refine si c F ρ σ H _ _ R hd ?_
  intro xs J F1 ρ0 H1 m1 e1 R1 its
  obtain ⟨I, i0, turn, fin⟩ := m1
  refine ⟨fun i m σ' H' => m = xs.length - i ∧ i ≤ xs.length ∧ ∃ F' ρ', I i ρ' ∧ Ex F1 F' ∧ Rel K c F' ρ' σ' H', ⟨xs.length, by simp, Nat.zero_le _, F1, ρ0, i0, Ex.refl F1, R1⟩, ?_⟩
  rintro i m σ2 H2 ⟨rfl, hi, F2, ρ2, i2, e2, R2⟩
  by_cases hlt : i < xs.length
  · right
    have hget : xs[i]? = some xs[i] := List.getElem?_eq_getElem hlt
    obtain ⟨hgo, hy⟩ := (its F2 H2 i e2 R2.p.fh).1 _ hget
    refine ⟨hgo, fun σ' H' => ∃ F' ρ', I (i + 1) ρ' ∧ Ex F1 F' ∧ Rel K c F' ρ' σ' H', ?_, ?_⟩
    · rintro σ' H' ⟨F', ρ', h1, h2, h3⟩
      exact ⟨xs.length - (i + 1), by omega, rfl, hlt, F', ρ', h1, h2, h3⟩
    · intro x H3 y3
      obtain ⟨F3, s3, r3⟩ := hy x H3 y3
      have R3 := R2.step s3
      refine sg c F3 ρ2 σ2 H3 x xs[i] _ _ R3.p r3 (turn i _ ρ2 hget i2) ?_
      intro ρ4 σ4 m4 R4 _
      have e14 : Ex F1 F3 := e2.trans s3.ff
      refine sb c F3 ρ4 σ4 H3 _ _ ⟨R4, R3.b, R3.f0, R3.z, R3.cl⟩ m4 ⟨?_, ?_, ?_, ?_, ?_⟩
      · intro F5 ρ5 σ5 H5 m5 e5 R5
        exact ⟨F5, ρ5, m5, e14.trans e5, R5⟩
      · intro F5 ρ5 σ5 H5 m5 e5 R5
        exact k.nx F5 ρ5 σ5 H5 m5 ((e1.trans e14).trans e5) R5
      · intro F5 ρ5 σ5 H5 m5 e5 R5
        exact ⟨F5, ρ5, m5, e14.trans e5, R5⟩
      · intro v d F5 ρ5 σ5 H5 m5 r5 e5 R5
        exact k.rt v d F5 ρ5 σ5 H5 m5 r5 ((e1.trans e14).trans e5) R5
      · intro p vs xs F5 ρ5 σ5 H5 m5 q1 q2 q3 q4 e5 R5
        exact k.rn p vs xs F5 ρ5 σ5 H5 m5 q1 q2 q3 q4 ((e1.trans e14).trans e5) R5
  · left
    have ei : i = xs.length := by omega
    subst ei
    exact ⟨(its F2 H2 _ e2 R2.p.fh).2 (Nat.le_refl _), k.nx F2 ρ2 σ2 H2 (fin ρ2 i2) (e1.trans e2) R2⟩
/-! ### comprehensions whose elements may change a list -/
def restD (ρ0 ρ : Env) : List Nat → Env
  | [] => ρ
  | v :: vs => (restD ρ0 ρ vs).set v (ρ0.getD v .any)
theorem restD_len (ρ0 ρ : Env) : ∀ vs, (restD ρ0 ρ vs).length = ρ.length
  | [] => rfl
  | v :: vs => by
    unfold restD
    rw [List.length_set]
    exact restD_len ρ0 ρ vs
theorem restD_at (ρ0 ρ : Env) (h : ρ0.length = ρ.length) : ∀ (vs : List Nat) (j : Nat), (restD ρ0 ρ vs)[j]? = if j ∈ vs then ρ0[j]? else ρ[j]?
  | [], j => by simp [restD]
  | v :: vs, j => by
    unfold restD
    have ih := restD_at ρ0 ρ h vs j
    by_cases q : v = j
    · subst q
      by_cases hv : v < ρ.length
      · rw [List.getElem?_set_self (by rw [restD_len]; exact hv)]
        have hv0 : v < ρ0.length := by omega
        simp [List.getD_eq_getElem?_getD, List.getElem?_eq_getElem hv0]
      · rw [List.getElem?_eq_none (by rw [List.length_set, restD_len]; omega)]
        rw [if_pos List.mem_cons_self, List.getElem?_eq_none (by omega)]
    · rw [List.getElem?_set_ne q, ih]
      have e : (j ∈ v :: vs) ↔ (j ∈ vs) := by
        constructor
        · intro z
          rcases List.mem_cons.mp z with z | z
          · exact absurd z.symm q
          · exact z
        · exact List.mem_cons_of_mem _
      by_cases z : j ∈ vs
      · rw [if_pos z, if_pos (e.mpr z)]
      · rw [if_neg z, if_neg (fun y => z (e.mp y))]
def noOwn (ρ : Env) (vs : List Nat) : Bool := vs.all fun j => !ownsAt ρ j
/-- back from the block's own names -/
theorem Rel.rest {c : Cd} {F0 F H0 H : Hp} {ρ0 ρ : Env} {σ σ' : L2.St} {vs : List Nat} (R0 : Rel K c F0 ρ0 σ H0) (R : Rel K c F ρ σ' H) (e : Ex F0 F) (w : wipe σ' vs = wipe σ vs) (n : noOwn ρ0 vs = true) : Rel K c F (restD ρ0 ρ vs) σ H := by
  have l1 := R0.p.len
  have l2 := R.p.len
  have l3 : σ'.length = σ.length := by
    have := congrArg List.length w
    rwa [wipe_length, wipe_length] at this
  have hl : ρ0.length = ρ.length := by omega
  have at_ : ∀ j, j ∉ vs → σ'[j]? = σ[j]? := by
    intro j hj
    have := congrArg (fun l => l[j]?) w
    rw [wipe_at, wipe_at, if_neg hj, if_neg hj] at this
    exact this
  have non : ∀ j t, j ∈ vs → ρ0[j]? = some t → t.owns = false := by
    intro j t hj ht
    have := List.all_eq_true.mp n j hj
    unfold ownsAt at this
    rw [ht] at this
    simpa using this
  refine ⟨⟨R.p.fh, by rw [restD_len]; omega, ?_, ?_⟩, R.b, R.f0, R.z, R.cl⟩
  · intro i s o h1 h2
    rw [restD_at ρ0 ρ hl] at h1
    split at h1
    · rename_i hi
      have ok := R0.p.ok i s o h1 h2
      have ow := non i s hi h1
      cases s with
      | no => exact ok
      | any => trivial
      | dat d =>
        obtain ⟨v, z, r⟩ := ok
        exact ⟨v, z, r.mono e⟩
      | own _ => cases ow
      | cel _ => cases ow
      | obj _ => cases ow
    · rename_i hi
      exact R.p.ok i s o h1 (by rw [at_ i hi]; exact h2)
  · intro i j s t q hij h1 h2 o1 o2 s1 s2
    rw [restD_at ρ0 ρ hl] at h1 h2
    split at h1
    · rename_i hi
      rw [non i s hi h1] at o1
      cases o1
    · rename_i hi
      split at h2
      · rename_i hj
        rw [non j t hj h2] at o2
        cases o2
      · rename_i hj
        exact R.p.ne i j s t q hij h1 h2 o1 o2 (by rw [at_ i hi]; exact s1) (by rw [at_ j hj]; exact s2)
def eLc (di : EIr) (dg : DGr) (dt : DTr) (de : EPr) (vs : List Nat) : ENr := fun ρ P => di ρ fun ds ρ0 => ds.length ≤ 100000 ∧ noOwn ρ0 vs = true ∧ ∃ I : Nat → List D → Env → Prop, I 0 [] ρ0 ∧
  (∀ i d acc ρ1, ds[i]? = some d → acc.length ≤ i → I i acc ρ1 → dg d (wipeD ρ1 vs) fun ρ2 => dt ρ2 fun b => if b = true then de ρ2 fun y ρ3 => I (i + 1) (acc ++ [y]) (restD ρ0 ρ3 vs) else I (i + 1) acc ρ1) ∧
  ∀ acc ρ1, acc.length ≤ ds.length → I ds.length acc ρ1 → P acc ρ1
theorem Rel.besideB {c : Cd} {F H : Hp} {ρ : Env} {σ : L2.St} {Dl : Addr} {u : HO} (R : Rel K c F ρ σ H) (hl : H Dl = some u) (f : F Dl = none) (nc : c.cell ≠ some Dl)
    (far : ∀ (j : Nat) (t : Slot), ρ[j]? = some t → t.owns = true → σ[j]? ≠ some (some (.ref Dl))) : Rel K ⟨c.F0, upd c.B Dl u, c.cell⟩ F ρ σ H := by
  refine ⟨⟨R.p.fh, R.p.len, ?_, R.p.ne⟩, ?_, R.f0, ?_, R.cl⟩
  · intro i s o h1 h2
    have ok := R.p.ok i s o h1 h2
    have aw : s.owns = true → ∀ p, o = some (.ref p) → p ≠ Dl := by
      intro o1 p z y
      subst z
      subst y
      exact far i s h1 o1 h2
    cases s with
    | no => exact ok
    | any => trivial
    | dat d => exact ok
    | own ds =>
      obtain ⟨p, xs, a, b, c', d, e⟩ := ok
      exact ⟨p, xs, a, b, by show upd c.B Dl u p = none; rw [upd_ne (aw rfl p a)]; exact c', d, e⟩
    | cel ds => exact ok
    | obj v =>
      obtain ⟨p, a, b, c', d⟩ := ok
      exact ⟨p, a, b, by show upd c.B Dl u p = none; rw [upd_ne (aw rfl p a)]; exact c', d⟩
  · intro a o q z
    have z' : upd c.B Dl u a = some o := z
    by_cases y : a = Dl
    · subst y
      rw [upd_same] at z'
      rw [hl]
      exact z'
    · rw [upd_ne y] at z'
      exact R.b a o q z'
  · intro a h1 h2
    have h1' : upd c.B Dl u a ≠ none := h1
    by_cases y : a = Dl
    · subst y
      exact f
    · rw [upd_ne y] at h1'
      exact R.z a h1' h2
/-- .. and back: the list stands as it stood -/
theorem Rel.backB {c : Cd} {F H : Hp} {ρ : Env} {σ : L2.St} {Dl : Addr} {u : HO} (R : Rel K ⟨c.F0, upd c.B Dl u, c.cell⟩ F ρ σ H) (b0 : c.B Dl = none) (f0 : c.F0 Dl = none) (nc : c.cell ≠ some Dl) :
    Rel K c F ρ σ H ∧ H Dl = some u ∧ F Dl = none ∧ ∀ (j : Nat) (t : Slot), ρ[j]? = some t → t.owns = true → σ[j]? ≠ some (some (.ref Dl)) := by
  have np : ∀ p, upd c.B Dl u p = none → p ≠ Dl ∧ c.B p = none := by
    intro p z
    have y : p ≠ Dl := by
      intro y
      subst y
      rw [upd_same] at z
      cases z
    rw [upd_ne y] at z
    exact ⟨y, z⟩
  refine ⟨⟨⟨R.p.fh, R.p.len, ?_, R.p.ne⟩, ?_, R.f0, ?_, R.cl⟩, R.b Dl u nc (show upd c.B Dl u Dl = some u from upd_same), R.z Dl (by show upd c.B Dl u Dl ≠ none; rw [upd_same]; exact Option.some_ne_none _) f0, ?_⟩
  · intro i s o h1 h2
    have ok := R.p.ok i s o h1 h2
    cases s with
    | no => exact ok
    | any => trivial
    | dat d => exact ok
    | own ds =>
      obtain ⟨p, xs, a, b, c', d, e⟩ := ok
      exact ⟨p, xs, a, b, (np p c').2, d, e⟩
    | cel ds => exact ok
    | obj v =>
      obtain ⟨p, a, b, c', d⟩ := ok
      exact ⟨p, a, b, (np p c').2, d⟩
  · intro a o q z
    have y : a ≠ Dl := by
      intro y
      subst y
      rw [b0] at z
      cases z
    exact R.b a o q (by show upd c.B Dl u a = some o; rw [upd_ne y]; exact z)
  · intro a h1 h2
    have y : a ≠ Dl := by
      intro y
      subst y
      exact h1 b0
    exact R.z a (by show upd c.B Dl u a ≠ none; rw [upd_ne y]; exact h1) h2
  · intro j t h1 o1 h2
    have ok := R.p.ok j t _ h1 h2
    cases t with
    | no => cases o1
    | any => cases o1
    | dat _ => cases o1
    | own ds =>
      obtain ⟨p, xs, a, b, c', d, e⟩ := ok
      cases a
      exact (np _ c').1 rfl
    | cel ds =>
      obtain ⟨p, xs, a, b, c', d, e⟩ := ok
      cases a
      exact nc c'
    | obj v =>
      obtain ⟨p, a, b, c', d⟩ := ok
      cases a
      exact (np _ c').1 rfl
theorem Rel.putNew {c : Cd} {F H : Hp} {ρ : Env} {σ : L2.St} {Dl : Addr} {u : HO} (R : Rel K c F ρ σ H) (f : F Dl = none) (b0 : c.B Dl = none) (nc : c.cell ≠ some Dl)
    (far : ∀ (j : Nat) (t : Slot), ρ[j]? = some t → t.owns = true → σ[j]? ≠ some (some (.ref Dl))) : Rel K c F ρ σ (upd H Dl u) := by
  refine ⟨⟨upd_lst_step (F' := F) (H' := H) f R.p.fh, R.p.len, ?_, R.p.ne⟩, ?_, R.f0, R.z, ?_⟩
  · intro i s o h1 h2
    have ok := R.p.ok i s o h1 h2
    have aw : s.owns = true → ∀ p, o = some (.ref p) → p ≠ Dl := by
      intro o1 p z y
      subst z
      subst y
      exact far i s h1 o1 h2
    cases s with
    | no => exact ok
    | any => trivial
    | dat d => exact ok
    | own ds =>
      obtain ⟨p, xs, a, b, c', d, e⟩ := ok
      exact ⟨p, xs, a, b, c', by rw [upd_ne (aw rfl p a)]; exact d, e⟩
    | cel ds =>
      obtain ⟨p, xs, a, b, c', d, e⟩ := ok
      exact ⟨p, xs, a, b, c', by rw [upd_ne (aw rfl p a)]; exact d, e⟩
    | obj v =>
      obtain ⟨p, a, b, c', d⟩ := ok
      exact ⟨p, a, b, c', by rw [upd_ne (aw rfl p a)]; exact d⟩
  · intro a o q z
    have y : a ≠ Dl := by
      intro y
      subst y
      rw [b0] at z
      cases z
    rw [upd_ne y]
    exact R.b a o q z
  · intro a z
    have y : a ≠ Dl := by
      intro y
      subst y
      exact nc z
    rw [upd_ne y]
    exact R.cl a z
theorem sim_elc {wi : TI} {g : TG} {tt : TT} {te : TE} {di : EIr} {dg : DGr} {dt : DTr} {de : EPr} {vs sl : List Nat} (si : SimEI K wi di) (sg : SimG K g dg sl) (st : SimT K tt dt) (se : SimE K te de) (hsl : ∀ i ∈ sl, i ∈ vs) :
    SimEN K (tLc wi g tt te vs) (eLc di dg dt de vs) := by
  intro c F ρ σ H P Q R hd k
  refine si c F ρ σ H _ _ R hd ?_
  intro ds J F1 ρ0 H1 p1 e1 R1 its
  obtain ⟨hlen, nown, Inv, i0, turn, fin⟩ := p1
  intro Dl hD
  have fD1 : F1 Dl = none := fresh_back R1.p.fh hD
  have b0 : c.B Dl = none := R1.freshB hD
  have c0 : c.F0 Dl = none := fresh_back R1.f0 fD1
  have nc : c.cell ≠ some Dl := fun z => R1.cl Dl z hD
  have far0 : ∀ (j : Nat) (t : Slot), ρ0[j]? = some t → t.owns = true → σ[j]? ≠ some (some (.ref Dl)) := by
    intro j t h1 o1 z
    obtain ⟨q, a, _, d⟩ := (R1.p.ok j t _ h1 z).addr o1
    cases a
    exact d hD
  refine ⟨fun i m H2 => m = ds.length - i ∧ i ≤ ds.length ∧ ∃ acc ρ2 F2 xs, acc.length ≤ i ∧ Inv i acc ρ2 ∧ Ex F1 F2 ∧ Rel K c F2 ρ2 σ H2 ∧ H2 Dl = some (.lst xs) ∧ Reps K F2 xs acc ∧ F2 Dl = none ∧
    (∀ (j : Nat) (t : Slot), ρ2[j]? = some t → t.owns = true → σ[j]? ≠ some (some (.ref Dl))), ⟨ds.length, by simp, Nat.zero_le _, [], ρ0, F1, [], Nat.le_refl _, i0, Ex.refl F1, R1.putNew fD1 b0 nc far0, upd_same, .nil, fD1, far0⟩, ?_⟩
  rintro i m H2 ⟨rfl, hi, acc, ρ2, F2, xs, ha, hI, e2, R2, hDl, rxs, f2, far2⟩
  by_cases hlt : i < ds.length
  · right
    have hget : ds[i]? = some ds[i] := List.getElem?_eq_getElem hlt
    obtain ⟨hgo, hy⟩ := (its F2 H2 i e2 R2.p.fh).1 _ hget
    refine ⟨hgo, fun H' => ∃ acc' ρ' F' xs', acc'.length ≤ i + 1 ∧ Inv (i + 1) acc' ρ' ∧ Ex F1 F' ∧ Rel K c F' ρ' σ H' ∧ H' Dl = some (.lst xs') ∧ Reps K F' xs' acc' ∧ F' Dl = none ∧
      (∀ (j : Nat) (t : Slot), ρ'[j]? = some t → t.owns = true → σ[j]? ≠ some (some (.ref Dl))), ?_, ?_⟩
    · rintro H' ⟨acc', ρ', F', xs', h1, h2, h3⟩
      exact ⟨ds.length - (i + 1), by omega, rfl, hlt, acc', ρ', F', xs', h1, h2, h3⟩
    · intro x H3 y3
      obtain ⟨F3, s3, r3⟩ := hy x H3 y3
      have hD3 : H3 Dl = some (.lst xs) := s3.hh _ _ hDl
      have f3 : F3 Dl = none := s3.nn Dl f2 (by rw [hDl]; exact Option.some_ne_none _)
      have R3o : Rel K c F3 ρ2 σ H3 := R2.step s3
      have R3 : Rel K ⟨c.F0, upd c.B Dl (.lst xs), c.cell⟩ F3 (wipeD ρ2 vs) (wipe σ vs) H3 := (R3o.besideB hD3 f3 nc far2).wiped vs
      refine sg _ F3 _ _ H3 x ds[i] _ _ R3.p r3 (turn i _ acc ρ2 hget ha hI) ?_
      intro ρ4 σ4 p4 R4 w4
      have R4' : Rel K ⟨c.F0, upd c.B Dl (.lst xs), c.cell⟩ F3 ρ4 σ4 H3 := ⟨R4, R3.b, R3.f0, R3.z, R3.cl⟩
      have w4' : wipe σ4 vs = wipe σ vs := by rw [w4 vs hsl, wipe_wipe]
      refine ⟨w4', ?_⟩
      refine st _ F3 ρ4 σ4 H3 _ _ R4 p4 ?_
      intro b F5 H5 p5 s5
      cases b with
      | false =>
        have f5 : F5 Dl = none := s5.nn Dl f3 (by rw [hD3]; exact Option.some_ne_none _)
        exact ⟨acc, ρ2, F5, xs, by omega, p5, (e2.trans s3.ff).trans s5.ff, R3o.step s5, s5.hh _ _ hD3, rxs.mono (s3.ff.trans s5.ff), f5, far2⟩
      | true =>
        refine se _ F5 ρ4 σ4 H5 _ _ (R4'.step s5) p5 ?_
        intro y d F6 ρ6 H6 p6 r6 e6 R6
        obtain ⟨R6', hD6, f6, far6⟩ := R6.backB b0 c0 nc
        have e16 : Ex F1 F6 := (e2.trans s3.ff).trans (s5.ff.trans e6)
        have Ro : Rel K c F6 (restD ρ0 ρ6 vs) σ H6 := R1.rest R6' e16 w4' nown
        have l0 := R1.p.len
        have l6 := Ro.p.len
        rw [restD_len] at l6
        have far7 : ∀ (j : Nat) (t : Slot), (restD ρ0 ρ6 vs)[j]? = some t → t.owns = true → σ[j]? ≠ some (some (.ref Dl)) := by
          intro j t h1 o1 z
          rw [restD_at ρ0 ρ6 (by omega)] at h1
          split at h1
          · exact far0 j t h1 o1 z
          · rename_i hj
            refine far6 j t h1 o1 ?_
            have := congrArg (fun l => l[j]?) w4'
            rw [wipe_at, wipe_at, if_neg hj, if_neg hj] at this
            rw [this]
            exact z
        have rx6 := rxs.mono ((s3.ff.trans s5.ff).trans e6)
        refine ⟨xs, hD6, ?_, acc ++ [d], restD ρ0 ρ6 vs, F6, xs ++ [y], by rw [List.length_append]; simp; omega, p6, e16, Ro.putNew f6 b0 nc far7, upd_same, rx6.append (.one r6), f6, far7⟩
        rw [rxs.length]
        exact sz_lt (by omega)
  · left
    have ei : i = ds.length := by omega
    subst ei
    refine ⟨(its F2 H2 _ e2 R2.p.fh).2 (Nat.le_refl _), ?_⟩
    exact k Dl xs acc F2 ρ2 H2 (fin acc ρ2 ha hI) f2 b0 hDl rxs (e1.trans e2) R2 far2
theorem den_lc {elt tg iter : Expr} {ifs : List Expr} {scope : Scope} {own : List (Str × Nat)} {di : EIr} {dg : DGr} {dt : DTr} {de : EPr} {sl : List Nat}
    (hi : DEI K X tg iter di) (hg : DG K (blkX X scope) tg dg sl) (ht : DTs K (blkX X scope) ifs dt) (he : DE K (blkX X scope) elt de)
    (ok : ∀ c, BlkOk (X c).N (X c).env.scope scope own) (hN : ∀ c, (X c).N.Nodup) (hsl : ∀ i ∈ sl, i ∈ own.map (·.2) := by decide) (hc : ∀ c, (X c).calm = true := by intro _; rfl)
    (hs : ∀ c x, foldedSetIterable iter (X c).env x = pure x := by intro _ _; rfl) :
    DEN K X (.ListComp elt [⟨tg, iter, ifs, 0⟩] scope pos) (eLc di dg dt de (own.map (·.2))) := by
  obtain ⟨wi, pi, si⟩ := hi
  obtain ⟨g, pg, sg⟩ := hg
  obtain ⟨tt, pt, st⟩ := ht
  obtain ⟨te, pe, se⟩ := he
  exact ⟨_, fun c => pe_lc (hc c) (hN c) (pi c) (ok c) (fun s H C cl fp => pg (c, s, H, C, cl, fp)) (fun s H C cl fp => pt (c, s, H, C, cl, fp)) (fun s H C cl fp => pe (c, s, H, C, cl, fp)) (hs c), sim_elc si sg st se hsl⟩
theorem dens_lc {i : Nat} {y : Str} {py spos : Pos} {elt tg iter : Expr} {ifs : List Expr} {scope : Scope} {own : List (Str × Nat)} {di : EIr} {dg : DGr} {dt : DTr} {de : EPr} {sl : List Nat}
    (hi : DEI K X tg iter di) (hg : DG K (blkX X scope) tg dg sl) (ht : DTs K (blkX X scope) ifs dt) (he : DE K (blkX X scope) elt de)
    (hy : ∀ c, (X c).N[i]? = some y) (hyl : ∀ c, (X c).env.scope.names.lookup y = some .local) (hsw : ∀ c, swapsWith (.ListComp elt [⟨tg, iter, ifs, 0⟩] scope pos) (some (.Name y py)) spos.line (X c).env = pure true)
    (ok : ∀ c, BlkOk (X c).N (X c).env.scope scope own) (hN : ∀ c, (X c).N.Nodup) (hsl : ∀ i ∈ sl, i ∈ own.map (·.2) := by decide) (hc : ∀ c, (X c).calm = true := by intro _; rfl)
    (hs : ∀ c x, foldedSetIterable iter (X c).env x = pure x := by intro _ _; rfl) :
    DENS K X i (.Assign [.Name y py] (.ListComp elt [⟨tg, iter, ifs, 0⟩] scope pos) spos) (eLc di dg dt de (own.map (·.2))) := by
  obtain ⟨wi, pi, si⟩ := hi
  obtain ⟨g, pg, sg⟩ := hg
  obtain ⟨tt, pt, st⟩ := ht
  obtain ⟨te, pe, se⟩ := he
  exact ⟨_, fun c => ps_setLc (hc c) (hN c) (hy c) (hyl c) (hsw c) (pi c) (ok c) (fun s H C cl fp => pg (c, s, H, C, cl, fp)) (fun s H C cl fp => pt (c, s, H, C, cl, fp)) (fun s H C cl fp => pe (c, s, H, C, cl, fp)) (hs c), sim_elc si sg st se hsl⟩
theorem SimEN.frz {c : Cd} {F' H' : Hp} {ρ' : Env} {σ : L2.St} {p : Addr} {vs : List V} (R : Rel K c F' ρ' σ H') (f : F' p = none) (b0 : c.B p = none) (hl : H' p = some (.lst vs))
    (far : ∀ (j : Nat) (t : Slot), ρ'[j]? = some t → t.owns = true → σ[j]? ≠ some (some (.ref p))) : Rel K c (upd F' p (.lst vs)) ρ' σ H' := by
  have e1 : Ex F' (upd F' p (.lst vs)) := Ex.new f
  refine ⟨⟨?_, R.p.len, ?_, R.p.ne⟩, R.b, R.f0.trans e1, ?_, R.cl⟩
  · intro x u hx
    by_cases y : x = p
    · subst y
      rw [upd_same] at hx
      rw [hl]
      exact hx
    · rw [upd_ne y] at hx
      exact R.p.fh x u hx
  · intro i s o h1 h2
    have ok := R.p.ok i s o h1 h2
    have aw : s.owns = true → ∀ q, o = some (.ref q) → q ≠ p := by
      intro o1 q z y
      subst z
      subst y
      exact far i s h1 o1 h2
    cases s with
    | no => exact ok
    | any => trivial
    | dat d =>
      obtain ⟨v, z, r⟩ := ok
      exact ⟨v, z, r.mono e1⟩
    | own ds =>
      obtain ⟨q, xs, a, b, c', d, e⟩ := ok
      exact ⟨q, xs, a, by rw [upd_ne (aw rfl q a)]; exact b, c', d, e.mono e1⟩
    | cel ds =>
      obtain ⟨q, xs, a, b, c', d, e⟩ := ok
      exact ⟨q, xs, a, by rw [upd_ne (aw rfl q a)]; exact b, c', d, e.mono e1⟩
    | obj v =>
      obtain ⟨q, a, b, c', d⟩ := ok
      exact ⟨q, a, by rw [upd_ne (aw rfl q a)]; exact b, c', d⟩
  · intro a h1 h2
    have y : a ≠ p := by
      intro y
      subst y
      exact h1 b0
    rw [upd_ne y]
    exact R.z a h1 h2
/-- as data -/
def eFrz (dn : ENr) : EPr := fun ρ P => dn ρ fun ds ρ' => P (.list ds) ρ'
theorem SimEN.asE {te : TE} (h : SimEN K te dn) : SimE K te (eFrz dn) := by
  intro c F ρ σ H P Q R hd k
  refine h c F ρ σ H _ Q R hd ?_
  intro p vs ds F' ρ' H' m f b0 hl rs e R' far
  have e1 : Ex F' (upd F' p (.lst vs)) := Ex.new f
  exact k _ _ _ ρ' H' m (.lst (Or.inl (Or.inl upd_same)) (rs.mono e1)) (e.trans e1) (SimEN.frz R' f b0 hl far)
theorem de_newE (h : DEN K X e dn) : DE K X e (eFrz dn) := let ⟨te, p, s⟩ := h; ⟨te, p, s.asE⟩
/-- x = [..] that x alone holds -/
def sOwnE (i : Nat) (dn : ENr) : DSr := fun M ρ => dn ρ fun xs ρ' => M.nx (ρ'.set i (.own xs))
theorem SimEN.own {te : TE} {i : Nat} (h : SimEN K te dn) : SimS K (tAsg te (gName i)) (sOwnE i dn) := by
  intro c F ρ σ H M E R hd k
  refine h c F ρ σ H _ _ R hd ?_
  intro p vs ds F' ρ' H' m f b0 hl rs e R' far
  exact k.nx F' _ _ H' m e ⟨R'.p.take rfl ⟨p, vs, rfl, f, b0, hl, rs⟩ (fun j t _ h1 o1 z => far j t h1 o1 z), R'.b, R'.f0, R'.z, R'.cl⟩
theorem ds_ownES {i : Nat} (h : DENS K X i st dn) : DS K X st (sOwnE i dn) := let ⟨te, p, s⟩ := h; ⟨_, p, s.own⟩
theorem ds_ownE {x : Str} {i : Nat} {p' : Pos} (h : DEN K X e dn) (ps : ∀ c {te : TE}, PE (X c) e te → PS (X c) (.Assign [.Name x p'] e pos) (tAsg te (gName i))) : DS K X (.Assign [.Name x p'] e pos) (sOwnE i dn) :=
  let ⟨te, p, s⟩ := h; ⟨_, fun c => ps c (p c), s.own⟩
/-- x = [..] as data, stored at the comprehension's own end -/
theorem ds_setES {i : Nat} (h : DENS K X i st dn) : DS K X st (sSet (gN i) (eFrz dn)) := by
  obtain ⟨te, p, s⟩ := h
  refine ⟨_, p, ?_⟩
  intro c F ρ σ H M E R hd k
  have hd' : eFrz dn ρ fun d ρ' => M.nx (ρ'.set i (.dat d)) := hd
  refine s.asE c F ρ σ H _ _ R hd' ?_
  intro v d F' ρ' H' m r e R'
  exact k.nx F' _ _ H' m e (R'.dat r)
def sRetE (dn : ENr) : DSr := fun M ρ => dn ρ fun xs ρ' => M.rn xs ρ'
theorem ds_retE (h : DEN K X e dn) : DS K X (.Return (some e) pos) (sRetE dn) := by
  obtain ⟨te, p, s⟩ := h
  refine ⟨_, fun c => ps_ret (p c), ?_⟩
  intro c F ρ σ H M E R hd k
  refine s c F ρ σ H _ _ R hd ?_
  intro q vs xs F' ρ' H' m f b0 hl rs e R' far
  exact k.rn q vs xs F' ρ' σ H' m f b0 hl rs e R'
end
end Dl

set_option Elab.async false
set_option linter.all false
set_option maxRecDepth 100000
set_option maxHeartbeats 4000000
namespace Dl
open PySem PySem.Spec PyProof.Rows L2 Evl G
section
variable {ι : Type} {K : PySem.W.Frag} {X : ι → Cx} {e a b : Expr} {pos p : Pos} {es : List Expr} {da db : DPr} {de : EPr} {st : Stmt}
def eiT (de : EPr) : EIr := fun ρ P => de ρ fun x ρ1 => ∃ ds, x = .tuple ds ∧ P ds ρ1
theorem dei_tup {tg : Expr} (h : DE K X e de) (hK : ∀ c, (X c).K = K := by intro _; rfl) : DEI K X tg e (eiT de) := by
  obtain ⟨te, pe, se⟩ := h
  refine ⟨iTup K te, fun c => hK c ▸ pi_tup (pe c), ?_⟩
  intro c F ρ σ H P R I hd k
  refine se c F ρ σ H _ _ I hd ?_
  intro v d F1 ρ1 H1 p1 r1 e1 R1
  obtain ⟨ds, rfl, p1⟩ := p1
  obtain ⟨l, xs, rfl, hl, rl⟩ := r1.tuple_inv
  exact ⟨l, rfl, ⟨xs, ex_t R1.p.fh hl⟩, k ds _ F1 ρ1 H1 p1 e1 R1 (iters_tup hl rl)⟩
def eiL (de : EPr) : EIr := fun ρ P => de ρ fun x ρ1 => ∃ ds, x = .list ds ∧ P ds ρ1
theorem dei_list {tg : Expr} (h : DE K X e de) (hK : ∀ c, (X c).K = K := by intro _; rfl) : DEI K X tg e (eiL de) := by
  obtain ⟨te, pe, se⟩ := h
  refine ⟨iList K te, fun c => hK c ▸ pi_list (pe c), ?_⟩
  intro c F ρ σ H P R I hd k
  refine se c F ρ σ H _ _ I hd ?_
  intro v d F1 ρ1 H1 p1 r1 e1 R1
  obtain ⟨ds, rfl, p1⟩ := p1
  obtain ⟨l, xs, rfl, hl, rl⟩ := r1.list_inv
  exact ⟨l, rfl, ⟨xs, ex_l R1.p.fh hl⟩, k ds _ F1 ρ1 H1 p1 e1 R1 (iters_list hl rl)⟩
/-! ### data as the library's own word for it; in, not in, index -/
mutual
theorem Rep.dp {F H : Hp} {v : V} {d : D} (e : Ex F H) : Rep K F v d → Dp K H v d
  | .non => .non
  | .bl b => .bl b
  | .int i => .int i
  | .str x => .str x
  | .lst h r => .lst (ex_l e h) (Reps.dp e r)
  | .tup h r => .tup (ex_t e h) (Reps.dp e r)
theorem Reps.dp {F H : Hp} {vs : List V} {ds : List D} (e : Ex F H) : Reps K F vs ds → DpAll K H vs ds
  | .nil => .nil
  | .cons h r => .cons (Rep.dp e h) (Reps.dp e r)
end
def gIn : D → D → (D → Prop) → Prop
  | x, .list ds, P => (PySem.SeqAt.shaped x = true ∧ PySem.SeqAt.shaped (.list ds) = true) ∧ P (.bool (ds.any fun z => PyData.eqv z x))
  | _, _, _ => False
def gNotIn : D → D → (D → Prop) → Prop
  | x, .list ds, P => (PySem.SeqAt.shaped x = true ∧ PySem.SeqAt.shaped (.list ds) = true) ∧ P (.bool (!ds.any fun z => PyData.eqv z x))
  | _, _, _ => False
theorem og_in {Y : Cx} (hu : Y.A.units + 65 < cLine) : OpR Y (compareOp .In) (rG Y.K gIn) := by
  refine toG (op_inD hu) ?_
  intro F H x y dx dy P Q e a b h k
  cases dy <;> try exact False.elim h
  exact ⟨_, _, a.dp e, b.dp e, h.1.1, h.1.2, k _ _ F H h.2 (.bl _) (Step.refl e)⟩
theorem og_notIn {Y : Cx} (hu : Y.A.units + 65 < cLine) : OpR Y (compareOp .NotIn) (rG Y.K gNotIn) := by
  refine toG (op_notInD hu) ?_
  intro F H x y dx dy P Q e a b h k
  cases dy <;> try exact False.elim h
  exact ⟨_, _, a.dp e, b.dp e, h.1.1, h.1.2, k _ _ F H h.2 (.bl _) (Step.refl e)⟩
def dIndex (da db : DPr) : DPr := fun ρ P => da ρ fun x => (∃ ds, x = .list ds) ∧ db ρ fun y => ∃ ds, x = .list ds ∧ PySem.SeqAt.shaped (.list ds) = true ∧ PySem.SeqAt.shaped y = true ∧
  ∃ (j : Nat) (z : D), ds[j]? = some z ∧ PyData.eqv z y = true ∧ (∀ (m : Nat) (z' : D), m < j → ds[m]? = some z' → PyData.eqv z' y = false) ∧ P (.int (j : Nat))
theorem dp_index (ha : DP K X a da) (hb : DP K X b db) (hK : ∀ c, (X c).K = K := by intro _; rfl)
    (pe : ∀ c {ta tb : TE}, PE (X c) a ta → PE (X c) b tb → PE (X c) e (tBM (X c).K "list" (rIndexD (X c).K) ta (tCons tb tNil))) : DP K X e (dIndex da db) := by
  obtain ⟨ta, pa, sa⟩ := ha
  obtain ⟨tb, pb, sb⟩ := hb
  refine ⟨tBM K "list" (rIndexD K) ta (tCons tb tNil), fun c => hK c ▸ pe c (pa c) (pb c), ?_⟩
  intro B F ρ σ H P Q R hd k
  refine sa B F ρ σ H _ _ R hd ?_
  intro v1 d1 F1 H1 p1 r1 s1
  obtain ⟨⟨ds0, rfl⟩, p1⟩ := p1
  obtain ⟨l, xs, rfl, hl, rl⟩ := r1.list_inv
  refine ⟨Or.inl ⟨rfl, xs, ex_l s1.fh hl⟩, ?_⟩
  refine sb B F1 ρ σ H1 _ _ (R.step s1) p1 ?_
  intro v2 d2 F2 H2 p2 r2 s2
  obtain ⟨ds, he, h1, h2, j, z, h3, h4, h5, p2⟩ := p2
  cases he
  have e2 := s2.fh
  exact ⟨l, v2, d2, ds0, j, z, rfl, rfl, (r1.mono s2.ff).dp e2, r2.dp e2, h1, h2, h3, h4, h5, k _ _ F2 H2 p2 (.int _) (s1.trans s2)⟩
end
end Dl

set_option Elab.async false
set_option linter.all false
set_option maxRecDepth 100000
set_option maxHeartbeats 4000000
namespace Dl
open PySem PySem.Spec PyProof.Rows L2 Evl G
section
variable {ns ms : List Int} {bs : List Bool} {i j : Int} {P : D → Prop}
theorem gSum_ints : gSum [.list (ns.map PyData.int)] P = P (.int ns.sum) := by
  unfold gSum
  simp [intsOf_map]
theorem gAll_bools : gAll [.list (bs.map PyData.bool)] P = P (.bool (bs.all id)) := by
  unfold gAll
  refine propext ⟨?_, fun h => ⟨bs, rfl, h⟩⟩
  rintro ⟨cs, e, h⟩
  have : bs = cs := by
    have := congrArg boolsOf e
    rw [boolsOf_map, boolsOf_map] at this
    exact Option.some.inj this
  rw [this]
  exact h
theorem gAny_bools : gAny [.list (bs.map PyData.bool)] P = P (.bool (bs.any id)) := by
  unfold gAny
  refine propext ⟨?_, fun h => ⟨bs, rfl, h⟩⟩
  rintro ⟨cs, e, h⟩
  have : bs = cs := by
    have := congrArg boolsOf e
    rw [boolsOf_map, boolsOf_map] at this
    exact Option.some.inj this
  rw [this]
  exact h
theorem gDivmod_int : gDivmod [.int i, .int j] P = ((0 < j ∧ j < (big : Int)) ∧ P (.tuple [.int (i / j), .int (i % j)])) := rfl
theorem gMinL_ints (m : Int) (h0 : m ∈ ns) (h1 : ∀ y ∈ ns, m ≤ y) (h : P (.int m)) : gMinL [.list (ns.map PyData.int)] P := by
  refine ⟨ns, intsOf_map ns, List.length_pos_of_mem h0, fun k hk hle => ?_⟩
  have : k = m := Int.le_antisymm (hle m h0) (h1 k hk)
  rw [this]
  exact h
theorem gMaxL_ints (m : Int) (h0 : m ∈ ns) (h1 : ∀ y ∈ ns, y ≤ m) (h : P (.int m)) : gMaxL [.list (ns.map PyData.int)] P := by
  refine ⟨ns, intsOf_map ns, List.length_pos_of_mem h0, fun k hk hle => ?_⟩
  have : k = m := Int.le_antisymm (h1 k hk) (hle m h0)
  rw [this]
  exact h
theorem eqv_int {i j : Int} : PyData.eqv (.int i) (.int j) = decide (i = j) := by
  rw [PyData.eqv]
  first
    | rfl
    | (by_cases q : i = j <;> simp [q])
theorem any_eqv : ((ns.map PyData.int).any fun z => PyData.eqv z (.int i)) = ns.contains i := by
  induction ns with
  | nil => rfl
  | cons n ns ih =>
    rw [List.map_cons, List.any_cons, ih, eqv_int, List.contains_cons]
    congr 1
    rw [Bool.eq_iff_iff]
    simp
    exact eq_comm
theorem gIn_ints : gIn (.int i) (.list (ns.map PyData.int)) P = P (.bool (ns.contains i)) := by
  show ((_ ∧ _) ∧ _) = _
  rw [shaped_int, shaped_ints, any_eqv]
  simp
theorem gNotIn_ints : gNotIn (.int i) (.list (ns.map PyData.int)) P = P (.bool (!ns.contains i)) := by
  show ((_ ∧ _) ∧ _) = _
  rw [shaped_int, shaped_ints, any_eqv]
  simp
end
theorem rangeD_map (lo : Int) (n : Nat) : rangeD lo n = ((List.range n).map fun i : Nat => (lo + (i : Int))).map .int := by
  unfold rangeD
  rw [List.map_map]
  rfl
theorem enumD_range {xs : List D} : enumD xs = (List.range xs.length).map fun k => .tuple [.int (k : Nat), xs.getD k .none] := by
  refine List.ext_getElem? fun i => ?_
  unfold enumD
  rw [List.getElem?_mapIdx, List.getElem?_map]
  by_cases q : i < xs.length
  · rw [List.getElem?_eq_getElem q, List.getElem?_range q]
    simp [q]
  · rw [List.getElem?_eq_none (by omega), List.getElem?_eq_none (l := List.range xs.length) (by simpa using q)]
    rfl
/-- two generators without tests -/
theorem lc2_fun {di di1 : DIr} {dg dg1 : DGr} {de : DPr} {vs vs1 : List Nat} {ρ : Env} {P : List D → Prop} {xs : List D} (E1 : D → Env) (es : D → List D) (f : D → D → D) (hdi : ∀ P : List D → Prop, P xs → di ρ P)
    (hg : ∀ d ∈ xs, ∀ T : Env → Prop, T (E1 d) → dg d (wipeD ρ vs) T) (hi1 : ∀ d ∈ xs, ∀ P : List D → Prop, P (es d) → di1 (E1 d) P)
    (hg1 : ∀ d ∈ xs, ∀ x ∈ es d, ∀ T : D → Prop, T (f d x) → dg1 x (wipeD (E1 d) vs1) fun ρ3 => de ρ3 T) (hl : (xs.flatMap fun d => (es d).map (f d)).length < 100000)
    (hp : P (xs.flatMap fun d => (es d).map (f d))) : dLc2 di dg dYes di1 dg1 dYes de vs vs1 ρ P := by
  refine hdi _ ⟨fun i acc => acc = (xs.take i).flatMap fun d => (es d).map (f d), rfl, ?_, ?_⟩
  · intro i d acc hi ha
    subst ha
    have hm : d ∈ xs := List.mem_of_getElem? hi
    have e : xs.take (i + 1) = xs.take i ++ [d] := by
      rw [List.take_succ, hi] <;> rfl
    refine hg d hm _ ?_
    refine hi1 d hm _ ⟨fun j acc' => acc' = ((xs.take i).flatMap fun d => (es d).map (f d)) ++ ((es d).take j).map (f d), by simp, ?_, ?_⟩
    · intro j x acc' hj ha'
      subst ha'
      have hx : x ∈ es d := List.mem_of_getElem? hj
      have jl := (List.getElem?_eq_some_iff.mp hj).1
      have e1 : (es d).take (j + 1) = (es d).take j ++ [x] := by
        rw [List.take_succ, hj] <;> rfl
      refine hg1 d hm x hx (fun y => (((xs.take i).flatMap fun d => (es d).map (f d)) ++ ((es d).take j).map (f d)).length < 100000 ∧
        (((xs.take i).flatMap fun d => (es d).map (f d)) ++ ((es d).take j).map (f d)) ++ [y] = ((xs.take i).flatMap fun d => (es d).map (f d)) ++ ((es d).take (j + 1)).map (f d)) ?_
      refine ⟨?_, ?_⟩
      · have e2 : (((xs.take i).flatMap fun d => (es d).map (f d)) ++ ((es d).take j).map (f d)).length ≤ (xs.flatMap fun d => (es d).map (f d)).length := by
          have e3 : xs = xs.take i ++ d :: xs.drop (i + 1) := by
            have h1 := (List.getElem?_eq_some_iff.mp hi)
            obtain ⟨hi1, hi2⟩ := h1
            rw [← hi2, List.getElem_cons_drop, List.take_append_drop]
          have e4 : (xs.flatMap fun d => (es d).map (f d)).length = ((xs.take i ++ d :: xs.drop (i + 1)).flatMap fun d => (es d).map (f d)).length := by rw [← e3]
          rw [e4]
          simp [List.flatMap_append, List.flatMap_cons]
          omega
        omega
      · rw [e1]
        simp
    · intro acc' ha'
      subst ha'
      rw [e, List.take_length]
      simp [List.flatMap_append, List.flatMap_cons]
  · intro acc ha
    subst ha
    rw [List.take_length]
    exact hp
/-- an impure comprehension without a test, by an invariant -/
theorem elc_inv {di : EIr} {dg : DGr} {de : EPr} {vs : List Nat} {ρ ρ0 : Env} {P : List D → Env → Prop} {xs : List D} (I : Nat → List D → Env → Prop) (hdi : ∀ P : List D → Env → Prop, P xs ρ0 → di ρ P) (hl : xs.length ≤ 100000) (hn : noOwn ρ0 vs = true) (h0 : I 0 [] ρ0)
    (ht : ∀ (i : Nat) d acc ρ1, xs[i]? = some d → acc.length ≤ i → I i acc ρ1 → dg d (wipeD ρ1 vs) fun ρ2 => de ρ2 fun y ρ3 => I (i + 1) (acc ++ [y]) (restD ρ0 ρ3 vs))
    (hd : ∀ acc ρ1, acc.length ≤ xs.length → I xs.length acc ρ1 → P acc ρ1) : eLc di dg dYes de vs ρ P :=
  hdi _ ⟨hl, hn, I, h0, fun i d acc ρ1 h1 h2 h3 => ht i d acc ρ1 h1 h2 h3, hd⟩
end Dl

set_option Elab.async false
set_option linter.all false
set_option maxRecDepth 100000
set_option maxHeartbeats 4000000
namespace Dl
open PySem PySem.Spec PyProof.Rows L2 Evl G
theorem gTc_cons {g : DGr} {gs : DGsr} {d : D} {r : List D} {ρ : Env} {P : Env → Prop} : gTc g gs (d :: r) ρ P = g d ρ fun ρ' => gs r ρ' P := by
  unfold gTc
  refine propext ⟨fun ⟨d', r', e, h⟩ => ?_, fun h => ⟨d, r, rfl, h⟩⟩
  cases e
  exact h
theorem gTn_nil {ρ : Env} {P : Env → Prop} : gTn [] ρ P = P ρ := by simp [gTn]
theorem gT_tuple {n : Nat} {gs : DGsr} {ds : List D} {ρ : Env} {P : Env → Prop} : gT n gs (.tuple ds) ρ P = (ds.length = n ∧ gs ds ρ P) := by simp [gT]
theorem lexLe2 {a b c d : Int} : lexLe [a, b] [c, d] = decide (a < c ∨ (a = c ∧ b ≤ d)) := by
  unfold lexLe
  have e : min [a, b].length [c, d].length = 2 := rfl
  rw [e]
  simp [Ob.lexAt]
  by_cases h : a = c
  · by_cases h2 : b = d <;> simp [h, h2]
  · simp [h]
    omega
end Dl

set_option Elab.async false
set_option linter.all false
set_option maxRecDepth 100000
set_option maxHeartbeats 4000000
namespace Dl
open PySem PySem.Spec PyProof.Rows L2 Evl G
/-! ### defs that have defaults -/
structure FunX (K : PySem.W.Frag) (x qual : Str) (st : Stmt) (f : Addr) (fd : FuncData) : Prop where
  ex : ∃ (oc : Value) (od : Option Addr) (dV kV doc pm : Value) (an : Option Addr) (cdv ct : Value) (osl : Array (Option Value)),
    fd = PySem.W.fnOf x qual (defArgs st) (defBody st) (defScope st) dV kV doc pm an cdv ct ∧ K.lookup f = some ⟨oc, od, .func fd, osl⟩ ∧ PySem.W.codeIn K cdv qual = true
  kp : PySem.W.keepIn K (.ref f) = true
/-- all arguments are passed -/
structure FnAtD (K : PySem.W.Frag) (mg : Str → Option Value) (x : Str) (st : Stmt) (ps : List Str) (f : Addr) (fd : FuncData) : Prop where
  g : mg x = some (.ref f)
  F : FunX K x x st f fd
  b : Binds K fd ps []
theorem funX_mk {K : PySem.W.Frag} {x qual : Str} {st : Stmt} {f : Addr} {oc : Value} {od an : Option Addr} {osl : Array (Option Value)} {dV kV doc pm cdv ct : Value}
    (l : K.lookup f = some ⟨oc, od, .func (PySem.W.fnOf x qual (defArgs st) (defBody st) (defScope st) dV kV doc pm an cdv ct), osl⟩)
    (c : PySem.W.codeIn K cdv qual = true) (k : PySem.W.keepIn K (.ref f) = true) : FunX K x qual st f (PySem.W.fnOf x qual (defArgs st) (defBody st) (defScope st) dV kV doc pm an cdv ct) :=
  ⟨⟨oc, od, dV, kV, doc, pm, an, cdv, ct, osl, rfl, l, c⟩, k⟩
theorem binds_all {K : PySem.W.Frag} {fd : FuncData} {ps : List Str} {T : Addr} {oT : Value} {dT : Option Addr} {its : Array Value} {n : Nat} {sl : Array (Option Value)} (lT : K.lookup T = some ⟨oT, dT, .seq its n, sl⟩)
    (h : ∀ us : List Value, us.length = ps.length → ∃ k, bindArgs fd ⟨us, []⟩ = seqItems? (.ref T) >>= k ∧ k (some its) = pure (ps.zip us)) : Binds K fd ps [] := by
  intro s us X hlen
  rw [List.append_nil] at hlen ⊢
  obtain ⟨k, e1, e2⟩ := h us hlen
  refine BindsTo.of_looks fun M => ?_
  rw [e1]
  exact looks_items X lT rfl (.of_pure e2)
theorem fn_pureX {P : Program} {w : World} {K : PySem.W.Frag} {mg : Str → Option Value} {base : Heap} {x qual : Str} {st : Stmt} {f : Addr} {fd : FuncData} {N ps : List Str} {k : Nat} {dp : List D → (D → Prop) → Prop} {body : DSr}
    (Fn : FunX K x qual st f fd) (S : FnScope N ps (defScope st)) (len : ∀ ds Q, dp ds Q → ds.length = ps.length)
    (der : ∀ (cdv : Value) (A : Around) (outer : List PySem.Env) (s : Shared) (H : Hp) (E : XK), A.guards = some [] → Room k (A.deeper (envOfC qual (defScope st) s.heap.objs.size f cdv)) →
      DSs K (fun _ : Unit => (cxOf L2.CX0 P w K mg base N qual (defScope st) f cdv A outer s H E).nox) (defBody st) body)
    (sem : ∀ ds Q, dp ds Q → body { nx := fun _ => Q .none, rt := fun d _ => Q d, rn := fun xs _ => Q (.list xs) } (startD N ds)) : FnG P w K mg base L2.CX0 (k + 1) f fd ps (spP K dp) := by
  obtain ⟨oc, od, dV, kV, doc, pm, an, cdv, ct, osl, rfl, lk, hcd⟩ := Fn.ex
  refine fnG_of lk hcd S ?_ ?_
  · rintro vs H Q E ⟨F, ds, R, e, r, h, k⟩
    rw [r.length]
    exact len ds R h
  · rintro A outer s H vs Q E hgd hr ⟨F, ds, R, e, r, h, kont⟩
    obtain ⟨ts, pp, ss⟩ := der cdv A outer s H E hgd hr
    refine ⟨ts, (pp ()).nox, ?_⟩
    refine ss _ F _ _ H _ _ (rel_start e r) (sem ds R h) ?_
    have fin : ∀ v d F' ρ σ H', R d → Rep K F' v d → Ex F F' → Rel K ⟨F, H, none⟩ F' ρ σ H' → Q v H' := by
      intro v d F' ρ σ H' rd rv ex R'
      exact kont v d F' H' rd rv ⟨ex, R'.p.fh, fun a o z => R'.b a o (by intro y; cases y) z, fun a h1 h2 => R'.z a h2 h1⟩
    refine ⟨?_, ?_, ?_, ?_, ?_⟩
    · intro F' ρ σ H' m ex R'
      exact fin .non .none F' ρ σ H' m .non ex R'
    · intro F' ρ σ H' m
      exact m.elim
    · intro F' ρ σ H' m
      exact m.elim
    · intro v d F' ρ σ H' m rv ex R'
      exact fin v d F' ρ σ H' m rv ex R'
    · intro p vs' xs F' ρ σ H' m q1 q2 q3 q4 ex R'
      have st : Step F H F' H' := ⟨ex, R'.p.fh, fun a o z => R'.b a o (by intro y; cases y) z, fun a h1 h2 => R'.z a h2 h1⟩
      exact kont (.ref p) (.list xs) _ H' m (.lst (Or.inl (Or.inl upd_same)) (q4.mono (Ex.new q1))) (st.freeze q2 q3)
end Dl

set_option Elab.async false
set_option linter.all false
set_option maxRecDepth 100000
set_option maxHeartbeats 4000000
namespace Ez
open PySem PySem.Spec PyProof.Rows L2
theorem go_int {prog : Program} {w : World} {A : Around} {E : Value → Shared → Prop} {s : Shared} {tg : Expr} {it : Addr} {i : Int} {t : Tok} {Q : Unit → Shared → Prop} (h : Q () s) :
    wpAny (model prog w) A (letOwnedTupleGo tg (.ref it) (.int i t)) Q E s := by
  unfold letOwnedTupleGo
  cases tg <;> exact wpAny_pure h
theorem turn_long {P : Program} {w : World} {K : PySem.W.Frag} {tg : Expr} (it : Addr) (lo : Int) (n : Nat) :
    Turn P w K tg (Itr lo n) [it] it (fun i h => IsLongIter h it (lo + (i : Nat)) ((n : Int) - (i : Nat)) 1) where
  mem := by simp
  obj := fun i h st c hc => by
    have : c = it := by simpa using hc
    subst this
    exact ⟨_, st, fun v y => nomatch y⟩
  keep := fun i h h' st k => k it (by simp) _ st
  item := by
    intro X hP hw hK hc i pins s σ H E I hf st hg
    subst hP hw hK
    have hi : i < n := hg
    have hit := hf it (by simp)
    refine wpAny_pyNext_long_item st (by omega) fun h' st' sb => ?_
    refine ⟨_, rfl, go_int ?_⟩
    refine ⟨.int (lo + (i : Nat)), H, I.turnedL (ch := [it]) (fun b o hb q => (sb.2 b (by simpa using hb)).trans q) hf, ⟨_, rfl⟩, ⟨rfl, rfl⟩, ?_, fun b hb => (hf b hb).1⟩
    have e1 : lo + ((i + 1 : Nat) : Int) = lo + (i : Nat) + 1 := by omega
    have e2 : (n : Int) - ((i + 1 : Nat) : Int) = (n : Int) - (i : Nat) - 1 := by omega
    rw [e1, e2]
    exact st'
  done := by
    intro X hP hw hK hc i pins s σ H E I hf st hg
    subst hP hw hK
    have hi : n ≤ i := hg
    refine wpAny_pyNext_long_end (I.ok.hd hc) st (by omega) fun h' sb => ?_
    exact ⟨rfl, I.turnedL (ch := [it]) (fun b o hb q => sb b o (by simpa using hb) q) hf⟩
  self := fun A i s Q E st h => wpAny_pyIter_longiter st h
def iRng2w (ta : TA) : TI := fun σ H R => ta σ H fun vs H1 => ∃ i j : Int, vs = [.int i, .int j] ∧ R (Itr i (j - i).toNat) H1
theorem size_eq (i j : Int) : Builtin.Range.rangeSize i j 1 = (((j - i).toNat : Nat) : Int) := by
  unfold Builtin.Range.rangeSize
  simp only [show (1 : Int) > 0 by decide, if_true]
  split <;> omega
theorem pi_range2w {X : Cx} {tg a b : Expr} {ta : TA} {p pos : Pos} (hg : Gl X "range") (hm : X.mg "range" = none) (ha : PA X [a, b] ta)
    (hs : starEach [a, b] X.env = (false, eval a X.env) :: starEach [b] X.env := by rfl) (hpl : (backTo pos (starEach [b] X.env)).any (·.1) = false := by rfl) :
    PI X tg (.Call (.Name "range" p) [a, b] [] pos) (iRng2w ta) := by
  refine ⟨fun pins s σ H R I h => ?_⟩
  refine Call_ (ld_blt I hg hm boot_range (PyProof.Rows.callWith_type1 (thn (ha.run pos pins s σ H _ I h) fun us s1 ⟨vs, H1, I1, r1, q1⟩ => ?_) hs hpl))
  obtain ⟨i, j, ex, q⟩ := q1
  subst ex
  cases r1 with
  | cons r rr =>
    cases rr with
    | cons r' rr =>
      cases rr
      obtain ⟨t1, rfl⟩ := r
      obtain ⟨t2, rfl⟩ := r'
      refine call_range_2 ?_
      generalize eh : s1.heap.push { cls := Value.type "range", data := Data.fields #[Value.int i t1, Value.int j t2, Value.int 1 s1.toks] } = h1
      have hr : IsRange h1 s1.heap.objs.size i j 1 t1 t2 s1.toks := by
        rw [← eh]
        exact Heap.get?_push_size _ rfl
      have sz1 : h1.objs.size = s1.heap.objs.size + 1 := by rw [← eh]; exact Heap.size_push ..
      have k1 : ∀ c o, s1.heap.get? c = some o → h1.get? c = some o := by
        rw [← eh]
        exact fun c o q => Heap.get?_push_of_some _ q
      have I2 : Inv X pins σ H1 { s1 with heap := h1, toks := s1.toks + 1 } := I1.kept (t' := s1.toks + 1) k1
      have hle : s1.heap.objs.size ≤ h1.objs.size := by omega
      cases hsm : Builtin.Range.small i j 1 with
      | true =>
        refine wpAny_pyIter_range (s := { s1 with heap := h1, toks := s1.toks + 1 }) hr hsm ?_
        refine ⟨h1.objs.size, [h1.objs.size], _, _, H1, rfl, I2.kept (t' := s1.toks + 1) (fun c o q => Heap.get?_push_of_some _ q), turn_range _ i (j - i).toNat, ?_, fun c hc => ?_, q⟩
        · have e0 : i + ((0 : Nat) : Int) * 1 = i := by omega
          have e1 : (((j - i).toNat : Nat) : Int) - ((0 : Nat) : Int) = Builtin.Range.rangeSize i j 1 := by rw [size_eq]; omega
          rw [e0, e1]
          exact Heap.get?_push_size _ rfl
        · have : c = h1.objs.size := by simpa using hc
          rw [this]
          exact I1.fpOk hle (I1.hok.fresh hle)
      | false =>
        refine wpAny_pyIter_longrange (s := { s1 with heap := h1, toks := s1.toks + 1 }) hr hsm ?_
        refine ⟨h1.objs.size, [h1.objs.size], _, _, H1, rfl, I2.kept (t' := s1.toks + 1) (fun c o q => Heap.get?_push_of_some _ q), turn_long _ i (j - i).toNat, ?_, fun c hc => ?_, q⟩
        · have e0 : i + ((0 : Nat) : Int) = i := by omega
          have e1 : (((j - i).toNat : Nat) : Int) - ((0 : Nat) : Int) = Builtin.Range.rangeSize i j 1 := by rw [size_eq]; omega
          rw [e0, e1]
          exact Heap.get?_push_size _ rfl
        · have : c = h1.objs.size := by simpa using hc
          rw [this]
          exact I1.fpOk hle (I1.hok.fresh hle)
end Ez
namespace Dl
open PySem PySem.Spec PyProof.Rows L2 Evl
section
variable {ι : Type} {K : PySem.W.Frag} {X : ι → Cx} {e a b : Expr} {dr : DAr}
def iR2w (dr : DAr) : DIr := fun ρ P => dr ρ fun xs => ∃ lo n, xs = [.int lo, .int n] ∧ P (rangeD lo (n - lo).toNat)
theorem di_range2w {tg : Expr} (h : DA K X [a, b] dr) (pi : ∀ c {ta : TA}, PA (X c) [a, b] ta → PI (X c) tg e (Ez.iRng2w ta)) : DI K X tg e (iR2w dr) := by
  obtain ⟨ta, pa, sa⟩ := h
  refine ⟨_, fun c => pi c (pa c), ?_⟩
  intro B F ρ σ H P R I hd k
  refine sa B F ρ σ H _ _ I hd ?_
  intro vs ds F1 H1 p1 r1 s1
  obtain ⟨lo, n, rfl, p1⟩ := p1
  cases r1 with
  | cons r1 r2 =>
    cases r2 with
    | cons r2 r3 =>
      cases r3
      cases r1.int_inv
      cases r2.int_inv
      exact ⟨lo, n, rfl, k _ _ F1 H1 p1 s1 (iters_range lo _)⟩
end
end Dl

set_option Elab.async false
set_option linter.all false
set_option maxRecDepth 100000
set_option maxHeartbeats 4000000
namespace Dl
open PySem PySem.Spec PyProof.Rows L2 Evl G
section
variable {Y : Cx} {ι : Type} {K : PySem.W.Frag} {X : ι → Cx} {e a b c : Expr} {pos p : Pos} {es : List Expr} {da db : DPr} {dn dr : DAr} {st : Stmt}
/-! ### a dict that a slot alone holds: tuples of ints and texts as keys, plain values -/
def keysD : List D → Option (List Key)
  | [] => some []
  | d :: r => match keyD d, keysD r with
    | some k, some ks => some (k :: ks)
    | _, _ => none
theorem reps_keys {F : Hp} : ∀ {vs : List V} {ds : List D} {ks : List Key}, Reps K F vs ds → keysD ds = some ks → vs = ks.map kV
  | _, _, ks, .nil, h => by
    cases h
    rfl
  | _, _, ks, .cons (d := d) (ds := ds) r1 r2, h => by
    unfold keysD at h
    cases q1 : keyD d with
    | none =>
      rw [q1] at h
      cases h
    | some k =>
      cases q2 : keysD ds with
      | none =>
        rw [q1, q2] at h
        cases h
      | some l =>
        rw [q1, q2] at h
        cases h
        rw [r1.key q1, reps_keys r2 q2]
        rfl
theorem keysD_len : ∀ {ds : List D} {ks : List Key}, keysD ds = some ks → ds.length = ks.length
  | [], ks, h => by
    cases h
    rfl
  | d :: ds, ks, h => by
    unfold keysD at h
    cases q1 : keyD d with
    | none =>
      rw [q1] at h
      cases h
    | some k =>
      cases q2 : keysD ds with
      | none =>
        rw [q1, q2] at h
        cases h
      | some l =>
        rw [q1, q2] at h
        cases h
        simp [keysD_len q2]
/-- x = {} -/
def sDictT (i : Nat) : DSr := fun M ρ => M.nx (ρ.set i (.obj (.dT [])))
theorem ds_dictT {i : Nat} (ps : ∀ c, PS (X c) st (tAsg tDNewT (gName i))) : DS K X st (sDictT i) := by
  refine ⟨_, ps, ?_⟩
  intro c F ρ σ H M E R hd k
  intro q hq
  have st := Step.lay (o := .dT []) R.p.fh hq
  have R1 := R.step st
  refine k.nx F _ _ _ hd (Ex.refl F) ⟨R1.p.take rfl ⟨q, rfl, fresh_back R.p.fh hq, R.freshB hq, upd_same⟩ ?_, R1.b, R1.f0, R1.z, R1.cl⟩
  intro j t _ e1 o1 z
  obtain ⟨q', a, _, d⟩ := (R.p.ok j t _ e1 z).addr o1
  cases a
  exact d hq
/-- (..) in x -/
def dInT (i : Nat) (dr : DAr) : DPr := fun ρ P => dr ρ fun ds => ds.length ≤ 100000 ∧ ∃ kvs ks, ρ[i]? = some (.obj (.dT kvs)) ∧ keysD ds = some ks ∧ P (.bool (valV kvs ks).isSome)
theorem sim_inT {i : Nat} {ta : TA} (s : SimA K ta dr) : SimP K (tDIn (tTup ta) (tVar i)) (dInT i dr) := by
  intro B F ρ σ H P Q R hd k
  refine s B F ρ σ H _ _ R hd ?_
  intro vs ds F1 H1 p1 r1 s1
  obtain ⟨l1, kvs, ks, ho, hk, hp⟩ := p1
  refine ⟨by rw [r1.length]; exact sz_of l1, ?_⟩
  intro q hq
  have st := s1.trans (Step.new (o := .tup vs) s1.fh hq)
  obtain ⟨p, hv, f0, b0, hl⟩ := (R.step st).objv ho
  refine ⟨_, hv, p, _, rfl, Or.inr ⟨kvs, ks, q, Or.inl hl, rfl, ?_, rfl⟩, ?_⟩
  · rw [← reps_keys r1 hk]
    exact upd_same
  · exact k _ _ _ _ hp (.bl _) st
theorem dp_inT {i : Nat} {x1 pos1} {f : Expr} (h : DA K X es dr) (hu : ∀ c, (X c).A.units + 1 < cLine) (hx : ∀ c, PE (X c) f (tVar i))
    (hm : behindInMarks .In f = false := by first | exact nobehind _ (by decide) (by decide) | rfl) : DP K X (.Compare (.Tuple es x1 pos1) [.In] [f] pos) (dInT i dr) := by
  obtain ⟨ta, pa, sa⟩ := h
  exact ⟨_, fun c => pe_cmp (pc_din (hu c) (pe_tup (pa c)) (hx c)) hm, sim_inT sa⟩
theorem dt_inT {i : Nat} {x1 pos1} {f : Expr} (h : DA K X es dr) (hu : ∀ c, (X c).A.units + 1 < cLine) (hx : ∀ c, PE (X c) f (tVar i))
    (hm : behindInMarks .In f = false := by first | exact nobehind _ (by decide) (by decide) | rfl) : DT K X (.Compare (.Tuple es x1 pos1) [.In] [f] pos) (dB (dInT i dr)) := by
  obtain ⟨ta, pa, sa⟩ := h
  exact ⟨_, fun c => pt_cmp (pc_din (hu c) (pe_tup (pa c)) (hx c)) hm, (sim_inT sa).asB⟩
/-- x.get((..), d) -/
def dGetT (i : Nat) (dr : DAr) (dx : DPr) : DPr := fun ρ P => (∃ kvs, ρ[i]? = some (.obj (.dT kvs))) ∧ dr ρ fun ds => ds.length ≤ 100000 ∧ dx ρ fun z => ∃ kvs ks, ρ[i]? = some (.obj (.dT kvs)) ∧ keysD ds = some ks ∧ scalD z = true ∧ ((valV kvs ks).all plainV = true) ∧ P (vD ((valV kvs ks).getD (dV z)))
theorem dp_getT {i : Nat} {f : Expr} {x1 pos1} {dx : DPr} (hk : DA K X es dr) (hd : DP K X f dx) (pe : ∀ c {tk tx : TE}, PE (X c) (.Tuple es x1 pos1) tk → PE (X c) f tx → PE (X c) e (tDGet2 (tVar i) tk tx)) : DP K X e (dGetT i dr dx) := by
  obtain ⟨ta, pk, sk⟩ := hk
  obtain ⟨tx, px, sx⟩ := hd
  refine ⟨_, fun c => pe c (pe_tup (pk c)) (px c), ?_⟩
  intro B F ρ σ H P Q R hd k
  obtain ⟨⟨kvs0, ho0⟩, hd⟩ := hd
  obtain ⟨p, hv, f0, b0, hl⟩ := R.objv ho0
  refine ⟨_, hv, p, rfl, Or.inr ⟨kvs0, Or.inl hl⟩, ?_⟩
  refine sk B F ρ σ H _ _ R hd ?_
  intro vs ds F1 H1 p1 r1 s1
  obtain ⟨l1, p1⟩ := p1
  refine ⟨by rw [r1.length]; exact sz_of l1, ?_⟩
  intro q hq
  have st := s1.trans (Step.new (o := .tup vs) s1.fh hq)
  refine sx B _ ρ σ _ _ _ (R.step st) p1 ?_
  intro w d2 F2 H2 p2 r2 s2
  obtain ⟨kvs, ks, ho, hk, sc, pl, p2⟩ := p2
  rw [ho0] at ho
  cases ho
  have ew := r2.toV sc
  have hl2 : H2 p = some (.dT kvs0) := s2.hh _ _ (st.hh _ _ hl)
  have hq2 : H2 q = some (.tup (ks.map kV)) := by
    rw [← reps_keys r1 hk]
    exact s2.hh _ _ upd_same
  refine ⟨valV kvs0 ks, Or.inr ⟨kvs0, ks, q, Or.inl hl2, rfl, hq2, rfl⟩, ?_⟩
  refine k _ _ F2 H2 p2 ?_ (st.trans s2)
  rw [ew]
  refine Rep.ofV ?_
  cases q : valV kvs0 ks with
  | none => exact (scal_plain sc).1
  | some u =>
    rw [q] at pl
    exact pl
/-- x[(..)] = v -/
def sPutT (i : Nat) (dv : EPr) (dr : DAr) : DSr := fun M ρ => dv ρ fun z ρ1 => ownsAt ρ1 i = true ∧ dr ρ1 fun ds => ds.length ≤ 100000 ∧ ∃ kvs ks, ρ1[i]? = some (.obj (.dT kvs)) ∧ keysD ds = some ks ∧ scalD z = true ∧ kvs.length < 100000 ∧ M.nx (ρ1.set i (.obj (.dT (putK kvs ks (dV z)))))
theorem ds_putT {i : Nat} {x : Expr} {x1 pos1} {dv : EPr} (hx : ∀ c, PE (X c) x (tVar i)) (hv : DE K X e dv) (hk : DA K X es dr)
    (ps : ∀ c {tv tk : TE}, PE (X c) x (tVar i) → PE (X c) (.Tuple es x1 pos1) tk → PE (X c) e tv → PS (X c) st (sDPut (tVar i) tk tv)) : DS K X st (sPutT i dv dr) := by
  obtain ⟨tv, pv', sv⟩ := hv
  obtain ⟨ta, pk, sk⟩ := hk
  refine ⟨_, fun c => ps c (hx c) (pe_tup (pk c)) (pv' c), ?_⟩
  intro c F ρ σ H M E R hd k
  refine sv c F ρ σ H _ _ R hd ?_
  intro v d F1 ρ1 H1 m1 r1 e1 R1
  obtain ⟨o1, m1⟩ := m1
  obtain ⟨q0, hq0⟩ := ownsAt_addr R1.p o1
  refine ⟨_, hq0, ?_⟩
  refine sk c F1 ρ1 σ H1 _ _ R1.p m1 ?_
  intro ws ds F2' H2' m2 r2 s2
  obtain ⟨l2, kvs, key, ho, hk1, sc, hlen, m2⟩ := m2
  refine ⟨by rw [r2.length]; exact sz_of l2, ?_⟩
  intro q hq
  have stp := s2.trans (Step.new (o := .tup ws) s2.fh hq)
  generalize eF : upd F2' q (.tup ws) = F2 at stp
  generalize eH : upd H2' q (.tup ws) = H2 at stp ⊢
  have hb : H2 q = some (.tup (key.map kV)) := by
    rw [← reps_keys r2 hk1, ← eH]
    exact upd_same
  have R2 := R1.step stp
  obtain ⟨p, hv, f0, b0, hl⟩ := R2.p.objv ho
  have ep : p = q0 := by
    rw [hq0] at hv
    cases hv
    rfl
  subst ep
  have ev := (r1.mono stp.ff).toV sc
  refine ⟨p, upd H2 p (.dT (putK kvs key v)), rfl, Or.inr ⟨kvs, key, q, hl, rfl, hb, sz_lt hlen, rfl⟩, ?_⟩
  rw [ev]
  refine k.nx F2 _ σ _ m2 (e1.trans stp.ff) ⟨R2.p.turn ho rfl rfl hv (Ex.refl F2) (upd_lst_step (F' := F2) (H' := H2) f0 R2.p.fh) (fun a o q z => by rw [upd_ne q]; exact z) (fun a z _ => z) ⟨p, rfl, f0, b0, upd_same⟩, ?_, R2.f0, R2.z, ?_⟩
  · intro a o q z
    have np : a ≠ p := by
      intro y
      subst y
      rw [b0] at z
      cases z
    rw [upd_ne np]
    exact R2.b a o q z
  · intro a z
    by_cases y : a = p
    · subst y
      rw [upd_same]
      exact Option.some_ne_none _
    · rw [upd_ne y]
      exact R2.cl a z
end
end Dl

set_option Elab.async false
set_option linter.all false
set_option maxRecDepth 100000
set_option maxHeartbeats 4000000
namespace Ez
open PySem PySem.Spec PyProof.Rows L2
/-! ### {(..): v for ..}: a dict whose keys are tuples, made by a comprehension -/
theorem kt_len {H : Hp} {kvs : List (List Key × V)} {xs : List (List Key × Addr × Value)} (h : KT H kvs xs) : xs.length = kvs.length := by
  induction h with
  | nil => rfl
  | cons _ _ ih => simp [ih]
theorem d_dictSetT {X : Cx} {pins : List (Addr × Obj)} {σ : L2.St} {H : Hp} {s : Shared} {E : Value → Shared → Prop} {D b : Addr} {kvs : List (List Key × V)} {k : List Key} {v : V} {u r : Value} {Q : Unit → Shared → Prop}
    (hu : X.A.units < cLine) (I : L2.Inv X pins σ H s) (h : H D = some (.dT kvs)) (hl : kvs.length < sizeLine) (hb : H b = some (.tup (k.map kV))) (ru : RelV (.ref b) u) (rv : RelV v r)
    (kq : ∀ s', L2.Inv X pins σ (upd H D (.dT (putK kvs k v))) s' → Q () s') : wpAny (model X.prog X.w) X.A (dictSet D u r) Q E s := by
  cases (show u = Value.ref b from ru)
  obtain ⟨hl0, hsm, xs, kt, dh⟩ := dt_of I.hok h
  have xl := kt_len kt
  refine wpAny_dictSet_heap (knd := tupleKind (mixKind X.prog X.w)) hu (key_of I.hok hb) dh (fun h' dh' sb => ?_) (by omega)
  have kt2 := kt.put k hb rv
  have kt3 : KT (upd H D (.dT (putK kvs k v))) (putK kvs k v) (storedH xs k b r) := kt2.keeps fun c ys hc => by
    have : c ≠ D := fun z => by
      subst z
      rw [h] at hc
      cases hc
    rw [upd_ne this]
    exact hc
  obtain ⟨o, es, ep, g1, g2, g3, g4, g5, g6⟩ := dh'
  refine kq _ (I.write (e := D) (by rw [h]; trivial) (Or.inl rfl) (fun c o hc q => (sb.2 c hc).trans q) ⟨o, g1⟩ ?_)
  unfold ObjOk
  exact ⟨by have := length_putK kvs k v; omega, hsm, _, kt3, o, es, ep, g1, g2, g3, g4, g6⟩
def tDcT (wi : TI) (g : TG) (tt : TT) (tk tv : TE) (vs : List Nat) : TE := fun σ H Q => wi σ H fun J H1 => ∀ D, H1 D = none → ∃ W : Nat → Nat → Hp → Prop, (∃ m, W 0 m (upd H1 D (.dT []))) ∧
  ∀ i m H, W i m H → (J.stop i H ∧ Q (.ref D) H) ∨ (J.go i H ∧ ∃ Nx : Hp → Prop, (∀ H', Nx H' → ∃ m', m' < m ∧ W (i + 1) m' H') ∧
    ∀ x H', J.yld i H x H' → g x (wipe σ vs) H' fun σ2 H2 => wipe σ2 vs = wipe σ vs ∧ tt σ2 H2 fun b H3 => if b = true then
      tk σ2 H3 fun y H4 => tv σ2 H4 fun z H5 => ∃ kvs k q, y = .ref q ∧ H5 q = some (.tup (k.map kV)) ∧ H5 D = some (.dT kvs) ∧ kvs.length < sizeLine ∧ Nx (upd H5 D (.dT (putK kvs k z)))
      else Nx H3)
theorem pe_dcT {X : Cx} {kx vx tg iter : Expr} {ifs : List Expr} {scope : Scope} {own : List (Str × Nat)} {pos : Pos} {wi : TI} {g : TG} {tt : TT} {tk tv : TE}
    (hc : X.calm = true) (hN : X.N.Nodup) (hu : X.A.units < cLine) (pi : PI X tg iter wi) (ok : BlkOk X.N X.env.scope scope own)
    (hg : ∀ (s : Shared) (H : Hp) (C : Addr) (cl : List (Str × Addr)) (fp : List Addr), PG (X.blk s H scope (compEnvC scope cl C X.env) fp) tg g)
    (ht : ∀ (s : Shared) (H : Hp) (C : Addr) (cl : List (Str × Addr)) (fp : List Addr), PTs (X.blk s H scope (compEnvC scope cl C X.env) fp) ifs tt)
    (hk : ∀ (s : Shared) (H : Hp) (C : Addr) (cl : List (Str × Addr)) (fp : List Addr), PE (X.blk s H scope (compEnvC scope cl C X.env) fp) kx tk)
    (hv : ∀ (s : Shared) (H : Hp) (C : Addr) (cl : List (Str × Addr)) (fp : List Addr), PE (X.blk s H scope (compEnvC scope cl C X.env) fp) vx tv)
    (hs : ∀ x, foldedSetIterable iter X.env x = pure x := by intro _; rfl) :
    PE X (.DictComp kx vx [⟨tg, iter, ifs, 0⟩] scope pos) (tDcT wi g tt tk tv (own.map (·.2))) := by
  refine ⟨fun pins s σ H Q I h => ?_⟩
  rw [arm_eval_DictComp]
  have hcl : closureFor scope X.env = pure (cloFrom X.env.cells scope.names []) := closure_ok fun y hy hf => by
    refine I.ok.has y.1 ?_
    have e : X.env.kindOf y.1 = X.env.scope.names.lookup y.1 := by
      unfold Env.kindOf
      rfl
    rw [e]
    exact ok.free y hy hf
  refine wpAny_comprehension_free (g := ⟨tg, iter, ifs, 0⟩) (gs := []) rfl hs hcl ok.kind (fun x hx e => by rw [← e]; exact ok.uniq x hx) ?_
  refine thn (pi.run pins s σ H _ I h) fun v s1 h1 => thn h1 fun it s2 h2 => ?_
  obtain ⟨it', fp, tn, J, H1, rfl, I2, T, t0, hf, q⟩ := h2
  have hlt : ∀ b ∈ fp, b < s2.heap.objs.size := fun b hb => by
    obtain ⟨o, ho, _⟩ := T.obj 0 _ t0 b hb
    exact Heap.lt_size ho
  rw [newDict.eq_1]
  refine wpAny_newObj_type ?_
  have hD : H1 s2.heap.objs.size = none := I2.hok.fresh (Nat.le_refl _)
  obtain ⟨W, ⟨m0, hW0⟩, hq⟩ := q s2.heap.objs.size hD
  have I3 : L2.Inv X pins σ (upd H1 s2.heap.objs.size (.dT [])) { s2 with heap := s2.heap.push { cls := .type "dict", data := .dict #[] } } :=
    I2.laid (t' := s2.toks) (fun b u hb => Heap.get?_push_of_some _ hb) (Nat.le_refl _) (dt_empty s2.heap I2.big)
  generalize eD : s2.heap.objs.size = D at hD hW0 hq I3 hlt ⊢
  generalize eh3 : s2.heap.push { cls := Value.type "dict", data := Data.dict #[] } = h3 at I3 ⊢
  have keep3 : ∀ b o, s2.heap.get? b = some o → h3.get? b = some o := fun b o hb => by
    rw [← eh3]
    exact Heap.get?_push_of_some _ hb
  have sz3 : h3.objs.size = D + 1 := by
    rw [← eh3, ← eD]
    exact Heap.size_push ..
  refine newEnv_comp ?_
  have fp3 : ∀ b ∈ fp, FpOk X pins (upd H1 D (.dT [])) b ∧ b < h3.objs.size := fun b hb => by
    have hbD := hlt b hb
    refine ⟨⟨?_, (hf b hb).2⟩, by rw [sz3]; exact Nat.lt_succ_of_lt hbD⟩
    rw [upd_ne (Nat.ne_of_lt hbD)]
    exact (hf b hb).1
  have I4 := block_start (scope := scope) (own := own) (fp := fp) I3 ok hN fp3
  have hob : ∀ b o, s2.heap.get? b = some o → (pushCells (h3.push { cls := Value.type "dict", data := Data.dict #[] }) scope.names).get? b = some o := fun b o ho =>
    pushCells_keeps _ _ _ _ (Heap.get?_push_of_some _ (keep3 b o ho))
  have t4 := T.keep 0 _ _ t0 (fun b _ o ho => hob b o ho)
  dsimp only at I4 ⊢
  generalize eC : h3.objs.size = C at I4 ⊢
  generalize ecl : cellsFrom (C + 1) scope.names (cloFrom X.env.cells scope.names []) = cl at I4 ⊢
  generalize eh4 : pushCells (h3.push { cls := Value.type "dict", data := Data.dict #[] }) scope.names = h4 at I4 t4 ⊢
  have fpb : ∀ H', (∀ b ∈ fp, H' b = none) → ∀ b ∈ fp, FpOk (X.blk { s2 with heap := h3 } (upd H1 D (.dT [])) scope (compEnvC scope cl C X.env) fp) [] H' b := fun H' hn b hb =>
    ⟨hn b hb, (I4.ok.exf b hb).1, I4.ok.exfs b hb, Or.inl hb, (I4.ok.exf b hb).2, fun p hp => nomatch hp⟩
  have loop : codeAny (model X.prog X.w) X.A (Code.compLoop (.DictComp kx vx [⟨tg, iter, ifs, 0⟩] scope pos) 0 (.ref it') (.ref D) (compEnvC scope cl C X.env)) (compPost (model X.prog X.w) X.A X.xe none (EP X pins σ Q) (.ref D) C) { s2 with heap := h4 } := by
    refine compLoop_anyD (fun n s' => ∃ i H5, W i n H5 ∧ L2.Inv (X.blk { s2 with heap := h3 } (upd H1 D (.dT [])) scope (compEnvC scope cl C X.env) fp) [] (wipe σ (own.map (·.2))) H5 s' ∧ tn i s'.heap ∧ ∀ b ∈ fp, H5 b = none) ?_ m0 ⟨0, _, hW0, I4, t4, fun b hb => (fp3 b hb).1.1⟩
    rintro n s5 ⟨i, H5, hW, I5, t5, f5⟩
    rcases hq i n H5 hW with ⟨hst, hQ⟩ | ⟨hgo, Nx, hNx, hturn⟩
    · refine thn (T.done (X.blk { s2 with heap := h3 } (upd H1 D (.dT [])) scope (compEnvC scope cl C X.env) fp) rfl rfl rfl hc i [] s5 _ H5 _ I5 (fpb H5 f5) t5 hst) ?_
      rintro r s6 ⟨rfl, I6⟩
      have Iend : L2.Inv X pins σ H5 s6 := I3.call' (ch := fp) I6.os I6.base I6.hok I6.bare fun b hb => ⟨(hf b hb).2.2.2.1, (hf b hb).2.1, (hf b hb).2.2.2.2.1, (hf b hb).2.2.2.2.2⟩
      obtain ⟨m, hm, _⟩ := I6.loc
      refine ⟨m, hm, fun h' sb => ⟨.ref D, H5, ?_, rfl, hQ⟩⟩
      have hC : FpOk X pins H5 C := I3.fpOk (by show h3.objs.size ≤ C; rw [eC]; exact Nat.le_refl _) I6.free
      exact Iend.turnedL (t' := s6.toks) (ch := [C]) (fun b o hb ho => (sb.2 b (fun z => hb (by simp [z]))).trans ho) (fun b hb => by
        have : b = C := by simpa using hb
        rw [this]
        exact hC)
    · refine thn (T.item (X.blk { s2 with heap := h3 } (upd H1 D (.dT [])) scope (compEnvC scope cl C X.env) fp) rfl rfl rfl hc i [] s5 _ H5 _ I5 (fpb H5 f5) t5 hgo) ?_
      rintro r s6 ⟨u, rfl, h6⟩
      refine thn h6 ?_
      rintro _ s7 ⟨x, H7, I7, r7, y7, st7, n7⟩
      have I7p := I7.pinned (fpb H7 n7) (fun b hb => T.obj (i + 1) _ st7 b hb)
      have pin : ∀ {σ' : List (Option V)} {H' : Hp} {s' : Shared}, L2.Inv (X.blk { s2 with heap := h3 } (upd H1 D (.dT [])) scope (compEnvC scope cl C X.env) fp) ([] ++ pinsAt fp s7.heap) σ' H' s' → tn (i + 1) s'.heap ∧ ∀ b ∈ fp, H' b = none := by
        intro σ' H' s' I'
        have at_ : ∀ b ∈ fp, ∀ o, s7.heap.get? b = some o → s'.heap.get? b = some o ∧ H' b = none := fun b hb o ho => by
          have := I'.pin (b, o) (List.mem_append_right _ (List.mem_append_right _ (List.mem_filterMap.mpr ⟨b, hb, by rw [ho]; rfl⟩)))
          exact ⟨this.1, this.2.1⟩
        refine ⟨T.keep (i + 1) _ _ st7 fun b hb o ho => (at_ b hb o ho).1, fun b hb => ?_⟩
        obtain ⟨o, ho, _⟩ := T.obj (i + 1) _ st7 b hb
        exact (at_ b hb o ho).2
      have back : ∀ {σ' : List (Option V)} {H' : Hp} {s' : Shared}, wipe σ' (own.map (·.2)) = wipe σ (own.map (·.2)) → L2.Inv (X.blk { s2 with heap := h3 } (upd H1 D (.dT [])) scope (compEnvC scope cl C X.env) fp) ([] ++ pinsAt fp s7.heap) σ' H' s' → Nx H' →
          ∃ m, m < n ∧ ∃ i H5, W i m H5 ∧ L2.Inv (X.blk { s2 with heap := h3 } (upd H1 D (.dT [])) scope (compEnvC scope cl C X.env) fp) [] (wipe σ (own.map (·.2))) H5 s' ∧ tn i s'.heap ∧ ∀ b ∈ fp, H5 b = none := by
        intro σ' H' s' hw I' hx
        obtain ⟨m', lt, hW'⟩ := hNx H' hx
        have hp := pin I'
        refine ⟨m', lt, i + 1, H', hW', ?_, hp.1, hp.2⟩
        refine (I'.unpinned).weak ?_ ?_
        · rw [← hw, wipe_length]
        · intro j v hj
          rw [← hw] at hj
          exact (wipe_some hj).1
      refine thnF ((hg _ _ C cl fp).run _ s7 _ H7 x u _ I7p r7 (hturn x H7 y7)) ?_
      rintro _ s8 ⟨σ8, H8, I8, hw8, q8⟩
      refine thnF ((ht _ _ C cl fp).run _ s8 σ8 H8 _ I8 q8) ?_
      rintro b s9 ⟨H9, I9, q9⟩
      cases b with
      | false =>
        rw [if_neg (by decide)] at q9
        rw [if_neg (by decide)]
        exact back hw8 I9 q9
      | true =>
        rw [if_pos rfl] at q9
        rw [if_pos rfl]
        refine thnF ((hk _ _ C cl fp).run _ s9 σ8 H9 _ I9 q9) ?_
        rintro kv s10 ⟨y, H10, I10, r10, q10⟩
        refine thnF ((hv _ _ C cl fp).run _ s10 σ8 H10 _ I10 q10) ?_
        rintro vv s11 ⟨z, H11, I11, r11, kvs, k, q, rfl, hqt, hDk, hl, hN2⟩
        exact d_dictSetT (X := X.blk { s2 with heap := h3 } (upd H1 D (.dT [])) scope (compEnvC scope cl C X.env) fp) hu I11 hDk hl hqt r10 r11 fun s' I12 => back hw8 I12 hN2
  refine codeAny_compStart_dict loop ?_
  exact T.self _ 0 _ _ _ t4 loop
end Ez

set_option Elab.async false
set_option linter.all false
set_option maxRecDepth 100000
set_option maxHeartbeats 4000000
namespace Dl
open PySem PySem.Spec PyProof.Rows L2 Evl G
abbrev DTbr := Env → (List (List Key × V) → Prop) → Prop
/-- a new dict that nobody else holds, its keys tuples -/
def SimTb (K : PySem.W.Frag) (te : TE) (dO : DTbr) : Prop :=
  ∀ (B : Cd) (F : Hp) (ρ : Env) (σ : L2.St) (H : Hp) (P : List (List Key × V) → Prop) (Q : VK), RelP K B F ρ σ H → dO ρ P →
    (∀ p kvs F' H', P kvs → H p = none → F' p = none → H' p = some (.dT kvs) → Step F H F' H' → Q (.ref p) H') → te σ H Q
def DTb {ι : Type} (K : PySem.W.Frag) (X : ι → Cx) (e : Expr) (dO : DTbr) : Prop := ∃ te, (∀ c, PE (X c) e te) ∧ SimTb K te dO
def dDcT (di : DIr) (dg : DGr) (dt : DTr) (dk : DAr) (dv : DPr) (vs : List Nat) : DTbr := fun ρ P => di ρ fun ds => ds.length ≤ 100000 ∧ ∃ I : Nat → List (List Key × V) → Prop, I 0 [] ∧
  (∀ i d kvs, ds[i]? = some d → kvs.length ≤ i → I i kvs → dg d (wipeD ρ vs) fun ρ' => dt ρ' fun b => if b = true then dk ρ' fun es => es.length ≤ 100000 ∧ ∃ k, keysD es = some k ∧ dv ρ' fun z => scalD z = true ∧ I (i + 1) (putK kvs k (dV z)) else I (i + 1) kvs) ∧
  ∀ kvs, kvs.length ≤ ds.length → I ds.length kvs → P kvs
structure DcAt (F H : Hp) (Dl : Addr) (kvs : List (List Key × V)) (F' H' : Hp) : Prop where
  ff : Ex F F'
  fh : Ex F' H'
  hh : Ex H H'
  nn : ∀ a, F a = none → H a ≠ none → F' a = none
  fd : F' Dl = none
  at_ : H' Dl = some (.dT kvs)
section
variable {K : PySem.W.Frag}
theorem sim_dcT {wi : TI} {g : TG} {tt : TT} {ta : TA} {tv : TE} {di : DIr} {dg : DGr} {dt : DTr} {dk : DAr} {dv : DPr} {vs sl : List Nat} (si : SimI K wi di) (sg : SimG K g dg sl) (st : SimT K tt dt) (sk : SimA K ta dk) (sv : SimP K tv dv) (hsl : ∀ i ∈ sl, i ∈ vs) :
    SimTb K (Ez.tDcT wi g tt (tTup ta) tv vs) (dDcT di dg dt dk dv vs) := by
  intro B F ρ σ H P Q R hd k
  refine si B F ρ σ H _ _ R hd ?_
  intro ds J F1 H1 p1 s1 its
  obtain ⟨hlen, Inv, i0, turn, fin⟩ := p1
  intro Dl hD
  have R1 := R.step s1
  have fD1 : F1 Dl = none := fresh_back s1.fh hD
  refine ⟨fun i m H2 => m = ds.length - i ∧ i ≤ ds.length ∧ ∃ kvs F2, kvs.length ≤ i ∧ Inv i kvs ∧ DcAt F1 H1 Dl kvs F2 H2, ⟨ds.length, by simp, Nat.zero_le _, [], F1, Nat.le_refl _, i0, ?_⟩, ?_⟩
  · exact ⟨Ex.refl F1, s1.fh.trans (Ex.new hD), Ex.new hD, fun a h _ => h, fD1, upd_same⟩
  · rintro i m H2 ⟨rfl, hi, kvs, F2, ha, hI, L⟩
    have hDl := L.at_
    by_cases hlt : i < ds.length
    · right
      have hget : ds[i]? = some ds[i] := List.getElem?_eq_getElem hlt
      obtain ⟨hgo, hy⟩ := (its F2 H2 i L.ff L.fh).1 _ hget
      refine ⟨hgo, fun H' => ∃ kvs' F', kvs'.length ≤ i + 1 ∧ Inv (i + 1) kvs' ∧ DcAt F1 H1 Dl kvs' F' H', ?_, ?_⟩
      · rintro H' ⟨acc', F', h1, h2, h3⟩
        exact ⟨ds.length - (i + 1), by omega, rfl, hlt, acc', F', h1, h2, h3⟩
      · intro x H3 y3
        obtain ⟨F3, s3, r3⟩ := hy x H3 y3
        have s13 : Step F1 H1 F3 H3 := ⟨L.ff.trans s3.ff, s3.fh, L.hh.trans s3.hh, fun a h1 h2 => s3.nn a (L.nn a h1 h2) (ex_some L.hh h2)⟩
        have f3 : F3 Dl = none := s3.nn Dl L.fd (by rw [hDl]; exact Option.some_ne_none _)
        have R3 : RelP K B F3 (wipeD ρ vs) (wipe σ vs) H3 := (R1.step s13).wiped vs
        refine sg B F3 _ _ H3 x ds[i] _ _ R3 r3 (turn i _ kvs hget ha hI) ?_
        intro ρ4 σ4 p4 R4 w4
        refine ⟨by rw [w4 vs hsl, wipe_wipe], ?_⟩
        refine st B F3 ρ4 σ4 H3 _ _ R4 p4 ?_
        intro b F5 H5 p5 s5
        have s15 : Step F1 H1 F5 H5 := s13.trans s5
        have f5 : F5 Dl = none := s5.nn Dl f3 (by rw [s3.hh _ _ hDl]; exact Option.some_ne_none _)
        have hD5 : H5 Dl = some (.dT kvs) := s5.hh _ _ (s3.hh _ _ hDl)
        cases b with
        | false =>
          exact ⟨kvs, F5, by omega, p5, s15.ff, s15.fh, s15.hh, s15.nn, f5, hD5⟩
        | true =>
          have R5 := R4.step s5
          refine sk B F5 ρ4 σ4 H5 _ _ R5 p5 ?_
          intro ws es F6 H6 p6 r6 s6
          obtain ⟨l6, key, hk, p6⟩ := p6
          refine ⟨by rw [r6.length]; exact sz_of l6, ?_⟩
          intro q hq
          have s6' := s6.trans (Step.new (o := .tup ws) s6.fh hq)
          refine sv B _ ρ4 σ4 _ _ _ (R5.step s6') p6 ?_
          intro z d F7 H7 p7 r7 s7
          obtain ⟨sc, p7⟩ := p7
          have s57 := s6'.trans s7
          have s17 : Step F1 H1 F7 H7 := s15.trans s57
          have f7 : F7 Dl = none := s57.nn Dl f5 (by rw [hD5]; exact Option.some_ne_none _)
          have hD7 : H7 Dl = some (.dT kvs) := s57.hh _ _ hD5
          have hq7 : H7 q = some (.tup (key.map kV)) := by
            rw [← reps_keys r6 hk]
            exact s7.hh _ _ upd_same
          have ez := r7.toV sc
          refine ⟨kvs, key, q, rfl, hq7, hD7, sz_lt (by omega), putK kvs key z, F7, by have := length_putK kvs key z; omega, by rw [ez]; exact p7, s17.ff, ?_, ?_, s17.nn, f7, upd_same⟩
          · exact upd_lst_step (F' := F7) (H' := H7) f7 s17.fh
          · intro a u h
            have hne : a ≠ Dl := by
              intro z
              subst z
              rw [hD] at h
              cases h
            rw [upd_ne hne]
            exact s17.hh a u h
    · left
      have ei : i = ds.length := by omega
      subst ei
      refine ⟨(its F2 H2 _ L.ff L.fh).2 (Nat.le_refl _), ?_⟩
      have hH : H Dl = none := fresh_back s1.hh hD
      exact k Dl kvs F2 H2 (fin kvs ha hI) hH L.fd hDl (s1.trans ⟨L.ff, L.fh, L.hh, L.nn⟩)
end
section
variable {ι : Type} {K : PySem.W.Frag} {X : ι → Cx} {e a b c : Expr} {pos p : Pos} {es : List Expr}
theorem do_dcT {vx tg iter : Expr} {kes : List Expr} {x1 pk} {ifs : List Expr} {scope : Scope} {own : List (Str × Nat)} {di : DIr} {dg : DGr} {dt : DTr} {dk : DAr} {dv : DPr} {sl : List Nat}
    (hi : DI K X tg iter di) (hg : DG K (blkX X scope) tg dg sl) (ht : DTs K (blkX X scope) ifs dt) (hk : DA K (blkX X scope) kes dk) (hv : DP K (blkX X scope) vx dv)
    (hu : ∀ c, (X c).A.units < cLine)
    (ok : ∀ c, BlkOk (X c).N (X c).env.scope scope own) (hN : ∀ c, (X c).N.Nodup) (hsl : ∀ i ∈ sl, i ∈ own.map (·.2) := by decide) (hc : ∀ c, (X c).calm = true := by intro _; rfl)
    (hs : ∀ c x, foldedSetIterable iter (X c).env x = pure x := by intro _ _; rfl) :
    DTb K X (.DictComp (.Tuple kes x1 pk) vx [⟨tg, iter, ifs, 0⟩] scope pos) (dDcT di dg dt dk dv (own.map (·.2))) := by
  obtain ⟨wi, pi, si⟩ := hi
  obtain ⟨g, pg, sg⟩ := hg
  obtain ⟨tt, pt, st⟩ := ht
  obtain ⟨ta, pk', sk⟩ := hk
  obtain ⟨tv, pv', sv⟩ := hv
  exact ⟨_, fun c => Ez.pe_dcT (hc c) (hN c) (hu c) (pi c) (ok c) (fun s H C cl fp => pg (c, s, H, C, cl, fp)) (fun s H C cl fp => pt (c, s, H, C, cl, fp)) (fun s H C cl fp => pe_tup (pk' (c, s, H, C, cl, fp))) (fun s H C cl fp => pv' (c, s, H, C, cl, fp)) (hs c), sim_dcT si sg st sk sv hsl⟩
end
/-! ### a def whose last argument is a new dict that nobody else holds -/
def spO (K : PySem.W.Frag) (dO : List D → List (List Key × V) → (D → Prop) → Prop) : Sp := fun vs H Q _ => ∃ F ws p kvs ds P, vs = ws ++ [.ref p] ∧ Ex F H ∧ F p = none ∧ H p = some (.dT kvs) ∧ Reps K F ws ds ∧ dO ds kvs P ∧
  ∀ v d F' H', P d → Rep K F' v d → Ex F F' → Ex F' H' → (∀ a o, a ≠ p → H a = some o → H' a = some o) → (∀ a, a ≠ p → F a = none → H a ≠ none → F' a = none) → Q v H'
def startO (N : List Str) (ds : List D) (kvs : List (List Key × V)) : Env := ds.map .dat ++ .obj (.dT kvs) :: List.replicate (N.length - (ds.length + 1)) .no
theorem startO_get {N : List Str} {ds : List D} {kvs : List (List Key × V)} {i : Nat} {s : Slot} (h : (startO N ds kvs)[i]? = some s) : (i < ds.length ∧ ∃ d, ds[i]? = some d ∧ s = .dat d) ∨ (i = ds.length ∧ s = .obj (.dT kvs)) ∨ (ds.length < i ∧ s = .no) := by
  unfold startO at h
  by_cases hi : i < ds.length
  · rw [List.getElem?_append_left (by simpa using hi), List.getElem?_map] at h
    refine Or.inl ⟨hi, ds[i], List.getElem?_eq_getElem hi, ?_⟩
    rw [List.getElem?_eq_getElem hi] at h
    simpa using h.symm
  · right
    rw [List.getElem?_append_right (by simpa using hi), List.length_map] at h
    cases q : i - ds.length with
    | zero =>
      rw [q] at h
      exact Or.inl ⟨by omega, by simpa using h.symm⟩
    | succ j =>
      rw [q, List.getElem?_cons_succ, List.getElem?_replicate] at h
      split at h
      · exact Or.inr ⟨by omega, by simpa using h.symm⟩
      · cases h
section
variable {K : PySem.W.Frag}
open Classical in
noncomputable def less (H : Hp) (p : Addr) : Hp := fun a => if a = p then none else H a
theorem less_some {H : Hp} {p a : Addr} {o : HO} (h : less H p a = some o) : a ≠ p ∧ H a = some o := by
  unfold less at h
  by_cases q : a = p
  · rw [if_pos q] at h
    cases h
  · rw [if_neg q] at h
    exact ⟨q, h⟩
theorem less_ne {H : Hp} {p a : Addr} (h : a ≠ p) : less H p a = H a := if_neg h
theorem rel_startO {F H : Hp} {N : List Str} {p : Addr} {vs : List V} {ds : List D} {kvs : List (List Key × V)} (e : Ex F H) (hp : H p = some (.dT kvs)) (f0 : F p = none) (r : Reps K F vs ds) :
    Rel K ⟨F, less H p, none⟩ F (startO N ds kvs) (L2.start N (vs ++ [.ref p])) H := by
  have hl := r.length
  refine ⟨⟨e, ?_, ?_, ?_⟩, fun a o _ z => (less_some z).2, Ex.refl F, fun a _ z => z, fun a z => by cases z⟩
  · unfold startO L2.start
    simp [hl]
  · intro i s o h1 h2
    rcases startO_get h1 with ⟨hi, d, hd, rfl⟩ | ⟨rfl, rfl⟩ | ⟨hi, rfl⟩
    · rcases start_get h2 with ⟨hj, v, hv, rfl⟩ | ⟨hj, rfl⟩
      · obtain ⟨v', hv', rv⟩ := r.get hd
        rw [List.getElem?_append_left (by omega), hv'] at hv
        cases hv
        exact ⟨v, rfl, rv⟩
      · simp at hj
        omega
    · rcases start_get h2 with ⟨hj, v, hv, rfl⟩ | ⟨hj, rfl⟩
      · rw [← hl, List.getElem?_append_right (Nat.le_refl _)] at hv
        simp at hv
        subst hv
        exact ⟨p, rfl, f0, if_pos rfl, hp⟩
      · simp at hj
        omega
    · rcases start_get h2 with ⟨hj, v, hv, rfl⟩ | ⟨hj, rfl⟩
      · simp at hj
        omega
      · rfl
  · intro i j s t q hij h1 h2 o1 o2
    rcases startO_get h1 with ⟨_, d, _, rfl⟩ | ⟨rfl, rfl⟩ | ⟨_, rfl⟩
    · cases o1
    · rcases startO_get h2 with ⟨_, d, _, rfl⟩ | ⟨rfl, rfl⟩ | ⟨_, rfl⟩
      · cases o2
      · exact absurd rfl hij
      · cases o2
    · cases o1
theorem fn_obj {P : Program} {w : World} {mg : Str → Option Value} {base : Heap} {x qual : Str} {st : Stmt} {f : Addr} {fd : FuncData} {N ps : List Str} {k : Nat} {dO : List D → List (List Key × V) → (D → Prop) → Prop} {body : DSr}
    (Fn : Fun K x qual st f fd) (S : FnScope N ps (defScope st)) (len : ∀ ds kvs Q, dO ds kvs Q → ds.length + 1 = ps.length)
    (der : ∀ (cdv : Value) (A : Around) (outer : List PySem.Env) (s : Shared) (H : Hp) (E : XK), A.guards = some [] → Room k (A.deeper (envOfC qual (defScope st) s.heap.objs.size f cdv)) →
      DSs K (fun _ : Unit => (cxOf L2.CX0 P w K mg base N qual (defScope st) f cdv A outer s H E).nox) (defBody st) body)
    (sem : ∀ ds kvs Q, dO ds kvs Q → body { nx := fun _ => Q .none, rt := fun d _ => Q d, rn := fun _ _ => False } (startO N ds kvs)) : FnG P w K mg base L2.CX0 (k + 1) f fd ps (spO K dO) := by
  obtain ⟨oc, od, kV, doc, pm, an, cdv, ct, osl, rfl, lk, hcd⟩ := Fn.ex
  refine fnG_of lk hcd S ?_ ?_
  · rintro vs H Q E ⟨F, ws, p, kvs, ds, R, rfl, e, f0, hp, r, h, kont⟩
    have := len ds kvs R h
    rw [← this, List.length_append, r.length]
    rfl
  · rintro A outer s H vs Q E hgd hr ⟨F, ws, p, kvs, ds, R, rfl, e, f0, hp, r, h, kont⟩
    obtain ⟨ts, pp, ss⟩ := der cdv A outer s H E hgd hr
    refine ⟨ts, (pp ()).nox, ?_⟩
    refine ss _ F _ _ H _ _ (rel_startO e hp f0 r) (sem ds kvs R h) ?_
    have fin : ∀ v d F' ρ σ H', R d → Rep K F' v d → Ex F F' → Rel K ⟨F, less H p, none⟩ F' ρ σ H' → Q v H' := by
      intro v d F' ρ σ H' rd rv ex R'
      refine kont v d F' H' rd rv ex R'.p.fh (fun a o np z => R'.b a o (by intro y; cases y) (by show less H p a = some o; rw [less_ne np]; exact z)) (fun a np h1 h2 => R'.z a (by show less H p a ≠ none; rw [less_ne np]; exact h2) h1)
    refine ⟨?_, ?_, ?_, ?_, ?_⟩
    · intro F' ρ σ H' m ex R'
      exact fin .non .none F' ρ σ H' m .non ex R'
    · intro F' ρ σ H' m
      exact m.elim
    · intro F' ρ σ H' m
      exact m.elim
    · intro v d F' ρ σ H' m rv ex R'
      exact fin v d F' ρ σ H' m rv ex R'
    · intro q vs' xs F' ρ σ H' m
      exact m.elim
end
section
variable {ι : Type} {K : PySem.W.Frag} {X : ι → Cx} {e e1 e2 : Expr} {da : DPr} {dO : DTbr}
def dCallO (f : List D → List (List Key × V) → (D → Prop) → Prop) (da : DPr) (dO : DTbr) : DPr := fun ρ P => da ρ fun d => dO ρ fun kvs => f [d] kvs P
open G in
theorem dp_fnO {f : List D → List (List Key × V) → (D → Prop) → Prop} {E : XK} (h1 : DP K X e1 da) (h2 : DTb K X e2 dO)
    (pe : ∀ c {ta : TA}, PA (X c) [e1, e2] ta → PE (X c) e (G.tCallG (spO K f) E ta))
    (hs1 : ∀ c, starEach [e1, e2] (X c).env = (false, eval e1 (X c).env) :: starEach [e2] (X c).env := by intro _; rfl) (hs2 : ∀ c, starEach [e2] (X c).env = (false, eval e2 (X c).env) :: starEach [] (X c).env := by intro _; rfl) : DP K X e (dCallO f da dO) := by
  obtain ⟨t1, p1, s1⟩ := h1
  obtain ⟨t2, p2, s2⟩ := h2
  refine ⟨_, fun c => pe c (pa_cons (p1 c) (pa_cons (p2 c) pa_nil (hs2 c)) (hs1 c)), ?_⟩
  intro B F ρ σ H P Q R hd k
  refine s1 B F ρ σ H _ _ R hd ?_
  intro v d F1 H1 q1 r1 st1
  refine s2 B F1 ρ σ H1 _ _ (R.step st1) q1 ?_
  intro p kvs F2 H2 q2 hp0 f2 hp st2
  refine ⟨F2, [v], p, kvs, [d], _, rfl, st2.fh, f2, hp, .one (r1.mono st2.ff), q2, ?_⟩
  intro u d' F3 H3 q3 r3 ex1 ex2 kp nn
  refine k u d' F3 H3 q3 r3 (st1.trans ⟨st2.ff.trans ex1, ex2, ?_, ?_⟩)
  · intro a o h
    have np : a ≠ p := fun z => by
      subst z
      rw [hp0] at h
      cases h
    exact kp a o np (st2.hh a o h)
  · intro a ha hb
    have np : a ≠ p := fun z => by
      subst z
      exact hb hp0
    exact nn a np (st2.nn a ha hb) (ex_some st2.hh hb)
end
end Dl

set_option Elab.async false
set_option linter.all false
set_option maxRecDepth 100000
set_option maxHeartbeats 4000000
namespace Dl
open PySem PySem.Spec PyProof.Rows L2 Evl G
section
variable {X : Cx} {pins : List (Addr × Obj)} {σ : L2.St} {H F : Hp} {s : Shared}
mutual
theorem Rep.det {v : V} {u : Value} {d d' : D} {bs : List Addr} (I : Inv X pins σ H s) (e : Ex F H) : Rep X.K F v d → RelV v u → Reads s.heap u d' bs → d = d'
  | .non, r, q => by
    cases (show u = Value.none from r)
    cases q
    rfl
  | .bl b, r, q => by
    cases (show u = Value.bool b from r)
    cases q
    rfl
  | .int i, r, q => by
    obtain ⟨t, rfl⟩ := r
    cases q
    rfl
  | .str x, r, q => by
    obtain ⟨t, rfl⟩ := r
    cases q
    rfl
  | .lst (a := a) (xs := xs) (ds := ds) h0 r0, r, q => by
    cases (show u = Value.ref a from r)
    obtain ⟨its, rv, ⟨o, n, ho, hc, _, hd⟩, _⟩ := I.list (ex_l e h0)
    cases q with
    | list g1 g2 g3 g4 =>
      rw [ho] at g1
      cases g1
      rw [hd] at g3
      cases g3
      rw [Reps.det I e r0 rv (by simpa using g4)]
    | tuple g1 g2 g3 g4 =>
      rw [ho] at g1
      cases g1
      exact absurd (hc.symm.trans g2) (by simp)
    | dict g1 g2 g3 g4 g5 =>
      rw [ho] at g1
      cases g1
      exact absurd (hc.symm.trans g2) (by simp)
  | .tup (a := a) (xs := xs) (ds := ds) h0 r0, r, q => by
    cases (show u = Value.ref a from r)
    obtain ⟨its, rv, ⟨o, ho, hc, n, hd⟩, _⟩ := I.tuple (ex_t e h0)
    cases q with
    | list g1 g2 g3 g4 =>
      rw [ho] at g1
      cases g1
      exact absurd (hc.symm.trans g2) (by simp)
    | tuple g1 g2 g3 g4 =>
      rw [ho] at g1
      cases g1
      rw [hd] at g3
      cases g3
      rw [Reps.det I e r0 rv (by simpa using g4)]
    | dict g1 g2 g3 g4 g5 =>
      rw [ho] at g1
      cases g1
      exact absurd (hc.symm.trans g2) (by simp)
theorem Reps.det {vs : List V} {us : List Value} {ds ds' : List D} {bs : List Addr} (I : Inv X pins σ H s) (e : Ex F H) : Reps X.K F vs ds → Vals vs us → ReadsAll s.heap us ds' bs → ds = ds'
  | .nil, r, q => by
    cases r
    cases q
    rfl
  | .cons h0 r0, r, q => by
    cases r with
    | cons r1 r2 =>
      cases q with
      | cons q1 q2 => rw [Rep.det I e h0 r1 q1, Reps.det I e r0 r2 q2]
end
end
section
variable {Y : Cx} {ι : Type} {K : PySem.W.Frag} {X : ι → Cx} {e a b : Expr} {da : DPr} {dk : DAr} {kws : List Keyword}
/-- min(x, default=v), max(x, default=v) of data of one shape -/
def rBestDef (best : D → List D → D) (K : PySem.W.Frag) : List V → List V → Hp → VK → Prop := fun xs zs H Q => ∃ F l vs ds v d, xs = [.ref l] ∧ zs = [v] ∧ Ex F H ∧ SqL K F l vs ∧ Reps K F vs ds ∧ Rep K F v d ∧
  PySem.W.AlikeAll ds ∧ PyData.depthAll ds ≤ 20 ∧ (ds = [] → Q v H) ∧ (∀ y ys x, ds = y :: ys → Rep K F x (best y ys) → Q x H)
theorem call_minDef (hc : Y.calm = true) (hu : Y.A.units + 64 < cLine) : CallRK Y (.builtin "min") ["default"] (rBestDef PySem.W.minD Y.K) := by
  intro pins s σ H xs zs us ws Q I rx rz ⟨F, l, vs, ds, v, d, ex, ez, e, hl, rs, rd, hal, hdp, q0, q1⟩
  subst ex ez
  obtain ⟨its, rv, pl, _⟩ := I.list (ex_l e hl)
  obtain ⟨as, ra⟩ := Reps.reads I e rs rv
  rw [Vals.ref1 rx]
  cases rz with
  | cons rz1 rz2 =>
    cases rz2
    rename_i v'
    show wpAny _ _ (call (.builtin "min") [.ref l] [("default", v')]) _ _ _
    refine PySem.W.min_list_default (I.ok.hd hc) pl.isList (by simpa using ra) hal (by omega) ?_ ?_
    · intro hn h' tk kp
      exact ⟨v, H, I.kept (t' := tk) kp, rz1, q0 hn⟩
    · intro y ys i u h' tk bs hy hi hrd kp
      have I2 : Inv Y pins σ H { s with heap := h', toks := tk } := I.kept (t' := tk) kp
      have hi' : its[i]? = some u := by simpa using hi
      have hlen := rv.length
      have hiv : i < vs.length := by
        have := (List.getElem?_eq_some_iff.mp hi').1
        omega
      obtain ⟨x, hx⟩ : ∃ x, vs[i]? = some x := ⟨_, List.getElem?_eq_getElem hiv⟩
      obtain ⟨u2, hu2, ru2⟩ := rv.get hx
      rw [hi'] at hu2
      cases hu2
      obtain ⟨d2, _, rd2⟩ := rs.getV hx
      have ed := rd2.det I2 e ru2 hrd
      exact ⟨x, H, I2, ru2, q1 y ys x hy (by rw [← ed]; exact rd2)⟩
theorem call_maxDef (hc : Y.calm = true) (hu : Y.A.units + 64 < cLine) : CallRK Y (.builtin "max") ["default"] (rBestDef PySem.W.maxD Y.K) := by
  intro pins s σ H xs zs us ws Q I rx rz ⟨F, l, vs, ds, v, d, ex, ez, e, hl, rs, rd, hal, hdp, q0, q1⟩
  subst ex ez
  obtain ⟨its, rv, pl, _⟩ := I.list (ex_l e hl)
  obtain ⟨as, ra⟩ := Reps.reads I e rs rv
  rw [Vals.ref1 rx]
  cases rz with
  | cons rz1 rz2 =>
    cases rz2
    rename_i v'
    show wpAny _ _ (call (.builtin "max") [.ref l] [("default", v')]) _ _ _
    refine PySem.W.max_list_default (I.ok.hd hc) pl.isList (by simpa using ra) hal (by omega) ?_ ?_
    · intro hn h' tk kp
      exact ⟨v, H, I.kept (t' := tk) kp, rz1, q0 hn⟩
    · intro y ys i u h' tk bs hy hi hrd kp
      have I2 : Inv Y pins σ H { s with heap := h', toks := tk } := I.kept (t' := tk) kp
      have hi' : its[i]? = some u := by simpa using hi
      have hlen := rv.length
      have hiv : i < vs.length := by
        have := (List.getElem?_eq_some_iff.mp hi').1
        omega
      obtain ⟨x, hx⟩ : ∃ x, vs[i]? = some x := ⟨_, List.getElem?_eq_getElem hiv⟩
      obtain ⟨u2, hu2, ru2⟩ := rv.get hx
      rw [hi'] at hu2
      cases hu2
      obtain ⟨d2, _, rd2⟩ := rs.getV hx
      have ed := rd2.det I2 e ru2 hrd
      exact ⟨x, H, I2, ru2, q1 y ys x hy (by rw [← ed]; exact rd2)⟩
def dBestDef (best : D → List D → D) (da : DPr) (dk : DAr) : DPr := fun ρ P => da ρ fun x => dk ρ fun zs => ∃ ds d, x = .list ds ∧ zs = [d] ∧ PySem.W.AlikeAll ds ∧ PyData.depthAll ds ≤ 20 ∧ match ds with
  | [] => P d
  | y :: ys => P (best y ys)
theorem dp_bestDef {best : D → List D → D} (ha : DP K X a da) (hk : DK K X kws dk) (hK : ∀ c, (X c).K = K := by intro _; rfl)
    (pe : ∀ c {ta tk : TA}, PA (X c) [a] ta → PK (X c) kws tk → PE (X c) e (tCKw (rBestDef best (X c).K) ta tk))
    (hs1 : ∀ c, starEach [a] (X c).env = (false, eval a (X c).env) :: starEach [] (X c).env := by intro _; rfl) : DP K X e (dBestDef best da dk) := by
  obtain ⟨ta, pa, sa⟩ := ha
  obtain ⟨tk, pk, sk⟩ := hk
  refine ⟨tCKw (rBestDef best K) (tCons ta tNil) tk, fun c => hK c ▸ pe c (pa_cons (pa c) pa_nil (hs1 c)) (pk c), ?_⟩
  intro B F ρ σ H P Q R hd k
  refine sa B F ρ σ H _ _ R hd ?_
  intro v d F1 H1 p1 r1 s1
  refine sk B F1 ρ σ H1 _ _ (R.step s1) p1 ?_
  intro ws es F2 H2 p2 r2 s2
  obtain ⟨ds, d0, rfl, rfl, hal, hdp, p2⟩ := p2
  obtain ⟨l, xs, rfl, hl, rl⟩ := r1.list_inv
  cases r2 with
  | cons r3 r4 =>
    cases r4
    refine ⟨F2, l, xs, ds, _, d0, rfl, rfl, s2.fh, ex_l s2.ff hl, rl.mono s2.ff, r3, hal, hdp, ?_, ?_⟩
    · intro hn
      subst hn
      exact k _ _ F2 H2 p2 r3 (s1.trans s2)
    · intro y ys x hy rx
      subst hy
      exact k _ _ F2 H2 p2 rx (s1.trans s2)
end
end Dl

set_option Elab.async false
set_option linter.all false
set_option maxRecDepth 100000
set_option maxHeartbeats 4000000
namespace Dl
open PySem PySem.Spec PyProof.Rows L2 Evl G
section
variable {ι : Type} {K : PySem.W.Frag} {X : ι → Cx} {st : Stmt}
/-! ### x.reverse() of an own list -/
theorem Reps.rev {F : Hp} : ∀ {vs : List V} {ds : List D}, Reps K F vs ds → Reps K F vs.reverse ds.reverse
  | _, _, .nil => .nil
  | _, _, .cons h r => by
    rw [List.reverse_cons, List.reverse_cons]
    exact (Reps.rev r).append (.one h)
def sRev (i : Nat) : DSr := fun M ρ => ∃ xs, lstAt ρ i = some xs ∧ M.nx (putLst ρ i xs.reverse)
theorem ds_rev {i : Nat} {x : Expr} (hx : ∀ c, PE (X c) x (tVar i)) (ps : ∀ c, PE (X c) x (tVar i) → PS (X c) st (tDrop (tBM0 K "list" rReverse (tVar i)))) : DS K X st (sRev i) := by
  refine ⟨_, fun c => ps c (hx c), ?_⟩
  intro c F ρ σ H M E R hd k
  obtain ⟨xs, hh, m⟩ := hd
  obtain ⟨p, vs, hv, hl, rs, f0, w⟩ := R.write hh
  refine ⟨_, hv, Or.inl ⟨rfl, vs, Or.inl (Or.inl hl)⟩, p, vs, rfl, rfl, hl, ?_⟩
  exact k.nx F _ σ _ m (Ex.refl F) (w _ _ rs.rev)
end
end Dl

set_option Elab.async false
set_option linter.all false
set_option maxRecDepth 100000
set_option maxHeartbeats 4000000
namespace Lw
open PySem PySem.Spec PyProof.Rows L2 Evl G Dl
def top (i : Nat) : Stmt := PySem.Challenge.pw_idealtwin_k28_unsure_cells.main.body.getD i (.Pass ⟨0, 0, 0, 0⟩)
abbrev s_is_integer : Stmt := top 13
abbrev s_is_between : Stmt := top 14
abbrev s_is_cell : Stmt := top 15
abbrev s_is_slot_of : Stmt := top 16
abbrev s_is_list_of : Stmt := top 17
abbrev s_check_size : Stmt := top 18
abbrev s_check_cells : Stmt := top 19
abbrev s_check_row : Stmt := top 20
abbrev s_check_rhythm : Stmt := top 21
abbrev s_pairings_within : Stmt := top 23
abbrev s_pairings_ahead : Stmt := top 24
abbrev s_unsure : Stmt := top 26
abbrev s_has_many : Stmt := top 27
abbrev s_source : Stmt := top 29
abbrev s_draw : Stmt := top 30
abbrev s_lot : Stmt := top 31
abbrev s_line : Stmt := top 32
abbrev s_later : Stmt := top 33
abbrev s_beat : Stmt := top 34
abbrev s_right : Stmt := top 35
abbrev s_law : Stmt := top 36
structure Ads where
  f_is_integer : Addr
  fd_is_integer : FuncData
  f_is_between : Addr
  fd_is_between : FuncData
  f_is_cell : Addr
  fd_is_cell : FuncData
  f_is_slot_of : Addr
  fd_is_slot_of : FuncData
  f_is_list_of : Addr
  fd_is_list_of : FuncData
  f_check_size : Addr
  fd_check_size : FuncData
  f_check_cells : Addr
  fd_check_cells : FuncData
  f_check_row : Addr
  fd_check_row : FuncData
  f_check_rhythm : Addr
  fd_check_rhythm : FuncData
  f_pairings_within : Addr
  fd_pairings_within : FuncData
  f_pairings_ahead : Addr
  fd_pairings_ahead : FuncData
  f_unsure : Addr
  fd_unsure : FuncData
  f_has_many : Addr
  fd_has_many : FuncData
  f_source : Addr
  fd_source : FuncData
  f_draw : Addr
  fd_draw : FuncData
  f_lot : Addr
  fd_lot : FuncData
  f_line : Addr
  fd_line : FuncData
  f_later : Addr
  fd_later : FuncData
  f_beat : Addr
  fd_beat : FuncData
  f_right : Addr
  fd_right : FuncData
  f_law : Addr
  fd_law : FuncData
structure Txt (K : PySem.W.Frag) (mg : Str → Option Value) (a : Ads) : Prop where
  f_is_integer : FnAt K mg "is_integer" s_is_integer ["value"] a.f_is_integer a.fd_is_integer
  f_is_between : FnAt K mg "is_between" s_is_between ["value", "first", "last"] a.f_is_between a.fd_is_between
  f_is_cell : FnAt K mg "is_cell" s_is_cell ["size", "value"] a.f_is_cell a.fd_is_cell
  f_is_slot_of : FnAt K mg "is_slot_of" s_is_slot_of ["cell", "value"] a.f_is_slot_of a.fd_is_slot_of
  f_is_list_of : FnAt K mg "is_list_of" s_is_list_of ["value", "many"] a.f_is_list_of a.fd_is_list_of
  f_check_size : FnAt K mg "check_size" s_check_size ["size"] a.f_check_size a.fd_check_size
  f_check_cells : FnAt K mg "check_cells" s_check_cells ["size", "cells"] a.f_check_cells a.fd_check_cells
  f_check_row : FnAt K mg "check_row" s_check_row ["size", "cells", "row"] a.f_check_row a.fd_check_row
  f_check_rhythm : FnAt K mg "check_rhythm" s_check_rhythm ["rhythm"] a.f_check_rhythm a.fd_check_rhythm
  f_pairings_within : FnAt K mg "pairings_within" s_pairings_within ["rhythm", "first", "last"] a.f_pairings_within a.fd_pairings_within
  f_pairings_ahead : FnAt K mg "_pairings_ahead" s_pairings_ahead ["rhythm", "slot"] a.f_pairings_ahead a.fd_pairings_ahead
  f_unsure : FnAt K mg "unsure" s_unsure ["size", "cells", "row", "rhythm"] a.f_unsure a.fd_unsure
  f_has_many : FnAt K mg "_has_many" s_has_many ["rhythm", "first", "last"] a.f_has_many a.fd_has_many
  f_source : FnAt K mg "_law_source" s_source ["cell", "k"] a.f_source a.fd_source
  f_draw : FnAt K mg "_law_draw" s_draw ["source", "count"] a.f_draw a.fd_draw
  f_lot : FnAt K mg "_law_lot" s_lot ["source", "wide", "span"] a.f_lot a.fd_lot
  f_line : FnAt K mg "_law_line" s_line ["source", "lot", "way"] a.f_line a.fd_line
  f_later : FnAt K mg "_law_later" s_later ["lot", "line", "base"] a.f_later a.fd_later
  f_beat : FnAt K mg "_law_beat" s_beat ["source", "top"] a.f_beat a.fd_beat
  f_right : FnAt K mg "_law_right" s_right ["wide", "lot", "line", "beat"] a.f_right a.fd_right
  f_law : FnAt K mg "law" s_law ["script"] a.f_law a.fd_law
  b_abs : mg "abs" = none
  b_bool : mg "bool" = none
  b_divmod : mg "divmod" = none
  b_enumerate : mg "enumerate" = none
  b_int : mg "int" = none
  b_isinstance : mg "isinstance" = none
  b_len : mg "len" = none
  b_list : mg "list" = none
  b_max : mg "max" = none
  b_min : mg "min" = none
  b_range : mg "range" = none
  b_repr : mg "repr" = none
  b_sum : mg "sum" = none
  b_tuple : mg "tuple" = none
  b_zip : mg "zip" = none
  c_GREATEST_BEAT : ∃ t, mg "GREATEST_BEAT" = some (.int (9) t)
  c_GREATEST_SIZE : ∃ t, mg "GREATEST_SIZE" = some (.int (8) t)
  c_LAST_COMING : ∃ t, mg "LAST_COMING" = some (.int (999999999999999999999999999999) t)
  c_LAST_SLOT : ∃ t, mg "LAST_SLOT" = some (.int (9999999999999999999999999999999) t)
  c_LONGEST_RHYTHM : ∃ t, mg "LONGEST_RHYTHM" = some (.int (40) t)
  c_MOST_CELLS : ∃ t, mg "MOST_CELLS" = some (.int (60) t)
section
variable {P : Program} {w : World} {K : PySem.W.Frag} {mg : Str → Option Value} {base : Heap} {a : Ads}
theorem KW_unsure_rhythm_row_cells_size (T : Txt K mg a) : KwOk K a.fd_unsure ["size", "cells", "row", "rhythm"] ["rhythm", "row", "cells", "size"] (fun {_} zs => match zs with | [x0, x1, x2, x3] => [x3, x2, x1, x0] | _ => []) := by
  obtain ⟨oc, od, kV, doc, pm, an, cdv, ct, osl, e, lk, hcd⟩ := T.f_unsure.F.ex
  rw [e]
  exact ⟨fun s ws _ hl => match ws, hl with | [_, _, _, _], _ => .of_eq rfl, fun hl r => by
    cases r with
    | nil => cases hl
    | cons r0 r =>
      cases r with
      | nil => cases hl
      | cons r1 r =>
        cases r with
        | nil => cases hl
        | cons r2 r =>
          cases r with
          | nil => cases hl
          | cons r3 r =>
            cases r with
            | cons _ _ => simp at hl
            | nil => exact (.cons r3 (.cons r2 (.cons r1 (.cons r0 .nil))))⟩
/-! is_integer: level 1, calls [] -/
abbrev N_is_integer : List Str := ["value"]
theorem sc_is_integer : FnScope N_is_integer ["value"] (defScope s_is_integer) := ⟨rfl, rfl, rfl, by decide +kernel, rfl, by decide +kernel, by decide +kernel⟩
def body_is_integer : DSr :=
  (sRet (eP (dAndV (dIsi "int" (dVar 0)) (dNotV (dIsi "bool" (dVar 0))))))
theorem der_is_integer (T : Txt K mg a) (cdv : Value) (A : Around) (outer : List PySem.Env) (s : Shared) (H : Hp) (E : XK) (hg0 : A.guards = some []) (hr : Room 0 (A.deeper (envOfC "is_integer" (defScope s_is_integer) s.heap.objs.size a.f_is_integer cdv))) :
    DSs K (fun _ : Unit => (cxOf L2.CX0 P w K mg base N_is_integer "is_integer" (defScope s_is_integer) a.f_is_integer cdv A outer s H E).nox) (defBody s_is_integer) (body_is_integer) := by
  have hgd : (A.deeper (envOfC "is_integer" (defScope s_is_integer) s.heap.objs.size a.f_is_integer cdv)).guards = some [] := G.guards_deeper hg0 _
  have hu : (A.deeper (envOfC "is_integer" (defScope s_is_integer) s.heap.objs.size a.f_is_integer cdv)).units + 64 < cLine := by have := hr.un; omega
  have hu1 : (A.deeper (envOfC "is_integer" (defScope s_is_integer) s.heap.objs.size a.f_is_integer cdv)).units + 1 < cLine := by omega
  have hu65 : (A.deeper (envOfC "is_integer" (defScope s_is_integer) s.heap.objs.size a.f_is_integer cdv)).units + 65 < cLine := by have := hr.un; omega
  have hnd : N_is_integer.Nodup := sc_is_integer.nd
  exact ((ds_one (ds_ret (de_p (dp_and (dp_isi (T := "int") (dp_var (i := 0) (fun _ => pv 0)) (by simp) (fun _ => pe_bltn (by rfl) T.b_int (by decide +kernel) rfl) (pe := fun _ _ pa => pe_callB call_isi (by rfl) T.b_isinstance (by decide +kernel) pa)) (dp_one (dp_not (dp_isi (T := "bool") (dp_var (i := 0) (fun _ => pv 0)) (by simp) (fun _ => pe_bltn (by rfl) T.b_bool (by decide +kernel) rfl) (pe := fun _ _ pa => pe_callB call_isi (by rfl) T.b_isinstance (by decide +kernel) pa)))))))))
/-! is_between: level 2, calls ['is_integer'] -/
abbrev N_is_between : List Str := ["value", "first", "last"]
theorem sc_is_between : FnScope N_is_between ["value", "first", "last"] (defScope s_is_between) := ⟨rfl, rfl, rfl, by decide +kernel, rfl, by decide +kernel, by decide +kernel⟩
def body_is_between (pr_is_integer : List D → (D → Prop) → Prop) : DSr :=
  (sRet (eP (dAndV (dCall pr_is_integer (dCons (dVar 0) dNil)) (dChain gLeA gLeA (dVar 1) (dVar 0) (dVar 2)))))
theorem der_is_between (T : Txt K mg a) {pr_is_integer : List D → (D → Prop) → Prop} (G_is_integer : FnG P w K mg base L2.CX0 1 a.f_is_integer a.fd_is_integer ["value"] (spP K pr_is_integer)) (cdv : Value) (A : Around) (outer : List PySem.Env) (s : Shared) (H : Hp) (E : XK) (hg0 : A.guards = some []) (hr : Room 1 (A.deeper (envOfC "is_between" (defScope s_is_between) s.heap.objs.size a.f_is_between cdv))) :
    DSs K (fun _ : Unit => (cxOf L2.CX0 P w K mg base N_is_between "is_between" (defScope s_is_between) a.f_is_between cdv A outer s H E).nox) (defBody s_is_between) (body_is_between pr_is_integer) := by
  have hgd : (A.deeper (envOfC "is_between" (defScope s_is_between) s.heap.objs.size a.f_is_between cdv)).guards = some [] := G.guards_deeper hg0 _
  have hu : (A.deeper (envOfC "is_between" (defScope s_is_between) s.heap.objs.size a.f_is_between cdv)).units + 64 < cLine := by have := hr.un; omega
  have hu1 : (A.deeper (envOfC "is_between" (defScope s_is_between) s.heap.objs.size a.f_is_between cdv)).units + 1 < cLine := by omega
  have hu65 : (A.deeper (envOfC "is_between" (defScope s_is_between) s.heap.objs.size a.f_is_between cdv)).units + 65 < cLine := by have := hr.un; omega
  have hnd : N_is_between.Nodup := sc_is_between.nd
  exact ((ds_one (ds_ret (de_p (dp_and (dp_fn (E := L2.E0) (da_cons (dp_var (i := 0) (fun _ => pv 0)) da_nil) (fun _ _ pa => G.pe_G G_is_integer hgd (hr.mono (by decide)) (by rfl) T.f_is_integer.g T.f_is_integer.F.kp T.f_is_integer.b L2.pass0 pa)) (dp_one (dp_chain (fun _ => (og_leA hu)) (fun _ => (og_leA hu)) rG_d rG_d (dp_var (i := 1) (fun _ => pv 1)) (dp_var (i := 0) (fun _ => pv 0)) (dp_var (i := 2) (fun _ => pv 2)))))))))
/-! is_cell: level 3, calls ['is_between'] -/
abbrev N_is_cell : List Str := ["size", "value", "slot", "entry", "outlet"]
theorem sc_is_cell : FnScope N_is_cell ["size", "value"] (defScope s_is_cell) := ⟨rfl, rfl, rfl, by decide +kernel, rfl, by decide +kernel, by decide +kernel⟩
def body_is_cell (pr_is_between : List D → (D → Prop) → Prop) : DSr :=
  (sSeq (sIf (eTP (dOr (dNot (dB (dIsi "tuple" (dVar 1)))) (dB (dOp gNe (dCall gLen (dCons (dVar 1) dNil)) (dC (.int 3)))))) (sRet (eP (dC (.bool false)))) sNext) (sSeq (sSet (gT 3 (gTc (gN 2) (gTc (gN 3) (gTc (gN 4) gTn)))) (eP (dVar 1))) (sSeq (sIf (eTP (dNot (dB (dCall pr_is_between (dCons (dVar 2) (dCons (dC (.int 0)) (dCons (dC (.int (999999999999999999999999999999))) dNil))))))) (sRet (eP (dC (.bool false)))) sNext) (sRet (eP (dAndV (dCall pr_is_between (dCons (dVar 3) (dCons (dC (.int 0)) (dCons (dOp gSub (dVar 0) (dC (.int 1))) dNil)))) (dCall pr_is_between (dCons (dVar 4) (dCons (dC (.int 0)) (dCons (dOp gSub (dVar 0) (dC (.int 1))) dNil))))))))))
theorem der_is_cell (T : Txt K mg a) {pr_is_between : List D → (D → Prop) → Prop} (G_is_between : FnG P w K mg base L2.CX0 2 a.f_is_between a.fd_is_between ["value", "first", "last"] (spP K pr_is_between)) (cdv : Value) (A : Around) (outer : List PySem.Env) (s : Shared) (H : Hp) (E : XK) (hg0 : A.guards = some []) (hr : Room 2 (A.deeper (envOfC "is_cell" (defScope s_is_cell) s.heap.objs.size a.f_is_cell cdv))) :
    DSs K (fun _ : Unit => (cxOf L2.CX0 P w K mg base N_is_cell "is_cell" (defScope s_is_cell) a.f_is_cell cdv A outer s H E).nox) (defBody s_is_cell) (body_is_cell pr_is_between) := by
  have hgd : (A.deeper (envOfC "is_cell" (defScope s_is_cell) s.heap.objs.size a.f_is_cell cdv)).guards = some [] := G.guards_deeper hg0 _
  have hu : (A.deeper (envOfC "is_cell" (defScope s_is_cell) s.heap.objs.size a.f_is_cell cdv)).units + 64 < cLine := by have := hr.un; omega
  have hu1 : (A.deeper (envOfC "is_cell" (defScope s_is_cell) s.heap.objs.size a.f_is_cell cdv)).units + 1 < cLine := by omega
  have hu65 : (A.deeper (envOfC "is_cell" (defScope s_is_cell) s.heap.objs.size a.f_is_cell cdv)).units + 65 < cLine := by have := hr.un; omega
  have hnd : N_is_cell.Nodup := sc_is_cell.nd
  obtain ⟨t_LAST_COMING, c_LAST_COMING⟩ := T.c_LAST_COMING
  exact ((ds_cons (ds_if (dte_p (DW.t (dw_or (dt_not (dt_val (dp_isi (T := "tuple") (dp_var (i := 1) (fun _ => pv 1)) (by simp) (fun _ => pe_bltn (by rfl) T.b_tuple (by decide +kernel) rfl) (pe := fun _ _ pa => pe_callB call_isi (by rfl) T.b_isinstance (by decide +kernel) pa)))) (dw_or1 (dt_cmp (fun _ => (og_ne hu)) rG_d (dp_call (da_cons (dp_var (i := 1) (fun _ => pv 1)) da_nil) len_d (fun _ _ pa => pe_callB call_len_seq (by rfl) T.b_len PySem.boot_len pa)) dp_int))))) (ds_one (ds_ret (de_p dp_bl))) ds_nil) (ds_cons (ds_asg (de_p (dp_var (i := 1) (fun _ => pv 1))) (dg_tup (dgs_cons (dg_name (fun _ => pg_name hnd rfl (by first | exact Or.inl rfl | exact Or.inr rfl))) (dgs_cons (dg_name (fun _ => pg_name hnd rfl (by first | exact Or.inl rfl | exact Or.inr rfl))) (dgs_cons (dg_name (fun _ => pg_name hnd rfl (by first | exact Or.inl rfl | exact Or.inr rfl))) dgs_nil)))) (fun _ _ _ pe pg => ps_asg pe pg)) (ds_cons (ds_if (dte_p (dt_not (dt_val (dp_fn (E := L2.E0) (da_cons (dp_var (i := 2) (fun _ => pv 2)) (da_cons dp_int (da_cons (dp_glob (v := .int (999999999999999999999999999999)) (fun _ => pe_glob (by rfl) c_LAST_COMING ⟨_, rfl⟩) (fun _ => .int _)) da_nil))) (fun _ _ pa => G.pe_G G_is_between hgd (hr.mono (by decide)) (by rfl) T.f_is_between.g T.f_is_between.F.kp T.f_is_between.b L2.pass0 pa))))) (ds_one (ds_ret (de_p dp_bl))) ds_nil) (ds_one (ds_ret (de_p (dp_and (dp_fn (E := L2.E0) (da_cons (dp_var (i := 3) (fun _ => pv 3)) (da_cons dp_int (da_cons (dp_bin (fun _ => og_sub) rG_d (dp_var (i := 0) (fun _ => pv 0)) dp_int) da_nil))) (fun _ _ pa => G.pe_G G_is_between hgd (hr.mono (by decide)) (by rfl) T.f_is_between.g T.f_is_between.F.kp T.f_is_between.b L2.pass0 pa)) (dp_one (dp_fn (E := L2.E0) (da_cons (dp_var (i := 4) (fun _ => pv 4)) (da_cons dp_int (da_cons (dp_bin (fun _ => og_sub) rG_d (dp_var (i := 0) (fun _ => pv 0)) dp_int) da_nil))) (fun _ _ pa => G.pe_G G_is_between hgd (hr.mono (by decide)) (by rfl) T.f_is_between.g T.f_is_between.F.kp T.f_is_between.b L2.pass0 pa)))))))))))
/-! is_slot_of: level 3, calls ['is_between'] -/
abbrev N_is_slot_of : List Str := ["cell", "value"]
theorem sc_is_slot_of : FnScope N_is_slot_of ["cell", "value"] (defScope s_is_slot_of) := ⟨rfl, rfl, rfl, by decide +kernel, rfl, by decide +kernel, by decide +kernel⟩
def body_is_slot_of (pr_is_between : List D → (D → Prop) → Prop) : DSr :=
  (sRet (eP (dCall pr_is_between (dCons (dVar 1) (dCons (dOp gIx (dVar 0) (dC (.int 0))) (dCons (dC (.int (9999999999999999999999999999999))) dNil))))))
theorem der_is_slot_of (T : Txt K mg a) {pr_is_between : List D → (D → Prop) → Prop} (G_is_between : FnG P w K mg base L2.CX0 2 a.f_is_between a.fd_is_between ["value", "first", "last"] (spP K pr_is_between)) (cdv : Value) (A : Around) (outer : List PySem.Env) (s : Shared) (H : Hp) (E : XK) (hg0 : A.guards = some []) (hr : Room 2 (A.deeper (envOfC "is_slot_of" (defScope s_is_slot_of) s.heap.objs.size a.f_is_slot_of cdv))) :
    DSs K (fun _ : Unit => (cxOf L2.CX0 P w K mg base N_is_slot_of "is_slot_of" (defScope s_is_slot_of) a.f_is_slot_of cdv A outer s H E).nox) (defBody s_is_slot_of) (body_is_slot_of pr_is_between) := by
  have hgd : (A.deeper (envOfC "is_slot_of" (defScope s_is_slot_of) s.heap.objs.size a.f_is_slot_of cdv)).guards = some [] := G.guards_deeper hg0 _
  have hu : (A.deeper (envOfC "is_slot_of" (defScope s_is_slot_of) s.heap.objs.size a.f_is_slot_of cdv)).units + 64 < cLine := by have := hr.un; omega
  have hu1 : (A.deeper (envOfC "is_slot_of" (defScope s_is_slot_of) s.heap.objs.size a.f_is_slot_of cdv)).units + 1 < cLine := by omega
  have hu65 : (A.deeper (envOfC "is_slot_of" (defScope s_is_slot_of) s.heap.objs.size a.f_is_slot_of cdv)).units + 65 < cLine := by have := hr.un; omega
  have hnd : N_is_slot_of.Nodup := sc_is_slot_of.nd
  obtain ⟨t_LAST_SLOT, c_LAST_SLOT⟩ := T.c_LAST_SLOT
  exact ((ds_one (ds_ret (de_p (dp_fn (E := L2.E0) (da_cons (dp_var (i := 1) (fun _ => pv 1)) (da_cons (dp_ix (dp_var (i := 0) (fun _ => pv 0)) dp_int (fun _ _ => rfl)) (da_cons (dp_glob (v := .int (9999999999999999999999999999999)) (fun _ => pe_glob (by rfl) c_LAST_SLOT ⟨_, rfl⟩) (fun _ => .int _)) da_nil))) (fun _ _ pa => G.pe_G G_is_between hgd (hr.mono (by decide)) (by rfl) T.f_is_between.g T.f_is_between.F.kp T.f_is_between.b L2.pass0 pa))))))
/-! is_list_of: level 1, calls [] -/
abbrev N_is_list_of : List Str := ["value", "many"]
theorem sc_is_list_of : FnScope N_is_list_of ["value", "many"] (defScope s_is_list_of) := ⟨rfl, rfl, rfl, by decide +kernel, rfl, by decide +kernel, by decide +kernel⟩
def body_is_list_of : DSr :=
  (sRet (eP (dAndV (dIsi "list" (dVar 0)) (dOp gEq (dCall gLen (dCons (dVar 0) dNil)) (dVar 1)))))
theorem der_is_list_of (T : Txt K mg a) (cdv : Value) (A : Around) (outer : List PySem.Env) (s : Shared) (H : Hp) (E : XK) (hg0 : A.guards = some []) (hr : Room 0 (A.deeper (envOfC "is_list_of" (defScope s_is_list_of) s.heap.objs.size a.f_is_list_of cdv))) :
    DSs K (fun _ : Unit => (cxOf L2.CX0 P w K mg base N_is_list_of "is_list_of" (defScope s_is_list_of) a.f_is_list_of cdv A outer s H E).nox) (defBody s_is_list_of) (body_is_list_of) := by
  have hgd : (A.deeper (envOfC "is_list_of" (defScope s_is_list_of) s.heap.objs.size a.f_is_list_of cdv)).guards = some [] := G.guards_deeper hg0 _
  have hu : (A.deeper (envOfC "is_list_of" (defScope s_is_list_of) s.heap.objs.size a.f_is_list_of cdv)).units + 64 < cLine := by have := hr.un; omega
  have hu1 : (A.deeper (envOfC "is_list_of" (defScope s_is_list_of) s.heap.objs.size a.f_is_list_of cdv)).units + 1 < cLine := by omega
  have hu65 : (A.deeper (envOfC "is_list_of" (defScope s_is_list_of) s.heap.objs.size a.f_is_list_of cdv)).units + 65 < cLine := by have := hr.un; omega
  have hnd : N_is_list_of.Nodup := sc_is_list_of.nd
  exact ((ds_one (ds_ret (de_p (dp_and (dp_isi (T := "list") (dp_var (i := 0) (fun _ => pv 0)) (by simp) (fun _ => pe_bltn (by rfl) T.b_list (by decide +kernel) rfl) (pe := fun _ _ pa => pe_callB call_isi (by rfl) T.b_isinstance (by decide +kernel) pa)) (dp_one (dp_cmp (fun _ => (og_eq hu)) rG_d (dp_call (da_cons (dp_var (i := 0) (fun _ => pv 0)) da_nil) len_d (fun _ _ pa => pe_callB call_len_seq (by rfl) T.b_len PySem.boot_len pa)) (dp_var (i := 1) (fun _ => pv 1)))))))))
/-! check_size: level 3, calls ['is_between'] -/
abbrev N_check_size : List Str := ["size"]
theorem sc_check_size : FnScope N_check_size ["size"] (defScope s_check_size) := ⟨rfl, rfl, rfl, by decide +kernel, rfl, by decide +kernel, by decide +kernel⟩
def body_check_size (pr_is_between : List D → (D → Prop) → Prop) : DSr :=
  (sIf (eTP (dNot (dB (dCall pr_is_between (dCons (dVar 0) (dCons (dC (.int 1)) (dCons (dC (.int (8))) dNil))))))) sNever sNext)
theorem der_check_size (T : Txt K mg a) {pr_is_between : List D → (D → Prop) → Prop} (G_is_between : FnG P w K mg base L2.CX0 2 a.f_is_between a.fd_is_between ["value", "first", "last"] (spP K pr_is_between)) (cdv : Value) (A : Around) (outer : List PySem.Env) (s : Shared) (H : Hp) (E : XK) (hg0 : A.guards = some []) (hr : Room 2 (A.deeper (envOfC "check_size" (defScope s_check_size) s.heap.objs.size a.f_check_size cdv))) :
    DSs K (fun _ : Unit => (cxOf L2.CX0 P w K mg base N_check_size "check_size" (defScope s_check_size) a.f_check_size cdv A outer s H E).nox) (defBody s_check_size) (body_check_size pr_is_between) := by
  have hgd : (A.deeper (envOfC "check_size" (defScope s_check_size) s.heap.objs.size a.f_check_size cdv)).guards = some [] := G.guards_deeper hg0 _
  have hu : (A.deeper (envOfC "check_size" (defScope s_check_size) s.heap.objs.size a.f_check_size cdv)).units + 64 < cLine := by have := hr.un; omega
  have hu1 : (A.deeper (envOfC "check_size" (defScope s_check_size) s.heap.objs.size a.f_check_size cdv)).units + 1 < cLine := by omega
  have hu65 : (A.deeper (envOfC "check_size" (defScope s_check_size) s.heap.objs.size a.f_check_size cdv)).units + 65 < cLine := by have := hr.un; omega
  have hnd : N_check_size.Nodup := sc_check_size.nd
  obtain ⟨t_GREATEST_SIZE, c_GREATEST_SIZE⟩ := T.c_GREATEST_SIZE
  exact ((ds_one (ds_if (dte_p (dt_not (dt_val (dp_fn (E := L2.E0) (da_cons (dp_var (i := 0) (fun _ => pv 0)) (da_cons dp_int (da_cons (dp_glob (v := .int (8)) (fun _ => pe_glob (by rfl) c_GREATEST_SIZE ⟨_, rfl⟩) (fun _ => .int _)) da_nil))) (fun _ _ pa => G.pe_G G_is_between hgd (hr.mono (by decide)) (by rfl) T.f_is_between.g T.f_is_between.F.kp T.f_is_between.b L2.pass0 pa))))) (ds_one ds_never) ds_nil)))
/-! check_cells: level 4, calls ['check_size', 'is_cell'] -/
abbrev N_check_cells : List Str := ["size", "cells", "index", "cell"]
theorem sc_check_cells : FnScope N_check_cells ["size", "cells"] (defScope s_check_cells) := ⟨rfl, rfl, rfl, by decide +kernel, rfl, by decide +kernel, by decide +kernel⟩
def lp_check_cells_1 (pr_check_size : List D → (D → Prop) → Prop) (pr_is_cell : List D → (D → Prop) → Prop) : DSr :=
  (sSeq (sIf (eTP (dNot (dB (dCall pr_is_cell (dCons (dVar 0) (dCons (dVar 3) dNil)))))) sNever sNext) (sIf (eTP (dAnd (dB (dOp gGt (dVar 2) (dC (.int 0)))) (dB (dOp gLeA (dSl (dVar 3) dNoPart (dPart (dC (.int 2)))) (dSl (dOp gIx (dVar 1) (dOp gSub (dVar 2) (dC (.int 1)))) dNoPart (dPart (dC (.int 2)))))))) sNever sNext))
def body_check_cells (pr_check_size : List D → (D → Prop) → Prop) (pr_is_cell : List D → (D → Prop) → Prop) : DSr :=
  (sSeq (sDrop (eP (dCall pr_check_size (dCons (dVar 0) dNil)))) (sSeq (sIf (eTP (dOr (dNot (dB (dIsi "list" (dVar 1)))) (dB (dOp gGt (dCall gLen (dCons (dVar 1) dNil)) (dC (.int (60))))))) sNever sNext) (sFor (iE (dCons (dVar 1) dNil)) (gT 2 (gTc (gN 2) (gTc (gN 3) gTn))) (lp_check_cells_1 pr_check_size pr_is_cell))))
theorem der_check_cells (T : Txt K mg a) {pr_check_size : List D → (D → Prop) → Prop} (G_check_size : FnG P w K mg base L2.CX0 3 a.f_check_size a.fd_check_size ["size"] (spP K pr_check_size)) {pr_is_cell : List D → (D → Prop) → Prop} (G_is_cell : FnG P w K mg base L2.CX0 3 a.f_is_cell a.fd_is_cell ["size", "value"] (spP K pr_is_cell)) (cdv : Value) (A : Around) (outer : List PySem.Env) (s : Shared) (H : Hp) (E : XK) (hg0 : A.guards = some []) (hr : Room 3 (A.deeper (envOfC "check_cells" (defScope s_check_cells) s.heap.objs.size a.f_check_cells cdv))) :
    DSs K (fun _ : Unit => (cxOf L2.CX0 P w K mg base N_check_cells "check_cells" (defScope s_check_cells) a.f_check_cells cdv A outer s H E).nox) (defBody s_check_cells) (body_check_cells pr_check_size pr_is_cell) := by
  have hgd : (A.deeper (envOfC "check_cells" (defScope s_check_cells) s.heap.objs.size a.f_check_cells cdv)).guards = some [] := G.guards_deeper hg0 _
  have hu : (A.deeper (envOfC "check_cells" (defScope s_check_cells) s.heap.objs.size a.f_check_cells cdv)).units + 64 < cLine := by have := hr.un; omega
  have hu1 : (A.deeper (envOfC "check_cells" (defScope s_check_cells) s.heap.objs.size a.f_check_cells cdv)).units + 1 < cLine := by omega
  have hu65 : (A.deeper (envOfC "check_cells" (defScope s_check_cells) s.heap.objs.size a.f_check_cells cdv)).units + 65 < cLine := by have := hr.un; omega
  have hnd : N_check_cells.Nodup := sc_check_cells.nd
  obtain ⟨t_MOST_CELLS, c_MOST_CELLS⟩ := T.c_MOST_CELLS
  exact ((ds_cons (ds_expr (de_p (dp_fn (E := L2.E0) (da_cons (dp_var (i := 0) (fun _ => pv 0)) da_nil) (fun _ _ pa => G.pe_G G_check_size hgd (hr.mono (by decide)) (by rfl) T.f_check_size.g T.f_check_size.F.kp T.f_check_size.b L2.pass0 pa)))) (ds_cons (ds_if (dte_p (DW.t (dw_or (dt_not (dt_val (dp_isi (T := "list") (dp_var (i := 1) (fun _ => pv 1)) (by simp) (fun _ => pe_bltn (by rfl) T.b_list (by decide +kernel) rfl) (pe := fun _ _ pa => pe_callB call_isi (by rfl) T.b_isinstance (by decide +kernel) pa)))) (dw_or1 (dt_cmp (fun _ => og_gt) rG_d (dp_call (da_cons (dp_var (i := 1) (fun _ => pv 1)) da_nil) len_d (fun _ _ pa => pe_callB call_len_seq (by rfl) T.b_len PySem.boot_len pa)) (dp_glob (v := .int (60)) (fun _ => pe_glob (by rfl) c_MOST_CELLS ⟨_, rfl⟩) (fun _ => .int _))))))) (ds_one ds_never) ds_nil) (ds_one (ds_for (di_enum (da_cons (dp_var (i := 1) (fun _ => pv 1)) da_nil) (fun _ _ pa => pi_enum (by rfl) T.b_enumerate pa)) (dg_tup (dgs_cons (dg_name (fun _ => pg_name hnd rfl (by first | exact Or.inl rfl | exact Or.inr rfl))) (dgs_cons (dg_name (fun _ => pg_name hnd rfl (by first | exact Or.inl rfl | exact Or.inr rfl))) dgs_nil))) (ds_cons (ds_if (dte_p (dt_not (dt_val (dp_fn (E := L2.E0) (da_cons (dp_var (i := 0) (fun _ => pv 0)) (da_cons (dp_var (i := 3) (fun _ => pv 3)) da_nil)) (fun _ _ pa => G.pe_G G_is_cell hgd (hr.mono (by decide)) (by rfl) T.f_is_cell.g T.f_is_cell.F.kp T.f_is_cell.b L2.pass0 pa))))) (ds_one ds_never) ds_nil) (ds_one (ds_if (dte_p (DW.t (dw_and (dt_cmp (fun _ => og_gt) rG_d (dp_var (i := 2) (fun _ => pv 2)) dp_int) (dw_and1 (dt_cmp (fun _ => (og_leA hu)) rG_d (dp_slice (dp_var (i := 3) (fun _ => pv 3)) do_none (do_some dp_int)) (dp_slice (dp_ix (dp_var (i := 1) (fun _ => pv 1)) (dp_bin (fun _ => og_sub) rG_d (dp_var (i := 2) (fun _ => pv 2)) dp_int) (fun _ _ => rfl)) do_none (do_some dp_int))))))) (ds_one ds_never) ds_nil))) (fun _ => PassesOwn.never))))))
/-! check_row: level 5, calls ['check_cells', 'is_list_of', 'is_slot_of'] -/
abbrev N_check_row : List Str := ["size", "cells", "row", "taken", "index", "cell", "leaving"]
theorem sc_check_row : FnScope N_check_row ["size", "cells", "row"] (defScope s_check_row) := ⟨rfl, rfl, rfl, by decide +kernel, rfl, by decide +kernel, by decide +kernel⟩
def lp_check_row_1 (pr_check_cells : List D → (D → Prop) → Prop) (pr_is_list_of : List D → (D → Prop) → Prop) (pr_is_slot_of : List D → (D → Prop) → Prop) : DSr :=
  (sSeq (sIf (eTP (dOr (dNot (dB (dCall pr_is_slot_of (dCons (dVar 5) (dCons (dVar 6) dNil))))) (dB (dInT 3 (dCons (dVar 6) (dCons (dOp gIx (dVar 5) (dC (.int 2))) dNil)))))) sNever sNext) (sPutT 3 (eP (dC (.bool true))) (dCons (dVar 6) (dCons (dOp gIx (dVar 5) (dC (.int 2))) dNil))))
def body_check_row (pr_check_cells : List D → (D → Prop) → Prop) (pr_is_list_of : List D → (D → Prop) → Prop) (pr_is_slot_of : List D → (D → Prop) → Prop) : DSr :=
  (sSeq (sDrop (eP (dCall pr_check_cells (dCons (dVar 0) (dCons (dVar 1) dNil))))) (sSeq (sIf (eTP (dNot (dB (dCall pr_is_list_of (dCons (dVar 2) (dCons (dCall gLen (dCons (dVar 1) dNil)) dNil)))))) sNever sNext) (sSeq (sDictT 3) (sFor (iEZ (dCons (dVar 1) (dCons (dVar 2) dNil))) (gT 2 (gTc (gN 4) (gTc (gT 2 (gTc (gN 5) (gTc (gN 6) gTn))) gTn))) (lp_check_row_1 pr_check_cells pr_is_list_of pr_is_slot_of)))))
theorem der_check_row (T : Txt K mg a) {pr_check_cells : List D → (D → Prop) → Prop} (G_check_cells : FnG P w K mg base L2.CX0 4 a.f_check_cells a.fd_check_cells ["size", "cells"] (spP K pr_check_cells)) {pr_is_list_of : List D → (D → Prop) → Prop} (G_is_list_of : FnG P w K mg base L2.CX0 1 a.f_is_list_of a.fd_is_list_of ["value", "many"] (spP K pr_is_list_of)) {pr_is_slot_of : List D → (D → Prop) → Prop} (G_is_slot_of : FnG P w K mg base L2.CX0 3 a.f_is_slot_of a.fd_is_slot_of ["cell", "value"] (spP K pr_is_slot_of)) (cdv : Value) (A : Around) (outer : List PySem.Env) (s : Shared) (H : Hp) (E : XK) (hg0 : A.guards = some []) (hr : Room 4 (A.deeper (envOfC "check_row" (defScope s_check_row) s.heap.objs.size a.f_check_row cdv))) :
    DSs K (fun _ : Unit => (cxOf L2.CX0 P w K mg base N_check_row "check_row" (defScope s_check_row) a.f_check_row cdv A outer s H E).nox) (defBody s_check_row) (body_check_row pr_check_cells pr_is_list_of pr_is_slot_of) := by
  have hgd : (A.deeper (envOfC "check_row" (defScope s_check_row) s.heap.objs.size a.f_check_row cdv)).guards = some [] := G.guards_deeper hg0 _
  have hu : (A.deeper (envOfC "check_row" (defScope s_check_row) s.heap.objs.size a.f_check_row cdv)).units + 64 < cLine := by have := hr.un; omega
  have hu1 : (A.deeper (envOfC "check_row" (defScope s_check_row) s.heap.objs.size a.f_check_row cdv)).units + 1 < cLine := by omega
  have hu65 : (A.deeper (envOfC "check_row" (defScope s_check_row) s.heap.objs.size a.f_check_row cdv)).units + 65 < cLine := by have := hr.un; omega
  have hnd : N_check_row.Nodup := sc_check_row.nd
  exact ((ds_cons (ds_expr (de_p (dp_fn (E := L2.E0) (da_cons (dp_var (i := 0) (fun _ => pv 0)) (da_cons (dp_var (i := 1) (fun _ => pv 1)) da_nil)) (fun _ _ pa => G.pe_G G_check_cells hgd (hr.mono (by decide)) (by rfl) T.f_check_cells.g T.f_check_cells.F.kp T.f_check_cells.b L2.pass0 pa)))) (ds_cons (ds_if (dte_p (dt_not (dt_val (dp_fn (E := L2.E0) (da_cons (dp_var (i := 2) (fun _ => pv 2)) (da_cons (dp_call (da_cons (dp_var (i := 1) (fun _ => pv 1)) da_nil) len_d (fun _ _ pa => pe_callB call_len_seq (by rfl) T.b_len PySem.boot_len pa)) da_nil)) (fun _ _ pa => G.pe_G G_is_list_of hgd (hr.mono (by decide)) (by rfl) T.f_is_list_of.g T.f_is_list_of.F.kp T.f_is_list_of.b L2.pass0 pa))))) (ds_one ds_never) ds_nil) (ds_cons (ds_dictT (i := 3) (fun _ => ps_set hnd rfl (by first | exact Or.inl rfl | exact Or.inr rfl) pe_dnewT)) (ds_one (ds_for (di_ez (da_cons (dp_var (i := 1) (fun _ => pv 1)) (da_cons (dp_var (i := 2) (fun _ => pv 2)) da_nil)) (fun _ _ pa => Ez.pi_ez (by rfl) T.b_enumerate (by rfl) T.b_zip pa)) (dg_tup (dgs_cons (dg_name (fun _ => pg_name hnd rfl (by first | exact Or.inl rfl | exact Or.inr rfl))) (dgs_cons (dg_tup (dgs_cons (dg_name (fun _ => pg_name hnd rfl (by first | exact Or.inl rfl | exact Or.inr rfl))) (dgs_cons (dg_name (fun _ => pg_name hnd rfl (by first | exact Or.inl rfl | exact Or.inr rfl))) dgs_nil))) dgs_nil))) (ds_cons (ds_if (dte_p (DW.t (dw_or (dt_not (dt_val (dp_fn (E := L2.E0) (da_cons (dp_var (i := 5) (fun _ => pv 5)) (da_cons (dp_var (i := 6) (fun _ => pv 6)) da_nil)) (fun _ _ pa => G.pe_G G_is_slot_of hgd (hr.mono (by decide)) (by rfl) T.f_is_slot_of.g T.f_is_slot_of.F.kp T.f_is_slot_of.b L2.pass0 pa)))) (dw_or1 (dt_inT (i := 3) (da_cons (dp_var (i := 6) (fun _ => pv 6)) (da_cons (dp_ix (dp_var (i := 5) (fun _ => pv 5)) dp_int (fun _ _ => rfl)) da_nil)) (fun _ => hu1) (fun _ => pv 3)))))) (ds_one ds_never) ds_nil) (ds_one (ds_putT (i := 3) (fun _ => pv 3) (de_p dp_bl) (da_cons (dp_var (i := 6) (fun _ => pv 6)) (da_cons (dp_ix (dp_var (i := 5) (fun _ => pv 5)) dp_int (fun _ _ => rfl)) da_nil)) (fun _ _ _ px pk pv' => ps_dput hu1 px pk pv' (by rfl))))) (fun _ => PassesOwn.never)))))))
/-! check_rhythm: level 3, calls ['is_between'] -/
abbrev N_check_rhythm : List Str := ["rhythm", "index", "beat"]
theorem sc_check_rhythm : FnScope N_check_rhythm ["rhythm"] (defScope s_check_rhythm) := ⟨rfl, rfl, rfl, by decide +kernel, rfl, by decide +kernel, by decide +kernel⟩
def lp_check_rhythm_1 (pr_is_between : List D → (D → Prop) → Prop) : DSr :=
  (sIf (eTP (dNot (dB (dCall pr_is_between (dCons (dVar 2) (dCons (dC (.int 0)) (dCons (dC (.int (9))) dNil))))))) sNever sNext)
def body_check_rhythm (pr_is_between : List D → (D → Prop) → Prop) : DSr :=
  (sSeq (sIf (eTP (dOr (dNot (dB (dIsi "list" (dVar 0)))) (dNot (dB (dChain gLeA gLeA (dC (.int 1)) (dCall gLen (dCons (dVar 0) dNil)) (dC (.int (40)))))))) sNever sNext) (sFor (iE (dCons (dVar 0) dNil)) (gT 2 (gTc (gN 1) (gTc (gN 2) gTn))) (lp_check_rhythm_1 pr_is_between)))
theorem der_check_rhythm (T : Txt K mg a) {pr_is_between : List D → (D → Prop) → Prop} (G_is_between : FnG P w K mg base L2.CX0 2 a.f_is_between a.fd_is_between ["value", "first", "last"] (spP K pr_is_between)) (cdv : Value) (A : Around) (outer : List PySem.Env) (s : Shared) (H : Hp) (E : XK) (hg0 : A.guards = some []) (hr : Room 2 (A.deeper (envOfC "check_rhythm" (defScope s_check_rhythm) s.heap.objs.size a.f_check_rhythm cdv))) :
    DSs K (fun _ : Unit => (cxOf L2.CX0 P w K mg base N_check_rhythm "check_rhythm" (defScope s_check_rhythm) a.f_check_rhythm cdv A outer s H E).nox) (defBody s_check_rhythm) (body_check_rhythm pr_is_between) := by
  have hgd : (A.deeper (envOfC "check_rhythm" (defScope s_check_rhythm) s.heap.objs.size a.f_check_rhythm cdv)).guards = some [] := G.guards_deeper hg0 _
  have hu : (A.deeper (envOfC "check_rhythm" (defScope s_check_rhythm) s.heap.objs.size a.f_check_rhythm cdv)).units + 64 < cLine := by have := hr.un; omega
  have hu1 : (A.deeper (envOfC "check_rhythm" (defScope s_check_rhythm) s.heap.objs.size a.f_check_rhythm cdv)).units + 1 < cLine := by omega
  have hu65 : (A.deeper (envOfC "check_rhythm" (defScope s_check_rhythm) s.heap.objs.size a.f_check_rhythm cdv)).units + 65 < cLine := by have := hr.un; omega
  have hnd : N_check_rhythm.Nodup := sc_check_rhythm.nd
  obtain ⟨t_GREATEST_BEAT, c_GREATEST_BEAT⟩ := T.c_GREATEST_BEAT
  obtain ⟨t_LONGEST_RHYTHM, c_LONGEST_RHYTHM⟩ := T.c_LONGEST_RHYTHM
  exact ((ds_cons (ds_if (dte_p (DW.t (dw_or (dt_not (dt_val (dp_isi (T := "list") (dp_var (i := 0) (fun _ => pv 0)) (by simp) (fun _ => pe_bltn (by rfl) T.b_list (by decide +kernel) rfl) (pe := fun _ _ pa => pe_callB call_isi (by rfl) T.b_isinstance (by decide +kernel) pa)))) (dw_or1 (dt_not (dt_chain (fun _ => (og_leA hu)) (fun _ => (og_leA hu)) rG_d rG_d dp_int (dp_call (da_cons (dp_var (i := 0) (fun _ => pv 0)) da_nil) len_d (fun _ _ pa => pe_callB call_len_seq (by rfl) T.b_len PySem.boot_len pa)) (dp_glob (v := .int (40)) (fun _ => pe_glob (by rfl) c_LONGEST_RHYTHM ⟨_, rfl⟩) (fun _ => .int _)))))))) (ds_one ds_never) ds_nil) (ds_one (ds_for (di_enum (da_cons (dp_var (i := 0) (fun _ => pv 0)) da_nil) (fun _ _ pa => pi_enum (by rfl) T.b_enumerate pa)) (dg_tup (dgs_cons (dg_name (fun _ => pg_name hnd rfl (by first | exact Or.inl rfl | exact Or.inr rfl))) (dgs_cons (dg_name (fun _ => pg_name hnd rfl (by first | exact Or.inl rfl | exact Or.inr rfl))) dgs_nil))) (ds_one (ds_if (dte_p (dt_not (dt_val (dp_fn (E := L2.E0) (da_cons (dp_var (i := 2) (fun _ => pv 2)) (da_cons dp_int (da_cons (dp_glob (v := .int (9)) (fun _ => pe_glob (by rfl) c_GREATEST_BEAT ⟨_, rfl⟩) (fun _ => .int _)) da_nil))) (fun _ _ pa => G.pe_G G_is_between hgd (hr.mono (by decide)) (by rfl) T.f_is_between.g T.f_is_between.F.kp T.f_is_between.b L2.pass0 pa))))) (ds_one ds_never) ds_nil)) (fun _ => PassesOwn.never)))))
/-! pairings_within: level 2, calls ['_pairings_ahead'] -/
abbrev N_pairings_within : List Str := ["rhythm", "first", "last"]
theorem sc_pairings_within : FnScope N_pairings_within ["rhythm", "first", "last"] (defScope s_pairings_within) := ⟨rfl, rfl, rfl, by decide +kernel, rfl, by decide +kernel, by decide +kernel⟩
def body_pairings_within (pr_pairings_ahead : List D → (D → Prop) → Prop) : DSr :=
  (sRet (eP (dOp gSub (dCall pr_pairings_ahead (dCons (dVar 0) (dCons (dOp gAdd (dVar 2) (dC (.int 1))) dNil))) (dCall pr_pairings_ahead (dCons (dVar 0) (dCons (dVar 1) dNil))))))
theorem der_pairings_within (T : Txt K mg a) {pr_pairings_ahead : List D → (D → Prop) → Prop} (G_pairings_ahead : FnG P w K mg base L2.CX0 1 a.f_pairings_ahead a.fd_pairings_ahead ["rhythm", "slot"] (spP K pr_pairings_ahead)) (cdv : Value) (A : Around) (outer : List PySem.Env) (s : Shared) (H : Hp) (E : XK) (hg0 : A.guards = some []) (hr : Room 1 (A.deeper (envOfC "pairings_within" (defScope s_pairings_within) s.heap.objs.size a.f_pairings_within cdv))) :
    DSs K (fun _ : Unit => (cxOf L2.CX0 P w K mg base N_pairings_within "pairings_within" (defScope s_pairings_within) a.f_pairings_within cdv A outer s H E).nox) (defBody s_pairings_within) (body_pairings_within pr_pairings_ahead) := by
  have hgd : (A.deeper (envOfC "pairings_within" (defScope s_pairings_within) s.heap.objs.size a.f_pairings_within cdv)).guards = some [] := G.guards_deeper hg0 _
  have hu : (A.deeper (envOfC "pairings_within" (defScope s_pairings_within) s.heap.objs.size a.f_pairings_within cdv)).units + 64 < cLine := by have := hr.un; omega
  have hu1 : (A.deeper (envOfC "pairings_within" (defScope s_pairings_within) s.heap.objs.size a.f_pairings_within cdv)).units + 1 < cLine := by omega
  have hu65 : (A.deeper (envOfC "pairings_within" (defScope s_pairings_within) s.heap.objs.size a.f_pairings_within cdv)).units + 65 < cLine := by have := hr.un; omega
  have hnd : N_pairings_within.Nodup := sc_pairings_within.nd
  exact ((ds_one (ds_ret (de_p (dp_bin (fun _ => og_sub) rG_d (dp_fn (E := L2.E0) (da_cons (dp_var (i := 0) (fun _ => pv 0)) (da_cons (dp_bin (fun _ => og_add) rG_d (dp_var (i := 2) (fun _ => pv 2)) dp_int) da_nil)) (fun _ _ pa => G.pe_G G_pairings_ahead hgd (hr.mono (by decide)) (by rfl) T.f_pairings_ahead.g T.f_pairings_ahead.F.kp T.f_pairings_ahead.b L2.pass0 pa)) (dp_fn (E := L2.E0) (da_cons (dp_var (i := 0) (fun _ => pv 0)) (da_cons (dp_var (i := 1) (fun _ => pv 1)) da_nil)) (fun _ _ pa => G.pe_G G_pairings_ahead hgd (hr.mono (by decide)) (by rfl) T.f_pairings_ahead.g T.f_pairings_ahead.F.kp T.f_pairings_ahead.b L2.pass0 pa)))))))
/-! _pairings_ahead: level 1, calls [] -/
abbrev N_pairings_ahead : List Str := ["rhythm", "slot", "rounds", "rest"]
theorem sc_pairings_ahead : FnScope N_pairings_ahead ["rhythm", "slot"] (defScope s_pairings_ahead) := ⟨rfl, rfl, rfl, by decide +kernel, rfl, by decide +kernel, by decide +kernel⟩
def body_pairings_ahead : DSr :=
  (sSeq (sSet (gT 2 (gTc (gN 2) (gTc (gN 3) gTn))) (eP (dCall gDivmod (dCons (dVar 1) (dCons (dCall gLen (dCons (dVar 0) dNil)) dNil))))) (sRet (eP (dOp gAdd (dOp gMul (dVar 2) (dCall gSum (dCons (dVar 0) dNil))) (dCall gSum (dCons (dSl (dVar 0) dNoPart (dPart (dVar 3))) dNil))))))
theorem der_pairings_ahead (T : Txt K mg a) (cdv : Value) (A : Around) (outer : List PySem.Env) (s : Shared) (H : Hp) (E : XK) (hg0 : A.guards = some []) (hr : Room 0 (A.deeper (envOfC "_pairings_ahead" (defScope s_pairings_ahead) s.heap.objs.size a.f_pairings_ahead cdv))) :
    DSs K (fun _ : Unit => (cxOf L2.CX0 P w K mg base N_pairings_ahead "_pairings_ahead" (defScope s_pairings_ahead) a.f_pairings_ahead cdv A outer s H E).nox) (defBody s_pairings_ahead) (body_pairings_ahead) := by
  have hgd : (A.deeper (envOfC "_pairings_ahead" (defScope s_pairings_ahead) s.heap.objs.size a.f_pairings_ahead cdv)).guards = some [] := G.guards_deeper hg0 _
  have hu : (A.deeper (envOfC "_pairings_ahead" (defScope s_pairings_ahead) s.heap.objs.size a.f_pairings_ahead cdv)).units + 64 < cLine := by have := hr.un; omega
  have hu1 : (A.deeper (envOfC "_pairings_ahead" (defScope s_pairings_ahead) s.heap.objs.size a.f_pairings_ahead cdv)).units + 1 < cLine := by omega
  have hu65 : (A.deeper (envOfC "_pairings_ahead" (defScope s_pairings_ahead) s.heap.objs.size a.f_pairings_ahead cdv)).units + 65 < cLine := by have := hr.un; omega
  have hnd : N_pairings_ahead.Nodup := sc_pairings_ahead.nd
  exact ((ds_cons (ds_asg (de_p (dp_call (da_cons (dp_var (i := 1) (fun _ => pv 1)) (da_cons (dp_call (da_cons (dp_var (i := 0) (fun _ => pv 0)) da_nil) len_d (fun _ _ pa => pe_callB call_len_seq (by rfl) T.b_len PySem.boot_len pa)) da_nil)) divmod_d (fun _ _ pa => pe_callB call_divmodW (by rfl) T.b_divmod (by decide +kernel) pa))) (dg_tup (dgs_cons (dg_name (fun _ => pg_name hnd rfl (by first | exact Or.inl rfl | exact Or.inr rfl))) (dgs_cons (dg_name (fun _ => pg_name hnd rfl (by first | exact Or.inl rfl | exact Or.inr rfl))) dgs_nil))) (fun _ _ _ pe pg => ps_asg pe pg)) (ds_one (ds_ret (de_p (dp_bin (fun _ => og_add) rG_d (dp_bin (fun _ => og_mul) rG_d (dp_var (i := 2) (fun _ => pv 2)) (dp_call (da_cons (dp_var (i := 0) (fun _ => pv 0)) da_nil) sum_d (fun _ _ pa => pe_callB (cr_sum rfl) (by rfl) T.b_sum (by decide +kernel) pa))) (dp_call (da_cons (dp_slice (dp_var (i := 0) (fun _ => pv 0)) do_none (do_some (dp_var (i := 3) (fun _ => pv 3)))) da_nil) sum_d (fun _ _ pa => pe_callB (cr_sum rfl) (by rfl) T.b_sum (by decide +kernel) pa))))))))
/-! unsure: level 6, calls ['_has_many', 'check_rhythm', 'check_row'] -/
abbrev N_unsure : List Str := ["size", "cells", "row", "rhythm", "spans", "cell", "leaving", "index", "span"]
theorem sc_unsure : FnScope N_unsure ["size", "cells", "row", "rhythm"] (defScope s_unsure) := ⟨rfl, rfl, rfl, by decide +kernel, rfl, by decide +kernel, by decide +kernel⟩
def body_unsure (pr_has_many : List D → (D → Prop) → Prop) (pr_check_rhythm : List D → (D → Prop) → Prop) (pr_check_row : List D → (D → Prop) → Prop) : DSr :=
  (sSeq (sDrop (eP (dCall pr_check_row (dCons (dVar 0) (dCons (dVar 1) (dCons (dVar 2) dNil)))))) (sSeq (sDrop (eP (dCall pr_check_rhythm (dCons (dVar 3) dNil)))) (sSeq (sSet (gN 4) (eP (dFreeze (dLc (iZ (dCons (dVar 1) (dCons (dVar 2) dNil))) (gT 2 (gTc (gN 5) (gTc (gN 6) gTn))) dYes (dTup (dCons (dOp gIx (dVar 5) (dC (.int 0))) (dCons (dVar 6) dNil))) [5, 6])))) (sRetL (dLc (iE (dCons (dVar 4) dNil)) (gT 2 (gTc (gN 7) (gTc (gN 8) gTn))) (dNot (dB (dCall pr_has_many (dCons (dVar 3) (dCons (dOp gIx (dVar 8) (dC (.int 0))) (dCons (dOp gIx (dVar 8) (dC (.int 1))) dNil)))))) (dVar 7) [7, 8])))))
theorem der_unsure (T : Txt K mg a) {pr_has_many : List D → (D → Prop) → Prop} (G_has_many : FnG P w K mg base L2.CX0 3 a.f_has_many a.fd_has_many ["rhythm", "first", "last"] (spP K pr_has_many)) {pr_check_rhythm : List D → (D → Prop) → Prop} (G_check_rhythm : FnG P w K mg base L2.CX0 3 a.f_check_rhythm a.fd_check_rhythm ["rhythm"] (spP K pr_check_rhythm)) {pr_check_row : List D → (D → Prop) → Prop} (G_check_row : FnG P w K mg base L2.CX0 5 a.f_check_row a.fd_check_row ["size", "cells", "row"] (spP K pr_check_row)) (cdv : Value) (A : Around) (outer : List PySem.Env) (s : Shared) (H : Hp) (E : XK) (hg0 : A.guards = some []) (hr : Room 5 (A.deeper (envOfC "unsure" (defScope s_unsure) s.heap.objs.size a.f_unsure cdv))) :
    DSs K (fun _ : Unit => (cxOf L2.CX0 P w K mg base N_unsure "unsure" (defScope s_unsure) a.f_unsure cdv A outer s H E).nox) (defBody s_unsure) (body_unsure pr_has_many pr_check_rhythm pr_check_row) := by
  have hgd : (A.deeper (envOfC "unsure" (defScope s_unsure) s.heap.objs.size a.f_unsure cdv)).guards = some [] := G.guards_deeper hg0 _
  have hu : (A.deeper (envOfC "unsure" (defScope s_unsure) s.heap.objs.size a.f_unsure cdv)).units + 64 < cLine := by have := hr.un; omega
  have hu1 : (A.deeper (envOfC "unsure" (defScope s_unsure) s.heap.objs.size a.f_unsure cdv)).units + 1 < cLine := by omega
  have hu65 : (A.deeper (envOfC "unsure" (defScope s_unsure) s.heap.objs.size a.f_unsure cdv)).units + 65 < cLine := by have := hr.un; omega
  have hnd : N_unsure.Nodup := sc_unsure.nd
  exact ((ds_cons (ds_expr (de_p (dp_fn (E := L2.E0) (da_cons (dp_var (i := 0) (fun _ => pv 0)) (da_cons (dp_var (i := 1) (fun _ => pv 1)) (da_cons (dp_var (i := 2) (fun _ => pv 2)) da_nil))) (fun _ _ pa => G.pe_G G_check_row hgd (hr.mono (by decide)) (by rfl) T.f_check_row.g T.f_check_row.F.kp T.f_check_row.b L2.pass0 pa)))) (ds_cons (ds_expr (de_p (dp_fn (E := L2.E0) (da_cons (dp_var (i := 3) (fun _ => pv 3)) da_nil) (fun _ _ pa => G.pe_G G_check_rhythm hgd (hr.mono (by decide)) (by rfl) T.f_check_rhythm.g T.f_check_rhythm.F.kp T.f_check_rhythm.b L2.pass0 pa)))) (ds_cons (ds_setS (dns_lc (i := 4) (own := [("cell", 5), ("leaving", 6)]) (di_zip (da_cons (dp_var (i := 1) (fun _ => pv 1)) (da_cons (dp_var (i := 2) (fun _ => pv 2)) da_nil)) (fun _ _ pa => pi_zip (by rfl) T.b_zip pa)) (dg_tup (dgs_cons (dg_name (fun _ => pg_name hnd rfl (by first | exact Or.inl rfl | exact Or.inr rfl))) (dgs_cons (dg_name (fun _ => pg_name hnd rfl (by first | exact Or.inl rfl | exact Or.inr rfl))) dgs_nil))) dts_nil (dp_tup (da_cons (dp_ix (dp_var (i := 5) (fun _ => pv 5)) dp_int (fun _ _ => rfl)) (da_cons (dp_var (i := 6) (fun _ => pv 6)) da_nil))) (fun _ => rfl) (fun _ => rfl) (fun _ => sw_true rfl rfl rfl (by decide +kernel)) (fun _ => blkOk_by (N := N_unsure) (sc := defScope s_unsure) (by decide +kernel)) (fun _ => hnd))) (ds_one (ds_retL (dn_lc (own := [("index", 7), ("span", 8)]) (di_enum (da_cons (dp_var (i := 4) (fun _ => pv 4)) da_nil) (fun _ _ pa => pi_enum (by rfl) T.b_enumerate pa)) (dg_tup (dgs_cons (dg_name (fun _ => pg_name hnd rfl (by first | exact Or.inl rfl | exact Or.inr rfl))) (dgs_cons (dg_name (fun _ => pg_name hnd rfl (by first | exact Or.inl rfl | exact Or.inr rfl))) dgs_nil))) (dts_one (dt_not (dt_val (dp_fn (E := L2.E0) (da_cons (dp_var (i := 3) (fun _ => pv 3)) (da_cons (dp_ix (dp_var (i := 8) (fun _ => pv 8)) dp_int (fun _ _ => rfl)) (da_cons (dp_ix (dp_var (i := 8) (fun _ => pv 8)) dp_int (fun _ _ => rfl)) da_nil))) (fun _ _ pa => G.pe_G G_has_many hgd (hr.mono (by decide)) (by rfl) T.f_has_many.g T.f_has_many.F.kp T.f_has_many.b L2.pass0 pa))))) (dp_var (i := 7) (fun _ => pv 7)) (fun _ => blkOk_by (N := N_unsure) (sc := defScope s_unsure) (by decide +kernel)) (fun _ => hnd))))))))
/-! _has_many: level 3, calls ['pairings_within'] -/
abbrev N_has_many : List Str := ["rhythm", "first", "last"]
theorem sc_has_many : FnScope N_has_many ["rhythm", "first", "last"] (defScope s_has_many) := ⟨rfl, rfl, rfl, by decide +kernel, rfl, by decide +kernel, by decide +kernel⟩
def body_has_many (pr_pairings_within : List D → (D → Prop) → Prop) : DSr :=
  (sRet (eP (dOp gGe (dCall pr_pairings_within (dCons (dVar 0) (dCons (dVar 1) (dCons (dVar 2) dNil)))) (dOp gSub (dOp gMul (dC (.int 2)) (dOp gAdd (dOp gSub (dVar 2) (dVar 1)) (dC (.int 1)))) (dC (.int 1))))))
theorem der_has_many (T : Txt K mg a) {pr_pairings_within : List D → (D → Prop) → Prop} (G_pairings_within : FnG P w K mg base L2.CX0 2 a.f_pairings_within a.fd_pairings_within ["rhythm", "first", "last"] (spP K pr_pairings_within)) (cdv : Value) (A : Around) (outer : List PySem.Env) (s : Shared) (H : Hp) (E : XK) (hg0 : A.guards = some []) (hr : Room 2 (A.deeper (envOfC "_has_many" (defScope s_has_many) s.heap.objs.size a.f_has_many cdv))) :
    DSs K (fun _ : Unit => (cxOf L2.CX0 P w K mg base N_has_many "_has_many" (defScope s_has_many) a.f_has_many cdv A outer s H E).nox) (defBody s_has_many) (body_has_many pr_pairings_within) := by
  have hgd : (A.deeper (envOfC "_has_many" (defScope s_has_many) s.heap.objs.size a.f_has_many cdv)).guards = some [] := G.guards_deeper hg0 _
  have hu : (A.deeper (envOfC "_has_many" (defScope s_has_many) s.heap.objs.size a.f_has_many cdv)).units + 64 < cLine := by have := hr.un; omega
  have hu1 : (A.deeper (envOfC "_has_many" (defScope s_has_many) s.heap.objs.size a.f_has_many cdv)).units + 1 < cLine := by omega
  have hu65 : (A.deeper (envOfC "_has_many" (defScope s_has_many) s.heap.objs.size a.f_has_many cdv)).units + 65 < cLine := by have := hr.un; omega
  have hnd : N_has_many.Nodup := sc_has_many.nd
  exact ((ds_one (ds_ret (de_p (dp_cmp (fun _ => og_ge) rG_d (dp_fn (E := L2.E0) (da_cons (dp_var (i := 0) (fun _ => pv 0)) (da_cons (dp_var (i := 1) (fun _ => pv 1)) (da_cons (dp_var (i := 2) (fun _ => pv 2)) da_nil))) (fun _ _ pa => G.pe_G G_pairings_within hgd (hr.mono (by decide)) (by rfl) T.f_pairings_within.g T.f_pairings_within.F.kp T.f_pairings_within.b L2.pass0 pa)) (dp_bin (fun _ => og_sub) rG_d (dp_bin (fun _ => og_mul) rG_d dp_int (dp_bin (fun _ => og_add) rG_d (dp_bin (fun _ => og_sub) rG_d (dp_var (i := 2) (fun _ => pv 2)) (dp_var (i := 1) (fun _ => pv 1))) dp_int)) dp_int))))))
/-! _law_source: level 1, calls [] -/
abbrev N_source : List Str := ["cell", "k", "great"]
theorem sc_source : FnScope N_source ["cell", "k"] (defScope s_source) := ⟨rfl, rfl, rfl, by decide +kernel, rfl, by decide +kernel, by decide +kernel⟩
def body_source : DSr :=
  (sSeq (sSet (gN 2) (eP (dCall gAbs (dCons (dVar 0) dNil)))) (sRetL (dLst (dCons (dCall gMax2 (dCons (dC (.int 0)) (dCons (dOp gSub (dVar 2) (dOp gPow (dC (.int 10)) (dC (.int 18)))) dNil))) (dCons (dOp gAdd (dOp gAdd (dOp gMul (dOp gMod (dCall gInt1 (dCons (dVar 2) dNil)) (dOp gAdd (dOp gPow (dC (.int 10)) (dC (.int 45))) (dC (.int 9)))) (dC (.int 83))) (dOp gMul (dC (.int 2)) (dVar 1))) (dCall gInt1 (dCons (dOp gLt (dVar 0) (dC (.int 0))) dNil))) (dCons (dC (.int 0)) dNil))))))
theorem der_source (T : Txt K mg a) (cdv : Value) (A : Around) (outer : List PySem.Env) (s : Shared) (H : Hp) (E : XK) (hg0 : A.guards = some []) (hr : Room 0 (A.deeper (envOfC "_law_source" (defScope s_source) s.heap.objs.size a.f_source cdv))) :
    DSs K (fun _ : Unit => (cxOf L2.CX0 P w K mg base N_source "_law_source" (defScope s_source) a.f_source cdv A outer s H E).nox) (defBody s_source) (body_source) := by
  have hgd : (A.deeper (envOfC "_law_source" (defScope s_source) s.heap.objs.size a.f_source cdv)).guards = some [] := G.guards_deeper hg0 _
  have hu : (A.deeper (envOfC "_law_source" (defScope s_source) s.heap.objs.size a.f_source cdv)).units + 64 < cLine := by have := hr.un; omega
  have hu1 : (A.deeper (envOfC "_law_source" (defScope s_source) s.heap.objs.size a.f_source cdv)).units + 1 < cLine := by omega
  have hu65 : (A.deeper (envOfC "_law_source" (defScope s_source) s.heap.objs.size a.f_source cdv)).units + 65 < cLine := by have := hr.un; omega
  have hnd : N_source.Nodup := sc_source.nd
  exact ((ds_cons (ds_asg (de_p (dp_call (da_cons (dp_var (i := 0) (fun _ => pv 0)) da_nil) abs_d (fun _ _ pa => pe_callB call_abs (by rfl) T.b_abs (by decide +kernel) pa))) (dg_name (fun _ => pg_name hnd rfl (by first | exact Or.inl rfl | exact Or.inr rfl))) (fun _ _ _ pe pg => ps_asg pe pg)) (ds_one (ds_retL (dn_lst (da_cons (dp_call (da_cons dp_int (da_cons (dp_bin (fun _ => og_sub) rG_d (dp_var (i := 2) (fun _ => pv 2)) (dp_bin (fun _ => og_pow) rG_d dp_int dp_int)) da_nil)) max_d (fun _ _ pa => pe_callB (call_max2 rfl) (by rfl) T.b_max (by decide +kernel) pa)) (da_cons (dp_bin (fun _ => og_add) rG_d (dp_bin (fun _ => og_add) rG_d (dp_bin (fun _ => og_mul) rG_d (dp_bin (fun _ => og_mod) rG_d (dp_call (da_cons (dp_var (i := 2) (fun _ => pv 2)) da_nil) int1_d (fun _ _ pa => pe_callTy call_int1 (by rfl) T.b_int (by decide +kernel) pa)) (dp_bin (fun _ => og_add) rG_d (dp_bin (fun _ => og_pow) rG_d dp_int dp_int) dp_int)) dp_int) (dp_bin (fun _ => og_mul) rG_d dp_int (dp_var (i := 1) (fun _ => pv 1)))) (dp_call (da_cons (dp_cmp (fun _ => og_lt) rG_d (dp_var (i := 0) (fun _ => pv 0)) dp_int) da_nil) int1_d (fun _ _ pa => pe_callTy call_int1 (by rfl) T.b_int (by decide +kernel) pa))) (da_cons dp_int da_nil))))))))
/-! _law_draw: level 1, calls [] -/
abbrev N_draw : List Str := ["source", "count", "mixed", "digit"]
theorem sc_draw : FnScope N_draw ["source", "count"] (defScope s_draw) := ⟨rfl, rfl, rfl, by decide +kernel, rfl, by decide +kernel, by decide +kernel⟩
def body_draw : DSr :=
  (sSeq (sIf (eTP (dB (dOp gGt (dIxCel 0 (dC (.int 0))) (dC (.int 0))))) (sSeq (sSet (gN 3) (eP (dOp gMod (dCall gInt1 (dCons (dIxCel 0 (dC (.int 0))) dNil)) (dVar 1)))) (sSeq (sItem 0 (eP (dOp gDiv (dIxCel 0 (dC (.int 0))) (dVar 1))) (eP (dC (.int 0)))) (sRet (eP (dVar 3))))) sNext) (sSeq (sItem 0 (eP (dOp gAdd (dIxCel 0 (dC (.int 2))) (dC (.int 1)))) (eP (dC (.int 2)))) (sSeq (sSet (gN 2) (eP (dOp gMod (dCall gInt1 (dCons (dOp gPow (dOp gAdd (dIxCel 0 (dC (.int 1))) (dOp gMul (dC (.int 800011)) (dIxCel 0 (dC (.int 2))))) (dC (.int 3))) dNil)) (dOp gAdd (dOp gPow (dC (.int 10)) (dC (.int 38))) (dC (.int 133)))))) (sSeq (sSet (gN 2) (eP (dOp gMod (dCall gInt1 (dCons (dOp gPow (dOp gAdd (dOp gMul (dVar 2) (dIxCel 0 (dC (.int 2)))) (dC (.int 70051))) (dC (.int 3))) dNil)) (dOp gAdd (dOp gPow (dC (.int 10)) (dC (.int 40))) (dC (.int 121)))))) (sRet (eP (dOp gMod (dCall gInt1 (dCons (dOp gDiv (dVar 2) (dC (.int 98317))) dNil)) (dVar 1))))))))
theorem der_draw (T : Txt K mg a) (cdv : Value) (A : Around) (outer : List PySem.Env) (s : Shared) (H : Hp) (E : XK) (hg0 : A.guards = some []) (hr : Room 0 (A.deeper (envOfC "_law_draw" (defScope s_draw) s.heap.objs.size a.f_draw cdv))) :
    DSs K (fun _ : Unit => (cxOf L2.CX0 P w K mg base N_draw "_law_draw" (defScope s_draw) a.f_draw cdv A outer s H E).nox) (defBody s_draw) (body_draw) := by
  have hgd : (A.deeper (envOfC "_law_draw" (defScope s_draw) s.heap.objs.size a.f_draw cdv)).guards = some [] := G.guards_deeper hg0 _
  have hu : (A.deeper (envOfC "_law_draw" (defScope s_draw) s.heap.objs.size a.f_draw cdv)).units + 64 < cLine := by have := hr.un; omega
  have hu1 : (A.deeper (envOfC "_law_draw" (defScope s_draw) s.heap.objs.size a.f_draw cdv)).units + 1 < cLine := by omega
  have hu65 : (A.deeper (envOfC "_law_draw" (defScope s_draw) s.heap.objs.size a.f_draw cdv)).units + 65 < cLine := by have := hr.un; omega
  have hnd : N_draw.Nodup := sc_draw.nd
  exact ((ds_cons (ds_if (dte_p (dt_cmp (fun _ => og_gt) rG_d (dp_ixCel (i := 0) (fun _ => pv 0) dp_int (fun _ _ => rfl)) dp_int)) (ds_cons (ds_asg (de_p (dp_bin (fun _ => og_mod) rG_d (dp_call (da_cons (dp_ixCel (i := 0) (fun _ => pv 0) dp_int (fun _ _ => rfl)) da_nil) int1_d (fun _ _ pa => pe_callTy call_int1 (by rfl) T.b_int (by decide +kernel) pa)) (dp_var (i := 1) (fun _ => pv 1)))) (dg_name (fun _ => pg_name hnd rfl (by first | exact Or.inl rfl | exact Or.inr rfl))) (fun _ _ _ pe pg => ps_asg pe pg)) (ds_cons (ds_item (i := 0) (fun _ => pv 0) (de_p (dp_bin (fun _ => og_div) rG_d (dp_ixCel (i := 0) (fun _ => pv 0) dp_int (fun _ _ => rfl)) (dp_var (i := 1) (fun _ => pv 1)))) (de_p dp_int) (fun _ _ _ px pe pk => ps_asg pe (pg_sub px pk set_list))) (ds_one (ds_ret (de_p (dp_var (i := 3) (fun _ => pv 3))))))) ds_nil) (ds_cons (ds_item (i := 0) (fun _ => pv 0) (de_p (dp_bin (fun _ => og_add) rG_d (dp_ixCel (i := 0) (fun _ => pv 0) dp_int (fun _ _ => rfl)) dp_int)) (de_p dp_int) (fun _ _ _ px pe pk => ps_asg pe (pg_sub px pk set_list))) (ds_cons (ds_asg (de_p (dp_bin (fun _ => og_mod) rG_d (dp_call (da_cons (dp_bin (fun _ => og_pow) rG_d (dp_bin (fun _ => og_add) rG_d (dp_ixCel (i := 0) (fun _ => pv 0) dp_int (fun _ _ => rfl)) (dp_bin (fun _ => og_mul) rG_d dp_int (dp_ixCel (i := 0) (fun _ => pv 0) dp_int (fun _ _ => rfl)))) dp_int) da_nil) int1_d (fun _ _ pa => pe_callTy call_int1 (by rfl) T.b_int (by decide +kernel) pa)) (dp_bin (fun _ => og_add) rG_d (dp_bin (fun _ => og_pow) rG_d dp_int dp_int) dp_int))) (dg_name (fun _ => pg_name hnd rfl (by first | exact Or.inl rfl | exact Or.inr rfl))) (fun _ _ _ pe pg => ps_asg pe pg)) (ds_cons (ds_asg (de_p (dp_bin (fun _ => og_mod) rG_d (dp_call (da_cons (dp_bin (fun _ => og_pow) rG_d (dp_bin (fun _ => og_add) rG_d (dp_bin (fun _ => og_mul) rG_d (dp_var (i := 2) (fun _ => pv 2)) (dp_ixCel (i := 0) (fun _ => pv 0) dp_int (fun _ _ => rfl))) dp_int) dp_int) da_nil) int1_d (fun _ _ pa => pe_callTy call_int1 (by rfl) T.b_int (by decide +kernel) pa)) (dp_bin (fun _ => og_add) rG_d (dp_bin (fun _ => og_pow) rG_d dp_int dp_int) dp_int))) (dg_name (fun _ => pg_name hnd rfl (by first | exact Or.inl rfl | exact Or.inr rfl))) (fun _ _ _ pe pg => ps_asg pe pg)) (ds_one (ds_ret (de_p (dp_bin (fun _ => og_mod) rG_d (dp_call (da_cons (dp_bin (fun _ => og_div) rG_d (dp_var (i := 2) (fun _ => pv 2)) dp_int) da_nil) int1_d (fun _ _ pa => pe_callTy call_int1 (by rfl) T.b_int (by decide +kernel) pa)) (dp_var (i := 1) (fun _ => pv 1)))))))))))
/-! _law_lot: level 2, calls ['_law_draw'] -/
abbrev N_lot : List Str := ["source", "wide", "span", "way", "goal", "found", "at", "is_full", "port", "other"]
theorem sc_lot : FnScope N_lot ["source", "wide", "span"] (defScope s_lot) := ⟨rfl, rfl, rfl, by decide +kernel, rfl, by decide +kernel, by decide +kernel⟩
def lp_lot_1 (pr_draw : List D → List D → (D → List D → Prop) → Prop) : DSr :=
  (sIf (eOr (eTP (dB (dVar 7))) (eAnd (eTP (dB (dOp gLt (dVar 3) (dC (.int 3))))) (eB (eOp gEq (eCell 0 pr_draw (eAP (dCons (dOp gIx (dFreeze (dLst (dCons (dC (.int 2)) (dCons (dC (.int 2)) (dCons (dC (.int 4)) dNil))))) (dVar 3)) dNil))) (eP (dC (.int 0))))))) (sSeq (sSet (gN 9) (eCell 0 pr_draw (eAP (dCons (dVar 1) dNil)))) (sApp 5 (eTup (eCons (eP (dVar 6)) (eCons (eP (dVar 8)) (eCons (eIf (eAnd (eTP (dB (dOp gEq (dVar 3) (dC (.int 1))))) (eB (eOp gGt (eCell 0 pr_draw (eAP (dCons (dC (.int 3)) dNil))) (eP (dC (.int 0)))))) (eP (dVar 4)) (eP (dVar 9))) eNil)))))) sNext)
def lp_lot_2 (pr_draw : List D → List D → (D → List D → Prop) → Prop) : DSr :=
  (sSeq (sSet (gN 7) (eAndV (eP (dOp gEq (dVar 3) (dC (.int 3)))) (eOp gEq (eCell 0 pr_draw (eAP (dCons (dC (.int 2)) dNil))) (eP (dC (.int 0)))))) (sFor (iR1 (dCons (dVar 1) dNil)) (gN 8) (lp_lot_1 pr_draw)))
def body_lot (pr_draw : List D → List D → (D → List D → Prop) → Prop) : DSr :=
  (sSeq (sMany [3, 4, 5] (emE (eCell 0 pr_draw (eAP (dCons (dC (.int 4)) dNil))) (emE (eCell 0 pr_draw (eAP (dCons (dVar 1) dNil))) (emP (mOwn (dLst dNil) mNil))))) (sSeq (sFor (iR1 (dCons (dVar 2) dNil)) (gN 6) (lp_lot_2 pr_draw)) (sFreeze 5 (sRetL (dSlN (dVar 5) dNoPart (dPart (dC (.int 60))))))))
theorem der_lot (T : Txt K mg a) {pr_draw : List D → List D → (D → List D → Prop) → Prop} (G_draw : FnG P w K mg base L2.CX0 1 a.f_draw a.fd_draw ["source", "count"] (spC K pr_draw)) (cdv : Value) (A : Around) (outer : List PySem.Env) (s : Shared) (H : Hp) (E : XK) (hg0 : A.guards = some []) (hr : Room 1 (A.deeper (envOfC "_law_lot" (defScope s_lot) s.heap.objs.size a.f_lot cdv))) :
    DSs K (fun _ : Unit => (cxOf L2.CX0 P w K mg base N_lot "_law_lot" (defScope s_lot) a.f_lot cdv A outer s H E).nox) (defBody s_lot) (body_lot pr_draw) := by
  have hgd : (A.deeper (envOfC "_law_lot" (defScope s_lot) s.heap.objs.size a.f_lot cdv)).guards = some [] := G.guards_deeper hg0 _
  have hu : (A.deeper (envOfC "_law_lot" (defScope s_lot) s.heap.objs.size a.f_lot cdv)).units + 64 < cLine := by have := hr.un; omega
  have hu1 : (A.deeper (envOfC "_law_lot" (defScope s_lot) s.heap.objs.size a.f_lot cdv)).units + 1 < cLine := by omega
  have hu65 : (A.deeper (envOfC "_law_lot" (defScope s_lot) s.heap.objs.size a.f_lot cdv)).units + 65 < cLine := by have := hr.un; omega
  have hnd : N_lot.Nodup := sc_lot.nd
  exact ((ds_cons (ds_par3 (dem_e (de_cell (i := 0) (E := L2.E0) (fun _ => pv 0) (dae_p (da_cons dp_int da_nil)) (pe := fun _ _ pa => G.pe_G G_draw hgd (hr.mono (by decide)) (by rfl) T.f_draw.g T.f_draw.F.kp T.f_draw.b L2.pass0 pa)) (dem_e (de_cell (i := 0) (E := L2.E0) (fun _ => pv 0) (dae_p (da_cons (dp_var (i := 1) (fun _ => pv 1)) da_nil)) (pe := fun _ _ pa => G.pe_G G_draw hgd (hr.mono (by decide)) (by rfl) T.f_draw.g T.f_draw.F.kp T.f_draw.b L2.pass0 pa)) (dem_p (dm_own (dn_lst da_nil) dm_nil)))) (by decide) (fun _ _ pa => ps_par3 rfl hnd rfl rfl rfl (by decide) (by decide) (by decide) rfl rfl rfl pa (by rfl))) (ds_cons (ds_for (di_range1 (da_cons (dp_var (i := 2) (fun _ => pv 2)) da_nil) (fun _ _ pa => pi_range1 (by rfl) T.b_range pa)) (dg_name (fun _ => pg_name hnd rfl (by first | exact Or.inl rfl | exact Or.inr rfl))) (ds_cons (ds_asg (de_and (de_p (dp_cmp (fun _ => (og_eq hu)) rG_d (dp_var (i := 3) (fun _ => pv 3)) dp_int)) (de_one (de_cmp (fun _ => (og_eq hu)) rG_d (de_cell (i := 0) (E := L2.E0) (fun _ => pv 0) (dae_p (da_cons dp_int da_nil)) (pe := fun _ _ pa => G.pe_G G_draw hgd (hr.mono (by decide)) (by rfl) T.f_draw.g T.f_draw.F.kp T.f_draw.b L2.pass0 pa)) (de_p dp_int)))) (dg_name (fun _ => pg_name hnd rfl (by first | exact Or.inl rfl | exact Or.inr rfl))) (fun _ _ _ pe pg => ps_asg pe pg)) (ds_one (ds_for (di_range1 (da_cons (dp_var (i := 1) (fun _ => pv 1)) da_nil) (fun _ _ pa => pi_range1 (by rfl) T.b_range pa)) (dg_name (fun _ => pg_name hnd rfl (by first | exact Or.inl rfl | exact Or.inr rfl))) (ds_one (ds_if (DWE.t (dwe_or (dte_p (dt_val (dp_var (i := 7) (fun _ => pv 7)))) (dwe_or1 (DWE.t (dwe_and (dte_p (dt_cmp (fun _ => og_lt) rG_d (dp_var (i := 3) (fun _ => pv 3)) dp_int)) (dwe_and1 (dte_cmp (fun _ => (og_eq hu)) rG_d (de_cell (i := 0) (E := L2.E0) (fun _ => pv 0) (dae_p (da_cons (dp_ix (dp_new (dn_lst (da_cons dp_int (da_cons dp_int (da_cons dp_int da_nil))))) (dp_var (i := 3) (fun _ => pv 3)) (fun _ _ => rfl)) da_nil)) (pe := fun _ _ pa => G.pe_G G_draw hgd (hr.mono (by decide)) (by rfl) T.f_draw.g T.f_draw.F.kp T.f_draw.b L2.pass0 pa)) (de_p dp_int)))))))) (ds_cons (ds_asg (de_cell (i := 0) (E := L2.E0) (fun _ => pv 0) (dae_p (da_cons (dp_var (i := 1) (fun _ => pv 1)) da_nil)) (pe := fun _ _ pa => G.pe_G G_draw hgd (hr.mono (by decide)) (by rfl) T.f_draw.g T.f_draw.F.kp T.f_draw.b L2.pass0 pa)) (dg_name (fun _ => pg_name hnd rfl (by first | exact Or.inl rfl | exact Or.inr rfl))) (fun _ _ _ pe pg => ps_asg pe pg)) (ds_one (ds_app (i := 5) (fun _ => pv 5) (de_tup (dae_cons (de_p (dp_var (i := 6) (fun _ => pv 6))) (dae_cons (de_p (dp_var (i := 8) (fun _ => pv 8))) (dae_cons (de_if (DWE.t (dwe_and (dte_p (dt_cmp (fun _ => (og_eq hu)) rG_d (dp_var (i := 3) (fun _ => pv 3)) dp_int)) (dwe_and1 (dte_cmp (fun _ => og_gt) rG_d (de_cell (i := 0) (E := L2.E0) (fun _ => pv 0) (dae_p (da_cons dp_int da_nil)) (pe := fun _ _ pa => G.pe_G G_draw hgd (hr.mono (by decide)) (by rfl) T.f_draw.g T.f_draw.F.kp T.f_draw.b L2.pass0 pa)) (de_p dp_int))))) (de_p (dp_var (i := 4) (fun _ => pv 4))) (de_p (dp_var (i := 9) (fun _ => pv 9)))) dae_nil)))) (fun _ _ px pe => ps_expr (pe_bm PySem.F.plainAttrs_list PySem.F.slot_list_append PySem.F.type_list_append mt_append px (pa_cons pe pa_nil)))))) ds_nil)) (fun _ => PassesOwn.never)))) (fun _ => PassesOwn.never)) (ds_one (ds_freeze 5 (ds_retL (dn_slice (dp_var (i := 5) (fun _ => pv 5)) do_none (do_some dp_int))))))))
/-! _law_line: level 2, calls ['_law_draw'] -/
abbrev N_line : List Str := ["source", "lot", "way", "line", "left", "at", "goal", "some", "k"]
theorem sc_line : FnScope N_line ["source", "lot", "way"] (defScope s_line) := ⟨rfl, rfl, rfl, by decide +kernel, rfl, by decide +kernel, by decide +kernel⟩
def lp_line_1 (pr_draw : List D → List D → (D → List D → Prop) → Prop) : DSr :=
  (sSeq (sSet (gN 7) (eP (dFreeze (dPeekN 4 (dLc (iL (dVar 4)) (gN 8) (dAnd (dB (dOp gEq (dOp gIx (dOp gIx (dVar 1) (dVar 8)) (dC (.int 2))) (dVar 6))) (dB (dOp gLeA (dOp gIx (dOp gIx (dVar 1) (dVar 8)) (dC (.int 0))) (dVar 5)))) (dVar 8) [8]))))) (sIf (eAnd (eTP (dB (dOp gNe (dVar 7) (dFreeze (dLst dNil))))) (eOr (eTP (dB (dOp gLt (dVar 2) (dC (.int 3))))) (eOr (eTP (dB (dOp gGt (dVar 5) (dC (.int 40))))) (eB (eOp gGt (eCell 0 pr_draw (eAP (dCons (dC (.int 4)) dNil))) (eP (dC (.int 0)))))))) (sSeq (sSet (gN 8) (eOp gIx (eP (dVar 7)) (eOp gIx (eLst (eCons (eP (dC (.int 0))) (eCons (eP (dOp gSub (dCall gLen (dCons (dVar 7) dNil)) (dC (.int 1)))) (eCons (eCell 0 pr_draw (eAP (dCons (dCall gLen (dCons (dVar 7) dNil)) dNil))) eNil)))) (eP (dCall gMin2 (dCons (dVar 2) (dCons (dC (.int 2)) dNil))))))) (sSeq (sItem 3 (eP (dVar 5)) (eP (dVar 8))) (sRem 4 (eP (dVar 8))))) sNext))
def lp_line_2 (pr_draw : List D → List D → (D → List D → Prop) → Prop) : DSr :=
  (sSeq (sFor (iR1 (dCons (dC (.int 8)) dNil)) (gN 6) (lp_line_1 pr_draw)) (sSet (gN 5) (eP (dOp gAdd (dVar 5) (dC (.int 1))))))
def body_line (pr_draw : List D → List D → (D → List D → Prop) → Prop) : DSr :=
  (sSeq (sMany [3, 4, 5] (emP (mOwn (dRepN (dLst (dCons (dC (.int 0)) dNil)) (dCall gLen (dCons (dVar 1) dNil))) (mOwn (dRng1 (dCall gLen (dCons (dVar 1) dNil))) (mDat (dC (.int 0)) mNil))))) (sSeq (sWhile (eTP (dPeekT 4 (dB (dOp gNe (dVar 4) (dFreeze (dLst dNil)))))) (lp_line_2 pr_draw)) (sRetO 3)))
theorem der_line (T : Txt K mg a) {pr_draw : List D → List D → (D → List D → Prop) → Prop} (G_draw : FnG P w K mg base L2.CX0 1 a.f_draw a.fd_draw ["source", "count"] (spC K pr_draw)) (cdv : Value) (A : Around) (outer : List PySem.Env) (s : Shared) (H : Hp) (E : XK) (hg0 : A.guards = some []) (hr : Room 1 (A.deeper (envOfC "_law_line" (defScope s_line) s.heap.objs.size a.f_line cdv))) :
    DSs K (fun _ : Unit => (cxOf L2.CX0 P w K mg base N_line "_law_line" (defScope s_line) a.f_line cdv A outer s H E).nox) (defBody s_line) (body_line pr_draw) := by
  have hgd : (A.deeper (envOfC "_law_line" (defScope s_line) s.heap.objs.size a.f_line cdv)).guards = some [] := G.guards_deeper hg0 _
  have hu : (A.deeper (envOfC "_law_line" (defScope s_line) s.heap.objs.size a.f_line cdv)).units + 64 < cLine := by have := hr.un; omega
  have hu1 : (A.deeper (envOfC "_law_line" (defScope s_line) s.heap.objs.size a.f_line cdv)).units + 1 < cLine := by omega
  have hu65 : (A.deeper (envOfC "_law_line" (defScope s_line) s.heap.objs.size a.f_line cdv)).units + 65 < cLine := by have := hr.un; omega
  have hnd : N_line.Nodup := sc_line.nd
  exact ((ds_cons (ds_many (is := [3, 4, 5]) (dem_p (dm_own (dn_rep (dn_lst (da_cons dp_int da_nil)) (dp_call (da_cons (dp_var (i := 1) (fun _ => pv 1)) da_nil) len_d (fun _ _ pa => pe_callB call_len_seq (by rfl) T.b_len PySem.boot_len pa))) (dm_own (dn_rng1 (dp_call (da_cons (dp_var (i := 1) (fun _ => pv 1)) da_nil) len_d (fun _ _ pa => pe_callB call_len_seq (by rfl) T.b_len PySem.boot_len pa)) (fun _ _ pe => pe_listRg rfl (by rfl) T.b_list (prg_1 (by rfl) T.b_range pe))) (dm_dat dp_int dm_nil)))) (by decide) (by decide) (fun _ _ pa => ps_asg (pe_tup pa) (pg_tup (n := 3) rfl (pgs_cons (pg_name hnd rfl (by first | exact Or.inl rfl | exact Or.inr rfl)) (pgs_cons (pg_name hnd rfl (by first | exact Or.inl rfl | exact Or.inr rfl)) (pgs_cons (pg_name hnd rfl (by first | exact Or.inl rfl | exact Or.inr rfl)) pgs_nil)))))) (ds_cons (ds_while (dte_p (dt_peek 4 (dt_cmp (fun _ => (og_ne hu)) rG_d (dp_var (i := 4) (fun _ => pv 4)) (dp_new (dn_lst da_nil))))) (ds_cons (ds_for (di_range1 (da_cons dp_int da_nil) (fun _ _ pa => pi_range1 (by rfl) T.b_range pa)) (dg_name (fun _ => pg_name hnd rfl (by first | exact Or.inl rfl | exact Or.inr rfl))) (ds_cons (ds_setS (dns_peek 4 (dns_lc (i := 7) (own := [("k", 8)]) (di_list (dp_var (i := 4) (fun _ => pv 4))) (dg_name (fun _ => pg_name hnd rfl (by first | exact Or.inl rfl | exact Or.inr rfl))) (dts_one (DW.t (dw_and (dt_cmp (fun _ => (og_eq hu)) rG_d (dp_ix (dp_ix (dp_var (i := 1) (fun _ => pv 1)) (dp_var (i := 8) (fun _ => pv 8)) (fun _ _ => rfl)) dp_int (fun _ _ => rfl)) (dp_var (i := 6) (fun _ => pv 6))) (dw_and1 (dt_cmp (fun _ => (og_leA hu)) rG_d (dp_ix (dp_ix (dp_var (i := 1) (fun _ => pv 1)) (dp_var (i := 8) (fun _ => pv 8)) (fun _ _ => rfl)) dp_int (fun _ _ => rfl)) (dp_var (i := 5) (fun _ => pv 5))))))) (dp_var (i := 8) (fun _ => pv 8)) (fun _ => rfl) (fun _ => rfl) (fun _ => sw_true rfl rfl rfl (by decide +kernel)) (fun _ => blkOk_by (N := N_line) (sc := defScope s_line) (by decide +kernel)) (fun _ => hnd)))) (ds_one (ds_if (DWE.t (dwe_and (dte_p (dt_cmp (fun _ => (og_ne hu)) rG_d (dp_var (i := 7) (fun _ => pv 7)) (dp_new (dn_lst da_nil)))) (dwe_and1 (DWE.t (dwe_or (dte_p (dt_cmp (fun _ => og_lt) rG_d (dp_var (i := 2) (fun _ => pv 2)) dp_int)) (dwe_or (dte_p (dt_cmp (fun _ => og_gt) rG_d (dp_var (i := 5) (fun _ => pv 5)) dp_int)) (dwe_or1 (dte_cmp (fun _ => og_gt) rG_d (de_cell (i := 0) (E := L2.E0) (fun _ => pv 0) (dae_p (da_cons dp_int da_nil)) (pe := fun _ _ pa => G.pe_G G_draw hgd (hr.mono (by decide)) (by rfl) T.f_draw.g T.f_draw.F.kp T.f_draw.b L2.pass0 pa)) (de_p dp_int))))))))) (ds_cons (ds_asg (de_ix (de_p (dp_var (i := 7) (fun _ => pv 7))) (de_ix (de_lst (dae_cons (de_p dp_int) (dae_cons (de_p (dp_bin (fun _ => og_sub) rG_d (dp_call (da_cons (dp_var (i := 7) (fun _ => pv 7)) da_nil) len_d (fun _ _ pa => pe_callB call_len_seq (by rfl) T.b_len PySem.boot_len pa)) dp_int)) (dae_cons (de_cell (i := 0) (E := L2.E0) (fun _ => pv 0) (dae_p (da_cons (dp_call (da_cons (dp_var (i := 7) (fun _ => pv 7)) da_nil) len_d (fun _ _ pa => pe_callB call_len_seq (by rfl) T.b_len PySem.boot_len pa)) da_nil)) (pe := fun _ _ pa => G.pe_G G_draw hgd (hr.mono (by decide)) (by rfl) T.f_draw.g T.f_draw.F.kp T.f_draw.b L2.pass0 pa)) dae_nil)))) (de_p (dp_call (da_cons (dp_var (i := 2) (fun _ => pv 2)) (da_cons dp_int da_nil)) min_d (fun _ _ pa => pe_callB (call_min2 rfl) (by rfl) T.b_min (by decide +kernel) pa))) (fun _ _ => rfl)) (fun _ _ => rfl)) (dg_name (fun _ => pg_name hnd rfl (by first | exact Or.inl rfl | exact Or.inr rfl))) (fun _ _ _ pe pg => ps_asg pe pg)) (ds_cons (ds_item (i := 3) (fun _ => pv 3) (de_p (dp_var (i := 5) (fun _ => pv 5))) (de_p (dp_var (i := 8) (fun _ => pv 8))) (fun _ _ _ px pe pk => ps_asg pe (pg_sub px pk set_list))) (ds_one (ds_rem (i := 4) (fun _ => pv 4) (de_p (dp_var (i := 8) (fun _ => pv 8))) (fun _ _ px pe => ps_expr (pe_bm PySem.F.plainAttrs_list PySem.F.slot_list_remove PySem.F.type_list_remove mt_remove px (pa_cons pe pa_nil))))))) ds_nil))) (fun _ => PassesOwn.never)) (ds_one (ds_asg (de_p (dp_bin (fun _ => og_add) rG_d (dp_var (i := 5) (fun _ => pv 5)) dp_int)) (dg_name (fun _ => pg_name hnd rfl (by first | exact Or.inl rfl | exact Or.inr rfl))) (fun _ _ _ pe pg => ps_asg pe pg)))) (fun _ => PassesOwn.never)) (ds_one (ds_retO (i := 3) (fun _ => pv 3))))))
/-! _law_later: level 1, calls [] -/
abbrev N_later : List Str := ["lot", "line", "base", "at", "port", "goal"]
theorem sc_later : FnScope N_later ["lot", "line", "base"] (defScope s_later) := ⟨rfl, rfl, rfl, by decide +kernel, rfl, by decide +kernel, by decide +kernel⟩
def body_later : DSr :=
  (sRet (eP (dTup (dCons (dFreeze (dLc (iL (dVar 0)) (gT 3 (gTc (gN 3) (gTc (gN 4) (gTc (gN 5) gTn)))) dYes (dTup (dCons (dOp gAdd (dVar 3) (dVar 2)) (dCons (dVar 4) (dCons (dVar 5) dNil)))) [3, 4, 5])) (dCons (dFreeze (dLc (iL (dVar 1)) (gN 3) dYes (dOp gAdd (dVar 3) (dVar 2)) [3])) dNil)))))
theorem der_later (T : Txt K mg a) (cdv : Value) (A : Around) (outer : List PySem.Env) (s : Shared) (H : Hp) (E : XK) (hg0 : A.guards = some []) (hr : Room 0 (A.deeper (envOfC "_law_later" (defScope s_later) s.heap.objs.size a.f_later cdv))) :
    DSs K (fun _ : Unit => (cxOf L2.CX0 P w K mg base N_later "_law_later" (defScope s_later) a.f_later cdv A outer s H E).nox) (defBody s_later) (body_later) := by
  have hgd : (A.deeper (envOfC "_law_later" (defScope s_later) s.heap.objs.size a.f_later cdv)).guards = some [] := G.guards_deeper hg0 _
  have hu : (A.deeper (envOfC "_law_later" (defScope s_later) s.heap.objs.size a.f_later cdv)).units + 64 < cLine := by have := hr.un; omega
  have hu1 : (A.deeper (envOfC "_law_later" (defScope s_later) s.heap.objs.size a.f_later cdv)).units + 1 < cLine := by omega
  have hu65 : (A.deeper (envOfC "_law_later" (defScope s_later) s.heap.objs.size a.f_later cdv)).units + 65 < cLine := by have := hr.un; omega
  have hnd : N_later.Nodup := sc_later.nd
  exact ((ds_one (ds_ret (de_p (dp_tup (da_cons (dp_new (dn_lc (own := [("at", 3), ("port", 4), ("goal", 5)]) (di_list (dp_var (i := 0) (fun _ => pv 0))) (dg_tup (dgs_cons (dg_name (fun _ => pg_name hnd rfl (by first | exact Or.inl rfl | exact Or.inr rfl))) (dgs_cons (dg_name (fun _ => pg_name hnd rfl (by first | exact Or.inl rfl | exact Or.inr rfl))) (dgs_cons (dg_name (fun _ => pg_name hnd rfl (by first | exact Or.inl rfl | exact Or.inr rfl))) dgs_nil)))) dts_nil (dp_tup (da_cons (dp_bin (fun _ => og_add) rG_d (dp_var (i := 3) (fun _ => pv 3)) (dp_var (i := 2) (fun _ => pv 2))) (da_cons (dp_var (i := 4) (fun _ => pv 4)) (da_cons (dp_var (i := 5) (fun _ => pv 5)) da_nil)))) (fun _ => blkOk_by (N := N_later) (sc := defScope s_later) (by decide +kernel)) (fun _ => hnd))) (da_cons (dp_new (dn_lc (own := [("at", 3)]) (di_list (dp_var (i := 1) (fun _ => pv 1))) (dg_name (fun _ => pg_name hnd rfl (by first | exact Or.inl rfl | exact Or.inr rfl))) dts_nil (dp_bin (fun _ => og_add) rG_d (dp_var (i := 3) (fun _ => pv 3)) (dp_var (i := 2) (fun _ => pv 2))) (fun _ => blkOk_by (N := N_later) (sc := defScope s_later) (by decide +kernel)) (fun _ => hnd))) da_nil)))))))
/-! _law_beat: level 2, calls ['_law_draw'] -/
abbrev N_beat : List Str := ["source", "top", "beat", "turn"]
theorem sc_beat : FnScope N_beat ["source", "top"] (defScope s_beat) := ⟨rfl, rfl, rfl, by decide +kernel, rfl, by decide +kernel, by decide +kernel⟩
def rs_beat_1 (pr_draw : List D → List D → (D → List D → Prop) → Prop) : DSr :=
  (sRet (eP (dIf (dB (dOp gGt (dCall gSum (dCons (dVar 2) dNil)) (dC (.int 0)))) (dVar 2) (dOp gAdd (dFreeze (dLst (dCons (dC (.int 1)) dNil))) (dVar 2)))))
def body_beat (pr_draw : List D → List D → (D → List D → Prop) → Prop) : DSr :=
  (sSeq (sSet (gN 2) (eFrz (eLc (eiR1 (eCons (eOp gAdd (eP (dC (.int 1))) (eCell 0 pr_draw (eAP (dCons (dC (.int 5)) dNil)))) eNil)) (gN 3) dYes (eCell 0 pr_draw (eAP (dCons (dOp gAdd (dVar 1) (dC (.int 1))) dNil))) [3]))) (rs_beat_1 pr_draw))
theorem der_beat (T : Txt K mg a) {pr_draw : List D → List D → (D → List D → Prop) → Prop} (G_draw : FnG P w K mg base L2.CX0 1 a.f_draw a.fd_draw ["source", "count"] (spC K pr_draw)) (cdv : Value) (A : Around) (outer : List PySem.Env) (s : Shared) (H : Hp) (E : XK) (hg0 : A.guards = some []) (hr : Room 1 (A.deeper (envOfC "_law_beat" (defScope s_beat) s.heap.objs.size a.f_beat cdv))) :
    DSs K (fun _ : Unit => (cxOf L2.CX0 P w K mg base N_beat "_law_beat" (defScope s_beat) a.f_beat cdv A outer s H E).nox) (defBody s_beat) (body_beat pr_draw) := by
  have hgd : (A.deeper (envOfC "_law_beat" (defScope s_beat) s.heap.objs.size a.f_beat cdv)).guards = some [] := G.guards_deeper hg0 _
  have hu : (A.deeper (envOfC "_law_beat" (defScope s_beat) s.heap.objs.size a.f_beat cdv)).units + 64 < cLine := by have := hr.un; omega
  have hu1 : (A.deeper (envOfC "_law_beat" (defScope s_beat) s.heap.objs.size a.f_beat cdv)).units + 1 < cLine := by omega
  have hu65 : (A.deeper (envOfC "_law_beat" (defScope s_beat) s.heap.objs.size a.f_beat cdv)).units + 65 < cLine := by have := hr.un; omega
  have hnd : N_beat.Nodup := sc_beat.nd
  exact ((ds_cons (ds_setES (dens_lc (i := 2) (own := [("turn", 3)]) (dei_range1 (dae_cons (de_bin (fun _ => og_add) rG_d (de_p dp_int) (de_cell (i := 0) (E := L2.E0) (fun _ => pv 0) (dae_p (da_cons dp_int da_nil)) (pe := fun _ _ pa => G.pe_G G_draw hgd (hr.mono (by decide)) (by rfl) T.f_draw.g T.f_draw.F.kp T.f_draw.b L2.pass0 pa))) dae_nil) (fun _ _ pa => pi_range1 (by rfl) T.b_range pa)) (dg_name (fun _ => pg_name hnd rfl (by first | exact Or.inl rfl | exact Or.inr rfl))) dts_nil (de_cell (i := 0) (E := L2.E0) (fun _ => pv 0) (dae_p (da_cons (dp_bin (fun _ => og_add) rG_d (dp_var (i := 1) (fun _ => pv 1)) dp_int) da_nil)) (pe := fun _ _ pa => G.pe_G G_draw hgd (hr.mono (by decide)) (by rfl) T.f_draw.g T.f_draw.F.kp T.f_draw.b L2.pass0 pa)) (fun _ => rfl) (fun _ => rfl) (fun _ => sw_true rfl rfl rfl (by decide +kernel)) (fun _ => blkOk_by (N := N_beat) (sc := defScope s_beat) (by decide +kernel)) (fun _ => hnd))) (ds_one (ds_ret (de_p (dp_if (dt_cmp (fun _ => og_gt) rG_d (dp_call (da_cons (dp_var (i := 2) (fun _ => pv 2)) da_nil) sum_d (fun _ _ pa => pe_callB (cr_sum rfl) (by rfl) T.b_sum (by decide +kernel) pa)) dp_int) (dp_var (i := 2) (fun _ => pv 2)) (dp_bin (fun _ => og_add) rG_d (dp_new (dn_lst (da_cons dp_int da_nil))) (dp_var (i := 2) (fun _ => pv 2)))))))))
/-! _law_right: level 7, calls ['unsure'] -/
abbrev N_right : List Str := ["wide", "lot", "line", "beat", "kept", "due", "k", "part", "told", "many", "at"]
theorem sc_right : FnScope N_right ["wide", "lot", "line", "beat"] (defScope s_right) := ⟨rfl, rfl, rfl, by decide +kernel, rfl, by decide +kernel, by decide +kernel⟩
def rs_right_1 (pr_unsure : List D → (List D → Prop) → Prop) : DSr :=
  (sSeq (sOwn 8 (dCallN pr_unsure (dCons (dVar 0) (dCons (dVar 1) (dCons (dVar 2) (dCons (dVar 3) dNil)))))) (sSeq (sIf (eTP (dPeekT 5 (dPeekT 8 (dB (dOp gNe (dCall gReprS (dCons (dFreeze (dLst (dCons (dVar 8) (dCons (dFreeze (dCallNK 4 (fun {_} zs => match zs with | [x0, x1, x2, x3] => [x3, x2, x1, x0] | _ => []) pr_unsure (dCons (dVar 3) (dCons (dVar 2) (dCons (dVar 1) (dCons (dVar 0) dNil)))))) dNil)))) dNil)) (dCall gReprS (dCons (dFreeze (dLst (dCons (dVar 5) (dCons (dVar 5) dNil)))) dNil))))))) (sRet (eP (dC (.bool false)))) sNext) (sSeq (sApp 8 (eP (dC .none))) (sRet (eP (dPeek 5 (dAndV (dOp gEq (dFreeze (dCallN pr_unsure (dCons (dVar 0) (dCons (dVar 1) (dCons (dVar 2) (dCons (dVar 3) dNil)))))) (dVar 5)) (dOp gEq (dCall gReprS (dCons (dFreeze (dLst (dCons (dVar 1) (dCons (dVar 2) (dCons (dVar 3) dNil))))) dNil)) (dVar 4)))))))))
def lp_right_1 (pr_unsure : List D → (List D → Prop) → Prop) : DSr :=
  (sSeq (sSet (gN 9) (eP (dCall gSum (dCons (dFreeze (dLc (iR2w (dCons (dOp gIx (dVar 7) (dC (.int 0))) (dCons (dOp gAdd (dOp gIx (dVar 2) (dVar 6)) (dC (.int 1))) dNil))) (gN 10) dYes (dOp gIx (dVar 3) (dOp gMod (dCall gInt1 (dCons (dVar 10) dNil)) (dCall gLen (dCons (dVar 3) dNil)))) [10])) dNil)))) (sIf (eTP (dB (dOp gLt (dVar 9) (dOp gSub (dOp gMul (dC (.int 2)) (dOp gAdd (dOp gSub (dOp gIx (dVar 2) (dVar 6)) (dOp gIx (dVar 7) (dC (.int 0)))) (dC (.int 1)))) (dC (.int 1)))))) (sApp 5 (eP (dVar 6))) sNext))
def body_right (pr_unsure : List D → (List D → Prop) → Prop) : DSr :=
  (sSeq (sMany [4, 5] (emP (mDat (dCall gReprS (dCons (dFreeze (dLst (dCons (dVar 1) (dCons (dVar 2) (dCons (dVar 3) dNil))))) dNil)) (mOwn (dLst dNil) mNil)))) (sSeq (sFor (iE (dCons (dVar 1) dNil)) (gT 2 (gTc (gN 6) (gTc (gN 7) gTn))) (lp_right_1 pr_unsure)) (rs_right_1 pr_unsure)))
theorem der_right (T : Txt K mg a) {pr_unsure : List D → (List D → Prop) → Prop} (G_unsure : FnG P w K mg base L2.CX0 6 a.f_unsure a.fd_unsure ["size", "cells", "row", "rhythm"] (spN K pr_unsure)) (cdv : Value) (A : Around) (outer : List PySem.Env) (s : Shared) (H : Hp) (E : XK) (hg0 : A.guards = some []) (hr : Room 6 (A.deeper (envOfC "_law_right" (defScope s_right) s.heap.objs.size a.f_right cdv))) :
    DSs K (fun _ : Unit => (cxOf L2.CX0 P w K mg base N_right "_law_right" (defScope s_right) a.f_right cdv A outer s H E).nox) (defBody s_right) (body_right pr_unsure) := by
  have hgd : (A.deeper (envOfC "_law_right" (defScope s_right) s.heap.objs.size a.f_right cdv)).guards = some [] := G.guards_deeper hg0 _
  have hu : (A.deeper (envOfC "_law_right" (defScope s_right) s.heap.objs.size a.f_right cdv)).units + 64 < cLine := by have := hr.un; omega
  have hu1 : (A.deeper (envOfC "_law_right" (defScope s_right) s.heap.objs.size a.f_right cdv)).units + 1 < cLine := by omega
  have hu65 : (A.deeper (envOfC "_law_right" (defScope s_right) s.heap.objs.size a.f_right cdv)).units + 65 < cLine := by have := hr.un; omega
  have hnd : N_right.Nodup := sc_right.nd
  exact ((ds_cons (ds_par2 (dem_p (dm_dat (dp_call (da_cons (dp_new (dn_lst (da_cons (dp_var (i := 1) (fun _ => pv 1)) (da_cons (dp_var (i := 2) (fun _ => pv 2)) (da_cons (dp_var (i := 3) (fun _ => pv 3)) da_nil))))) da_nil) repr_d (fun _ _ pa => pe_callB (call_repr hgd hu) (by rfl) T.b_repr (by decide +kernel) pa)) (dm_own (dn_lst da_nil) dm_nil))) (by decide) (fun _ _ pa => ps_par rfl hnd rfl rfl (by decide) rfl rfl pa (by rfl))) (ds_cons (ds_for (di_enum (da_cons (dp_var (i := 1) (fun _ => pv 1)) da_nil) (fun _ _ pa => pi_enum (by rfl) T.b_enumerate pa)) (dg_tup (dgs_cons (dg_name (fun _ => pg_name hnd rfl (by first | exact Or.inl rfl | exact Or.inr rfl))) (dgs_cons (dg_name (fun _ => pg_name hnd rfl (by first | exact Or.inl rfl | exact Or.inr rfl))) dgs_nil))) (ds_cons (ds_asg (de_p (dp_call (da_cons (dp_new (dn_lc (own := [("at", 10)]) (di_range2w (da_cons (dp_ix (dp_var (i := 7) (fun _ => pv 7)) dp_int (fun _ _ => rfl)) (da_cons (dp_bin (fun _ => og_add) rG_d (dp_ix (dp_var (i := 2) (fun _ => pv 2)) (dp_var (i := 6) (fun _ => pv 6)) (fun _ _ => rfl)) dp_int) da_nil)) (fun _ _ pa => Ez.pi_range2w (by rfl) T.b_range pa)) (dg_name (fun _ => pg_name hnd rfl (by first | exact Or.inl rfl | exact Or.inr rfl))) dts_nil (dp_ix (dp_var (i := 3) (fun _ => pv 3)) (dp_bin (fun _ => og_mod) rG_d (dp_call (da_cons (dp_var (i := 10) (fun _ => pv 10)) da_nil) int1_d (fun _ _ pa => pe_callTy call_int1 (by rfl) T.b_int (by decide +kernel) pa)) (dp_call (da_cons (dp_var (i := 3) (fun _ => pv 3)) da_nil) len_d (fun _ _ pa => pe_callB call_len_seq (by rfl) T.b_len PySem.boot_len pa))) (fun _ _ => rfl)) (fun _ => blkOk_by (N := N_right) (sc := defScope s_right) (by decide +kernel)) (fun _ => hnd))) da_nil) sum_d (fun _ _ pa => pe_callB (cr_sum rfl) (by rfl) T.b_sum (by decide +kernel) pa))) (dg_name (fun _ => pg_name hnd rfl (by first | exact Or.inl rfl | exact Or.inr rfl))) (fun _ _ _ pe pg => ps_asg pe pg)) (ds_one (ds_if (dte_p (dt_cmp (fun _ => og_lt) rG_d (dp_var (i := 9) (fun _ => pv 9)) (dp_bin (fun _ => og_sub) rG_d (dp_bin (fun _ => og_mul) rG_d dp_int (dp_bin (fun _ => og_add) rG_d (dp_bin (fun _ => og_sub) rG_d (dp_ix (dp_var (i := 2) (fun _ => pv 2)) (dp_var (i := 6) (fun _ => pv 6)) (fun _ _ => rfl)) (dp_ix (dp_var (i := 7) (fun _ => pv 7)) dp_int (fun _ _ => rfl))) dp_int)) dp_int))) (ds_one (ds_app (i := 5) (fun _ => pv 5) (de_p (dp_var (i := 6) (fun _ => pv 6))) (fun _ _ px pe => ps_expr (pe_bm PySem.F.plainAttrs_list PySem.F.slot_list_append PySem.F.type_list_append mt_append px (pa_cons pe pa_nil))))) ds_nil))) (fun _ => PassesOwn.never)) (ds_cons (ds_own (i := 8) (dn_fn (E := L2.E0) (da_cons (dp_var (i := 0) (fun _ => pv 0)) (da_cons (dp_var (i := 1) (fun _ => pv 1)) (da_cons (dp_var (i := 2) (fun _ => pv 2)) (da_cons (dp_var (i := 3) (fun _ => pv 3)) da_nil)))) (fun _ _ pa => G.pe_G G_unsure hgd (hr.mono (by decide)) (by rfl) T.f_unsure.g T.f_unsure.F.kp T.f_unsure.b L2.pass0 pa)) (fun _ _ pe => ps_set hnd rfl (by first | exact Or.inl rfl | exact Or.inr rfl) pe)) (ds_cons (ds_if (dte_p (dt_peek 5 (dt_peek 8 (dt_cmp (fun _ => (og_ne hu)) rG_d (dp_call (da_cons (dp_new (dn_lst (da_cons (dp_var (i := 8) (fun _ => pv 8)) (da_cons (dp_new (dn_fnK (E := L2.E0) (ks := ["rhythm", "row", "cells", "size"]) (dk_cons (dp_var (i := 3) (fun _ => pv 3)) (dk_cons (dp_var (i := 2) (fun _ => pv 2)) (dk_cons (dp_var (i := 1) (fun _ => pv 1)) (dk_cons (dp_var (i := 0) (fun _ => pv 0)) dk_nil)))) (fun hl r => by
    cases r with
    | nil => cases hl
    | cons r0 r =>
      cases r with
      | nil => cases hl
      | cons r1 r =>
        cases r with
        | nil => cases hl
        | cons r2 r =>
          cases r with
          | nil => cases hl
          | cons r3 r =>
            cases r with
            | cons _ _ => simp at hl
            | nil => exact (.cons r3 (.cons r2 (.cons r1 (.cons r0 .nil))))) (fun _ _ pa => pe_GK G_unsure hgd (hr.mono (by decide)) (by rfl) T.f_unsure.g T.f_unsure.F.kp (KW_unsure_rhythm_row_cells_size T) L2.pass0 pa))) da_nil)))) da_nil) repr_d (fun _ _ pa => pe_callB (call_repr hgd hu) (by rfl) T.b_repr (by decide +kernel) pa)) (dp_call (da_cons (dp_new (dn_lst (da_cons (dp_var (i := 5) (fun _ => pv 5)) (da_cons (dp_var (i := 5) (fun _ => pv 5)) da_nil)))) da_nil) repr_d (fun _ _ pa => pe_callB (call_repr hgd hu) (by rfl) T.b_repr (by decide +kernel) pa)))))) (ds_one (ds_ret (de_p dp_bl))) ds_nil) (ds_cons (ds_app (i := 8) (fun _ => pv 8) (de_p dp_non) (fun _ _ px pe => ps_expr (pe_bm PySem.F.plainAttrs_list PySem.F.slot_list_append PySem.F.type_list_append mt_append px (pa_cons pe pa_nil)))) (ds_one (ds_ret (de_p (dp_peek 5 (dp_and (dp_cmp (fun _ => (og_eq hu)) rG_d (dp_new (dn_fn (E := L2.E0) (da_cons (dp_var (i := 0) (fun _ => pv 0)) (da_cons (dp_var (i := 1) (fun _ => pv 1)) (da_cons (dp_var (i := 2) (fun _ => pv 2)) (da_cons (dp_var (i := 3) (fun _ => pv 3)) da_nil)))) (fun _ _ pa => G.pe_G G_unsure hgd (hr.mono (by decide)) (by rfl) T.f_unsure.g T.f_unsure.F.kp T.f_unsure.b L2.pass0 pa))) (dp_var (i := 5) (fun _ => pv 5))) (dp_one (dp_cmp (fun _ => (og_eq hu)) rG_d (dp_call (da_cons (dp_new (dn_lst (da_cons (dp_var (i := 1) (fun _ => pv 1)) (da_cons (dp_var (i := 2) (fun _ => pv 2)) (da_cons (dp_var (i := 3) (fun _ => pv 3)) da_nil))))) da_nil) repr_d (fun _ _ pa => pe_callB (call_repr hgd hu) (by rfl) T.b_repr (by decide +kernel) pa)) (dp_var (i := 4) (fun _ => pv 4)))))))))))))))
/-! law: level 8, calls ['_law_beat', '_law_draw', '_law_later', '_law_line', '_law_lot', '_law_right', '_law_source', 'unsure'] -/
abbrev N_law : List Str := ["script", "k", "cell", "three", "told", "source", "turn", "wide", "lot", "line", "beat", "far", "late", "single", "j", "part", "turn_here"]
theorem sc_law : FnScope N_law ["script"] (defScope s_law) := ⟨rfl, rfl, rfl, by decide +kernel, rfl, by decide +kernel, by decide +kernel⟩
def rs_law_1 (pr_beat : List D → List D → (D → List D → Prop) → Prop) (pr_draw : List D → List D → (D → List D → Prop) → Prop) (pr_later : List D → (D → Prop) → Prop) (pr_line : List D → List D → (D → List D → Prop) → Prop) (pr_lot : List D → List D → (D → List D → Prop) → Prop) (pr_right : List D → (D → Prop) → Prop) (pr_source : List D → (List D → Prop) → Prop) (pr_unsure : List D → (List D → Prop) → Prop) : DSr :=
  (sSeq (sSet (gN 3) (eP (dFreeze (dLst (dCons (dTup (dCons (dC (.int 0)) (dCons (dC (.int 0)) (dCons (dC (.int 0)) dNil)))) (dCons (dTup (dCons (dC (.int 0)) (dCons (dC (.int 1)) (dCons (dC (.int 0)) dNil)))) (dCons (dTup (dCons (dC (.int 1)) (dCons (dC (.int 1)) (dCons (dC (.int 1)) dNil)))) dNil))))))) (sSeq (sSet (gN 4) (eP (dFreeze (dLc (iT (dTup (dCons (dFreeze (dLst (dCons (dC (.int 1)) dNil))) (dCons (dFreeze (dLst (dCons (dC (.int 1)) (dCons (dC (.int 2)) dNil)))) (dCons (dFreeze (dLst (dCons (dC (.int 2)) (dCons (dC (.int 1)) dNil)))) (dCons (dFreeze (dLst (dCons (dC (.int 2)) dNil))) dNil)))))) (gN 10) dYes (dFreeze (dCallN pr_unsure (dCons (dC (.int 2)) (dCons (dVar 3) (dCons (dFreeze (dLst (dCons (dC (.int 0)) (dCons (dC (.int 1)) (dCons (dC (.int 1)) dNil))))) (dCons (dVar 10) dNil)))))) [10])))) (sRet (eP (dAndV (dOp gEq (dVar 4) (dFreeze (dLst (dCons (dFreeze (dLst (dCons (dC (.int 1)) dNil))) (dCons (dFreeze (dLst dNil)) (dCons (dFreeze (dLst dNil)) (dCons (dFreeze (dLst dNil)) dNil))))))) (dOp gEq (dFreeze (dCallN pr_unsure (dCons (dC (.int 1)) (dCons (dFreeze (dLst dNil)) (dCons (dFreeze (dLst dNil)) (dCons (dFreeze (dLst (dCons (dC (.int 0)) dNil))) dNil)))))) (dFreeze (dLst dNil))))))))
def rs_law_2 (pr_beat : List D → List D → (D → List D → Prop) → Prop) (pr_draw : List D → List D → (D → List D → Prop) → Prop) (pr_later : List D → (D → Prop) → Prop) (pr_line : List D → List D → (D → List D → Prop) → Prop) (pr_lot : List D → List D → (D → List D → Prop) → Prop) (pr_right : List D → (D → Prop) → Prop) (pr_source : List D → (List D → Prop) → Prop) (pr_unsure : List D → (List D → Prop) → Prop) : DSr :=
  (sSeq (sIf (eTP (dNot (dB (dCall pr_right (dCons (dVar 7) (dCons (dVar 8) (dCons (dVar 9) (dCons (dVar 10) dNil)))))))) (sRet (eP (dC (.bool false)))) sNext) (sSeq (sSet (gT 2 (gTc (gN 11) (gTc (gN 12) gTn))) (eCall pr_later (eCons (eP (dVar 8)) (eCons (eP (dVar 9)) (eCons (eOp gAdd (eP (dOp gPow (dC (.int 10)) (dC (.int 29)))) (eCell 5 pr_draw (eAP (dCons (dOp gPow (dC (.int 10)) (dC (.int 20))) dNil)))) eNil))))) (sSeq (sIf (eTP (dNot (dB (dCall pr_right (dCons (dVar 7) (dCons (dVar 11) (dCons (dVar 12) (dCons (dVar 10) dNil)))))))) (sRet (eP (dC (.bool false)))) sNext) (sSeq (sSet (gN 13) (eP (dFreeze (dLc (iE (dCons (dVar 8) dNil)) (gT 2 (gTc (gN 14) (gTc (gN 15) gTn))) (dB (dOp gGt (dOp gIx (dVar 9) (dVar 14)) (dOp gIx (dVar 15) (dC (.int 0))))) (dVar 14) [14, 15])))) (sIf (eTP (dOr (dB (dOp gNe (dFreeze (dCallN pr_unsure (dCons (dVar 7) (dCons (dVar 8) (dCons (dVar 9) (dCons (dFreeze (dLst (dCons (dC (.int 1)) dNil))) dNil)))))) (dVar 13))) (dB (dOp gNe (dFreeze (dCallN pr_unsure (dCons (dVar 7) (dCons (dVar 8) (dCons (dVar 9) (dCons (dFreeze (dLst (dCons (dC (.int 2)) dNil))) dNil)))))) (dFreeze (dLst dNil)))))) (sRet (eP (dC (.bool false)))) sNext)))))
def lp_law_1 (pr_beat : List D → List D → (D → List D → Prop) → Prop) (pr_draw : List D → List D → (D → List D → Prop) → Prop) (pr_later : List D → (D → Prop) → Prop) (pr_line : List D → List D → (D → List D → Prop) → Prop) (pr_lot : List D → List D → (D → List D → Prop) → Prop) (pr_right : List D → (D → Prop) → Prop) (pr_source : List D → (List D → Prop) → Prop) (pr_unsure : List D → (List D → Prop) → Prop) : DSr :=
  (sSeq (sSet (gN 7) (eOp gAdd (eP (dC (.int 1))) (eCell 5 pr_draw (eAP (dCons (dC (.int 8)) dNil))))) (sSeq (sSet (gN 8) (eCell 5 pr_lot (eCons (eP (dVar 7)) (eCons (eOp gAdd (eP (dC (.int 1))) (eCell 5 pr_draw (eAP (dCons (dOp gIx (dFreeze (dLst (dCons (dC (.int 4)) (dCons (dC (.int 30)) dNil)))) (dCall gInt1 (dCons (dOp gNe (dVar 0) (dFreeze (dLst dNil))) dNil))) dNil)))) eNil)))) (sSeq (sMany [9, 10] (emE (eCell 5 pr_line (eCons (eP (dVar 8)) (eCons (eCell 5 pr_draw (eAP (dCons (dC (.int 4)) dNil))) eNil))) (emE (eCell 5 pr_beat (eAP (dCons (dC (.int 3)) dNil))) (emP mNil)))) (sSeq (sIf (eB (eOp gEq (eCell 5 pr_draw (eAP (dCons (dC (.int 2)) dNil))) (eP (dC (.int 0))))) (sSet (gN 10) (eFrz (eLc (eiR1 (eCons (eOp gAdd (eP (dC (.int 1))) (eCell 5 pr_draw (eAP (dCons (dC (.int 12)) dNil)))) eNil)) (gN 16) dYes (eOp gSub (eP (dC (.int 2))) (eCall gInt1 (eCons (eOp gEq (eCell 5 pr_draw (eAP (dCons (dC (.int 3)) dNil))) (eP (dC (.int 0)))) eNil))) [16]))) sNext) (rs_law_2 pr_beat pr_draw pr_later pr_line pr_lot pr_right pr_source pr_unsure)))))
def lp_law_2 (pr_beat : List D → List D → (D → List D → Prop) → Prop) (pr_draw : List D → List D → (D → List D → Prop) → Prop) (pr_later : List D → (D → Prop) → Prop) (pr_line : List D → List D → (D → List D → Prop) → Prop) (pr_lot : List D → List D → (D → List D → Prop) → Prop) (pr_right : List D → (D → Prop) → Prop) (pr_source : List D → (List D → Prop) → Prop) (pr_unsure : List D → (List D → Prop) → Prop) : DSr :=
  (sSeq (sOwn 5 (dCallN pr_source (dCons (dVar 2) (dCons (dVar 1) dNil)))) (sFor (iR1 (dCons (dC (.int 2)) dNil)) (gN 6) (lp_law_1 pr_beat pr_draw pr_later pr_line pr_lot pr_right pr_source pr_unsure)))
def body_law (pr_beat : List D → List D → (D → List D → Prop) → Prop) (pr_draw : List D → List D → (D → List D → Prop) → Prop) (pr_later : List D → (D → Prop) → Prop) (pr_line : List D → List D → (D → List D → Prop) → Prop) (pr_lot : List D → List D → (D → List D → Prop) → Prop) (pr_right : List D → (D → Prop) → Prop) (pr_source : List D → (List D → Prop) → Prop) (pr_unsure : List D → (List D → Prop) → Prop) : DSr :=
  (sSeq (sFor (iE (dCons (dSl (dOp gAdd (dVar 0) (dFreeze (dLst (dCons (dC (.int 0)) dNil)))) dNoPart (dPart (dCall gMax2 (dCons (dC (.int 1)) (dCons (dCall gMin2 (dCons (dCall gLen (dCons (dVar 0) dNil)) (dCons (dC (.int 8)) dNil))) dNil))))) dNil)) (gT 2 (gTc (gN 1) (gTc (gN 2) gTn))) (lp_law_2 pr_beat pr_draw pr_later pr_line pr_lot pr_right pr_source pr_unsure)) (rs_law_1 pr_beat pr_draw pr_later pr_line pr_lot pr_right pr_source pr_unsure))
theorem der_law (T : Txt K mg a) {pr_beat : List D → List D → (D → List D → Prop) → Prop} (G_beat : FnG P w K mg base L2.CX0 2 a.f_beat a.fd_beat ["source", "top"] (spC K pr_beat)) {pr_draw : List D → List D → (D → List D → Prop) → Prop} (G_draw : FnG P w K mg base L2.CX0 1 a.f_draw a.fd_draw ["source", "count"] (spC K pr_draw)) {pr_later : List D → (D → Prop) → Prop} (G_later : FnG P w K mg base L2.CX0 1 a.f_later a.fd_later ["lot", "line", "base"] (spP K pr_later)) {pr_line : List D → List D → (D → List D → Prop) → Prop} (G_line : FnG P w K mg base L2.CX0 2 a.f_line a.fd_line ["source", "lot", "way"] (spC K pr_line)) {pr_lot : List D → List D → (D → List D → Prop) → Prop} (G_lot : FnG P w K mg base L2.CX0 2 a.f_lot a.fd_lot ["source", "wide", "span"] (spC K pr_lot)) {pr_right : List D → (D → Prop) → Prop} (G_right : FnG P w K mg base L2.CX0 7 a.f_right a.fd_right ["wide", "lot", "line", "beat"] (spP K pr_right)) {pr_source : List D → (List D → Prop) → Prop} (G_source : FnG P w K mg base L2.CX0 1 a.f_source a.fd_source ["cell", "k"] (spN K pr_source)) {pr_unsure : List D → (List D → Prop) → Prop} (G_unsure : FnG P w K mg base L2.CX0 6 a.f_unsure a.fd_unsure ["size", "cells", "row", "rhythm"] (spN K pr_unsure)) (cdv : Value) (A : Around) (outer : List PySem.Env) (s : Shared) (H : Hp) (E : XK) (hg0 : A.guards = some []) (hr : Room 7 (A.deeper (envOfC "law" (defScope s_law) s.heap.objs.size a.f_law cdv))) :
    DSs K (fun _ : Unit => (cxOf L2.CX0 P w K mg base N_law "law" (defScope s_law) a.f_law cdv A outer s H E).nox) (defBody s_law) (body_law pr_beat pr_draw pr_later pr_line pr_lot pr_right pr_source pr_unsure) := by
  have hgd : (A.deeper (envOfC "law" (defScope s_law) s.heap.objs.size a.f_law cdv)).guards = some [] := G.guards_deeper hg0 _
  have hu : (A.deeper (envOfC "law" (defScope s_law) s.heap.objs.size a.f_law cdv)).units + 64 < cLine := by have := hr.un; omega
  have hu1 : (A.deeper (envOfC "law" (defScope s_law) s.heap.objs.size a.f_law cdv)).units + 1 < cLine := by omega
  have hu65 : (A.deeper (envOfC "law" (defScope s_law) s.heap.objs.size a.f_law cdv)).units + 65 < cLine := by have := hr.un; omega
  have hnd : N_law.Nodup := sc_law.nd
  exact ((ds_cons (ds_for (di_enum (da_cons (dp_slice (dp_bin (fun _ => og_add) rG_d (dp_var (i := 0) (fun _ => pv 0)) (dp_new (dn_lst (da_cons dp_int da_nil)))) do_none (do_some (dp_call (da_cons dp_int (da_cons (dp_call (da_cons (dp_call (da_cons (dp_var (i := 0) (fun _ => pv 0)) da_nil) len_d (fun _ _ pa => pe_callB call_len_seq (by rfl) T.b_len PySem.boot_len pa)) (da_cons dp_int da_nil)) min_d (fun _ _ pa => pe_callB (call_min2 rfl) (by rfl) T.b_min (by decide +kernel) pa)) da_nil)) max_d (fun _ _ pa => pe_callB (call_max2 rfl) (by rfl) T.b_max (by decide +kernel) pa)))) da_nil) (fun _ _ pa => pi_enum (by rfl) T.b_enumerate pa)) (dg_tup (dgs_cons (dg_name (fun _ => pg_name hnd rfl (by first | exact Or.inl rfl | exact Or.inr rfl))) (dgs_cons (dg_name (fun _ => pg_name hnd rfl (by first | exact Or.inl rfl | exact Or.inr rfl))) dgs_nil))) (ds_cons (ds_own (i := 5) (dn_fn (E := L2.E0) (da_cons (dp_var (i := 2) (fun _ => pv 2)) (da_cons (dp_var (i := 1) (fun _ => pv 1)) da_nil)) (fun _ _ pa => G.pe_G G_source hgd (hr.mono (by decide)) (by rfl) T.f_source.g T.f_source.F.kp T.f_source.b L2.pass0 pa)) (fun _ _ pe => ps_set hnd rfl (by first | exact Or.inl rfl | exact Or.inr rfl) pe)) (ds_one (ds_for (di_range1 (da_cons dp_int da_nil) (fun _ _ pa => pi_range1 (by rfl) T.b_range pa)) (dg_name (fun _ => pg_name hnd rfl (by first | exact Or.inl rfl | exact Or.inr rfl))) (ds_cons (ds_asg (de_bin (fun _ => og_add) rG_d (de_p dp_int) (de_cell (i := 5) (E := L2.E0) (fun _ => pv 5) (dae_p (da_cons dp_int da_nil)) (pe := fun _ _ pa => G.pe_G G_draw hgd (hr.mono (by decide)) (by rfl) T.f_draw.g T.f_draw.F.kp T.f_draw.b L2.pass0 pa))) (dg_name (fun _ => pg_name hnd rfl (by first | exact Or.inl rfl | exact Or.inr rfl))) (fun _ _ _ pe pg => ps_asg pe pg)) (ds_cons (ds_asg (de_cell (i := 5) (E := L2.E0) (fun _ => pv 5) (dae_cons (de_p (dp_var (i := 7) (fun _ => pv 7))) (dae_cons (de_bin (fun _ => og_add) rG_d (de_p dp_int) (de_cell (i := 5) (E := L2.E0) (fun _ => pv 5) (dae_p (da_cons (dp_ix (dp_new (dn_lst (da_cons dp_int (da_cons dp_int da_nil)))) (dp_call (da_cons (dp_cmp (fun _ => (og_ne hu)) rG_d (dp_var (i := 0) (fun _ => pv 0)) (dp_new (dn_lst da_nil))) da_nil) int1_d (fun _ _ pa => pe_callTy call_int1 (by rfl) T.b_int (by decide +kernel) pa)) (fun _ _ => rfl)) da_nil)) (pe := fun _ _ pa => G.pe_G G_draw hgd (hr.mono (by decide)) (by rfl) T.f_draw.g T.f_draw.F.kp T.f_draw.b L2.pass0 pa))) dae_nil)) (pe := fun _ _ pa => G.pe_G G_lot hgd (hr.mono (by decide)) (by rfl) T.f_lot.g T.f_lot.F.kp T.f_lot.b L2.pass0 pa)) (dg_name (fun _ => pg_name hnd rfl (by first | exact Or.inl rfl | exact Or.inr rfl))) (fun _ _ _ pe pg => ps_asg pe pg)) (ds_cons (ds_many (is := [9, 10]) (dem_e (de_cell (i := 5) (E := L2.E0) (fun _ => pv 5) (dae_cons (de_p (dp_var (i := 8) (fun _ => pv 8))) (dae_cons (de_cell (i := 5) (E := L2.E0) (fun _ => pv 5) (dae_p (da_cons dp_int da_nil)) (pe := fun _ _ pa => G.pe_G G_draw hgd (hr.mono (by decide)) (by rfl) T.f_draw.g T.f_draw.F.kp T.f_draw.b L2.pass0 pa)) dae_nil)) (pe := fun _ _ pa => G.pe_G G_line hgd (hr.mono (by decide)) (by rfl) T.f_line.g T.f_line.F.kp T.f_line.b L2.pass0 pa)) (dem_e (de_cell (i := 5) (E := L2.E0) (fun _ => pv 5) (dae_p (da_cons dp_int da_nil)) (pe := fun _ _ pa => G.pe_G G_beat hgd (hr.mono (by decide)) (by rfl) T.f_beat.g T.f_beat.F.kp T.f_beat.b L2.pass0 pa)) (dem_p dm_nil))) (by decide) (by decide) (fun _ _ pa => ps_asg (pe_tup pa) (pg_tup (n := 2) rfl (pgs_cons (pg_name hnd rfl (by first | exact Or.inl rfl | exact Or.inr rfl)) (pgs_cons (pg_name hnd rfl (by first | exact Or.inl rfl | exact Or.inr rfl)) pgs_nil))))) (ds_cons (ds_if (dte_cmp (fun _ => (og_eq hu)) rG_d (de_cell (i := 5) (E := L2.E0) (fun _ => pv 5) (dae_p (da_cons dp_int da_nil)) (pe := fun _ _ pa => G.pe_G G_draw hgd (hr.mono (by decide)) (by rfl) T.f_draw.g T.f_draw.F.kp T.f_draw.b L2.pass0 pa)) (de_p dp_int)) (ds_one (ds_setES (dens_lc (i := 10) (own := [("turn_here", 16)]) (dei_range1 (dae_cons (de_bin (fun _ => og_add) rG_d (de_p dp_int) (de_cell (i := 5) (E := L2.E0) (fun _ => pv 5) (dae_p (da_cons dp_int da_nil)) (pe := fun _ _ pa => G.pe_G G_draw hgd (hr.mono (by decide)) (by rfl) T.f_draw.g T.f_draw.F.kp T.f_draw.b L2.pass0 pa))) dae_nil) (fun _ _ pa => pi_range1 (by rfl) T.b_range pa)) (dg_name (fun _ => pg_name hnd rfl (by first | exact Or.inl rfl | exact Or.inr rfl))) dts_nil (de_bin (fun _ => og_sub) rG_d (de_p dp_int) (de_call (dae_cons (de_cmp (fun _ => (og_eq hu)) rG_d (de_cell (i := 5) (E := L2.E0) (fun _ => pv 5) (dae_p (da_cons dp_int da_nil)) (pe := fun _ _ pa => G.pe_G G_draw hgd (hr.mono (by decide)) (by rfl) T.f_draw.g T.f_draw.F.kp T.f_draw.b L2.pass0 pa)) (de_p dp_int)) dae_nil) int1_d (fun _ _ pa => pe_callTy call_int1 (by rfl) T.b_int (by decide +kernel) pa))) (fun _ => rfl) (fun _ => rfl) (fun _ => sw_true rfl rfl rfl (by decide +kernel)) (fun _ => blkOk_by (N := N_law) (sc := defScope s_law) (by decide +kernel)) (fun _ => hnd)))) ds_nil) (ds_cons (ds_if (dte_p (dt_not (dt_val (dp_fn (E := L2.E0) (da_cons (dp_var (i := 7) (fun _ => pv 7)) (da_cons (dp_var (i := 8) (fun _ => pv 8)) (da_cons (dp_var (i := 9) (fun _ => pv 9)) (da_cons (dp_var (i := 10) (fun _ => pv 10)) da_nil)))) (fun _ _ pa => G.pe_G G_right hgd (hr.mono (by decide)) (by rfl) T.f_right.g T.f_right.F.kp T.f_right.b L2.pass0 pa))))) (ds_one (ds_ret (de_p dp_bl))) ds_nil) (ds_cons (ds_asg (de_fn (E := L2.E0) (dae_cons (de_p (dp_var (i := 8) (fun _ => pv 8))) (dae_cons (de_p (dp_var (i := 9) (fun _ => pv 9))) (dae_cons (de_bin (fun _ => og_add) rG_d (de_p (dp_bin (fun _ => og_pow) rG_d dp_int dp_int)) (de_cell (i := 5) (E := L2.E0) (fun _ => pv 5) (dae_p (da_cons (dp_bin (fun _ => og_pow) rG_d dp_int dp_int) da_nil)) (pe := fun _ _ pa => G.pe_G G_draw hgd (hr.mono (by decide)) (by rfl) T.f_draw.g T.f_draw.F.kp T.f_draw.b L2.pass0 pa))) dae_nil))) (fun _ _ pa => G.pe_G G_later hgd (hr.mono (by decide)) (by rfl) T.f_later.g T.f_later.F.kp T.f_later.b L2.pass0 pa)) (dg_tup (dgs_cons (dg_name (fun _ => pg_name hnd rfl (by first | exact Or.inl rfl | exact Or.inr rfl))) (dgs_cons (dg_name (fun _ => pg_name hnd rfl (by first | exact Or.inl rfl | exact Or.inr rfl))) dgs_nil))) (fun _ _ _ pe pg => ps_asg pe pg)) (ds_cons (ds_if (dte_p (dt_not (dt_val (dp_fn (E := L2.E0) (da_cons (dp_var (i := 7) (fun _ => pv 7)) (da_cons (dp_var (i := 11) (fun _ => pv 11)) (da_cons (dp_var (i := 12) (fun _ => pv 12)) (da_cons (dp_var (i := 10) (fun _ => pv 10)) da_nil)))) (fun _ _ pa => G.pe_G G_right hgd (hr.mono (by decide)) (by rfl) T.f_right.g T.f_right.F.kp T.f_right.b L2.pass0 pa))))) (ds_one (ds_ret (de_p dp_bl))) ds_nil) (ds_cons (ds_setS (dns_lc (i := 13) (own := [("j", 14), ("part", 15)]) (di_enum (da_cons (dp_var (i := 8) (fun _ => pv 8)) da_nil) (fun _ _ pa => pi_enum (by rfl) T.b_enumerate pa)) (dg_tup (dgs_cons (dg_name (fun _ => pg_name hnd rfl (by first | exact Or.inl rfl | exact Or.inr rfl))) (dgs_cons (dg_name (fun _ => pg_name hnd rfl (by first | exact Or.inl rfl | exact Or.inr rfl))) dgs_nil))) (dts_one (dt_cmp (fun _ => og_gt) rG_d (dp_ix (dp_var (i := 9) (fun _ => pv 9)) (dp_var (i := 14) (fun _ => pv 14)) (fun _ _ => rfl)) (dp_ix (dp_var (i := 15) (fun _ => pv 15)) dp_int (fun _ _ => rfl)))) (dp_var (i := 14) (fun _ => pv 14)) (fun _ => rfl) (fun _ => rfl) (fun _ => sw_true rfl rfl rfl (by decide +kernel)) (fun _ => blkOk_by (N := N_law) (sc := defScope s_law) (by decide +kernel)) (fun _ => hnd))) (ds_one (ds_if (dte_p (DW.t (dw_or (dt_cmp (fun _ => (og_ne hu)) rG_d (dp_new (dn_fn (E := L2.E0) (da_cons (dp_var (i := 7) (fun _ => pv 7)) (da_cons (dp_var (i := 8) (fun _ => pv 8)) (da_cons (dp_var (i := 9) (fun _ => pv 9)) (da_cons (dp_new (dn_lst (da_cons dp_int da_nil))) da_nil)))) (fun _ _ pa => G.pe_G G_unsure hgd (hr.mono (by decide)) (by rfl) T.f_unsure.g T.f_unsure.F.kp T.f_unsure.b L2.pass0 pa))) (dp_var (i := 13) (fun _ => pv 13))) (dw_or1 (dt_cmp (fun _ => (og_ne hu)) rG_d (dp_new (dn_fn (E := L2.E0) (da_cons (dp_var (i := 7) (fun _ => pv 7)) (da_cons (dp_var (i := 8) (fun _ => pv 8)) (da_cons (dp_var (i := 9) (fun _ => pv 9)) (da_cons (dp_new (dn_lst (da_cons dp_int da_nil))) da_nil)))) (fun _ _ pa => G.pe_G G_unsure hgd (hr.mono (by decide)) (by rfl) T.f_unsure.g T.f_unsure.F.kp T.f_unsure.b L2.pass0 pa))) (dp_new (dn_lst da_nil))))))) (ds_one (ds_ret (de_p dp_bl))) ds_nil)))))))))) (fun _ => PassesOwn.never)))) (fun _ => PassesOwn.never)) (ds_cons (ds_asg (de_p (dp_new (dn_lst (da_cons (dp_tup (da_cons dp_int (da_cons dp_int (da_cons dp_int da_nil)))) (da_cons (dp_tup (da_cons dp_int (da_cons dp_int (da_cons dp_int da_nil)))) (da_cons (dp_tup (da_cons dp_int (da_cons dp_int (da_cons dp_int da_nil)))) da_nil)))))) (dg_name (fun _ => pg_name hnd rfl (by first | exact Or.inl rfl | exact Or.inr rfl))) (fun _ _ _ pe pg => ps_asg pe pg)) (ds_cons (ds_setS (dns_lc (i := 4) (own := [("beat", 10)]) (di_tup (dp_tup (da_cons (dp_new (dn_lst (da_cons dp_int da_nil))) (da_cons (dp_new (dn_lst (da_cons dp_int (da_cons dp_int da_nil)))) (da_cons (dp_new (dn_lst (da_cons dp_int (da_cons dp_int da_nil)))) (da_cons (dp_new (dn_lst (da_cons dp_int da_nil))) da_nil)))))) (dg_name (fun _ => pg_name hnd rfl (by first | exact Or.inl rfl | exact Or.inr rfl))) dts_nil (dp_new (dn_fn (E := L2.E0) (da_cons dp_int (da_cons (dp_var (i := 3) (fun _ => pv 3)) (da_cons (dp_new (dn_lst (da_cons dp_int (da_cons dp_int (da_cons dp_int da_nil))))) (da_cons (dp_var (i := 10) (fun _ => pv 10)) da_nil)))) (fun _ _ pa => G.pe_G G_unsure hgd (hr.mono (by decide)) (by rfl) T.f_unsure.g T.f_unsure.F.kp T.f_unsure.b L2.pass0 pa))) (fun _ => rfl) (fun _ => rfl) (fun _ => sw_true rfl rfl rfl (by decide +kernel)) (fun _ => blkOk_by (N := N_law) (sc := defScope s_law) (by decide +kernel)) (fun _ => hnd))) (ds_one (ds_ret (de_p (dp_and (dp_cmp (fun _ => (og_eq hu)) rG_d (dp_var (i := 4) (fun _ => pv 4)) (dp_new (dn_lst (da_cons (dp_new (dn_lst (da_cons dp_int da_nil))) (da_cons (dp_new (dn_lst da_nil)) (da_cons (dp_new (dn_lst da_nil)) (da_cons (dp_new (dn_lst da_nil)) da_nil))))))) (dp_one (dp_cmp (fun _ => (og_eq hu)) rG_d (dp_new (dn_fn (E := L2.E0) (da_cons dp_int (da_cons (dp_new (dn_lst da_nil)) (da_cons (dp_new (dn_lst da_nil)) (da_cons (dp_new (dn_lst (da_cons dp_int da_nil))) da_nil)))) (fun _ _ pa => G.pe_G G_unsure hgd (hr.mono (by decide)) (by rfl) T.f_unsure.g T.f_unsure.F.kp T.f_unsure.b L2.pass0 pa))) (dp_new (dn_lst da_nil))))))))))))
end
end Lw

set_option Elab.async false
set_option linter.all false
set_option maxRecDepth 100000
set_option maxHeartbeats 4000000
namespace Lw
open PySem PySem.Spec PyProof.Rows L2 Evl G Dl
local macro_rules | `(tactic| walk_at "ev") => `(tactic| simp [dVar, dC, dOp, dChain, dUn, dB, dAnd, dOr, dNot, dAndV, dOrV, dNotV, dIf, dNil, dCons, dTup, dLst, dCall, dCallN, dFreeze, dIxOwn, dIxCel, dPeek, dPeekT, dPeekN, dNoPart, dPart, dSlN, dSl, dRepN, dRng1, dIsi, isT, dGetK,
  eP, eTP, eAP, eOp, eB, eAnd, eOr, eNot, eAndV, eOrV, eIf, eNil, eCons, eTup, eLst, eCall, eCell, ownsAt, Slot.owns, sNext, sSeq, sCut, sBreak, sCont, sNever, sDrop, sRet, sRetN, sIf, sSet, sOwn, sAug, sRetL, sRetO, sApp, sItem, sRem, sMany, sFreeze, sDict, sPutK,
  mNil, mDat, mOwn, emP, emE, gN, gTn, gTc, gT, iL, iT, iR1, iR2, iE, iZ, setAll, lstAt, putLst, scalD, dYes,
  gII_int, gAdd_int, gAdd_list, gAdd_tuple, gSub_int, gMulI_int, gMul_int, gDiv_int, gMod_int, gPow_int, gLt_int, gLe_int, gGt_int, gGe_int, gIx_list, gIx_tuple, gSl_list, gSl_tuple, gLen_list, gLen_tuple, gAbs_int, gMax2_int, gMin2_int, gInt1_int, gInt1_bool, gList_list, gList_tuple, gReprS_list, gReprS_tuple, gEq_int, gNe_int, gNeg_int, gLeA_int, gLeA_tuple,
  L2.atI, ixN, startC, startD])
/-- a source: what is left of a great cell, its mixed number, how many were drawn (at most n) -/
def SrcAt (n : Int) (cs : List D) : Prop := ∃ a b m : Int, cs = [.int a, .int b, .int m] ∧ 0 ≤ a ∧ 0 ≤ b ∧ b < 10 ^ 60 ∧ 0 ≤ m ∧ m ≤ n
def pr_draw (cs ds : List D) (P : D → List D → Prop) : Prop := ∃ n count : Int, SrcAt n cs ∧ n < 10 ^ 9 ∧ ds = [.int count] ∧ 1 ≤ count ∧ count ≤ 10 ^ 100 ∧
  ∀ r cs', 0 ≤ r → r < count → SrcAt (n + 1) cs' → P (.int r) cs'
theorem sem_draw (cs ds : List D) (Q : D → List D → Prop) (h : pr_draw cs ds Q) :
    body_draw { nx := fun ρ => ∃ cs', ρ[0]? = some (.cel cs') ∧ Q .none cs', rt := fun d ρ => ∃ cs', ρ[0]? = some (.cel cs') ∧ Q d cs', rn := fun xs ρ => ∃ cs', ρ[0]? = some (.cel cs') ∧ Q (.list xs) cs' } (startC N_draw cs ds) := by
  obtain ⟨n, count, ⟨a, b, m, rfl, ha, hb, hb2, hm, hm2⟩, hn, rfl, h1, h2, k⟩ := h
  unfold body_draw
  walk_at "ev"
  have hc : count < (big : Int) := big_int (Int.le_trans h2 (by decide))
  by_cases c : a ≤ 0
  · left
    have b38 : 0 ≤ (b + 800011 * (m + 1)) ^ 3 % 100000000000000000000000000000000000133 := Int.emod_nonneg _ (by decide)
    have b38' : (b + 800011 * (m + 1)) ^ 3 % 100000000000000000000000000000000000133 < 100000000000000000000000000000000000133 := Int.emod_lt_of_pos _ (by decide)
    generalize (b + 800011 * (m + 1)) ^ 3 % 100000000000000000000000000000000000133 = x at b38 b38' ⊢
    have hx : 0 ≤ x * (m + 1) := Int.mul_nonneg b38 (by omega)
    have hx' : x * (m + 1) ≤ 100000000000000000000000000000000000133 * 10 ^ 9 := Int.mul_le_mul (by omega) (by omega) (by omega) (by decide)
    have hp : 0 < count := by omega
    refine ⟨c, ⟨big_nat (by decide), big_of (by omega) (by omega)⟩, big_of (by omega) (by omega), big_nat (by decide), ⟨big_of (by omega) (by omega), big_of (by omega) (by omega)⟩, big_of (by omega) (by omega), big_nat (by decide), big_int (by decide), hp, ?_⟩
    exact k _ _ (Int.emod_nonneg _ (by omega)) (Int.emod_lt_of_pos _ hp) ⟨a, b, m + 1, rfl, ha, hb, hb2, by omega, by omega⟩
  · right
    have hp : 0 < count := by omega
    refine ⟨by omega, hp, ⟨hp, hc⟩, ?_⟩
    exact k _ _ (Int.emod_nonneg _ (by omega)) (Int.emod_lt_of_pos _ hp) ⟨_, b, m, rfl, Int.ediv_nonneg ha (by omega), hb, hb2, hm, by omega⟩
def pr_source (ds : List D) (Q : List D → Prop) : Prop := ∃ cell k : Int, ds = [.int cell, .int k] ∧ 0 ≤ k ∧ k ≤ 1000 ∧ ∀ cs, SrcAt 0 cs → Q cs
theorem sem_source (ds : List D) (Q : List D → Prop) (h : pr_source ds Q) :
    body_source { nx := fun _ => False, rt := fun _ _ => False, rn := fun xs _ => Q xs } (startD N_source ds) := by
  obtain ⟨cell, k, rfl, h0, h1, q⟩ := h
  unfold body_source
  walk_at "ev"
  have e0 : 0 ≤ (if cell < 0 then -cell else cell) := by split <;> omega
  generalize (if cell < 0 then -cell else cell) = g at e0 ⊢
  have h3 : 0 ≤ g % 1000000000000000000000000000000000000000000009 := Int.emod_nonneg _ (by decide)
  have h4 : g % 1000000000000000000000000000000000000000000009 < 1000000000000000000000000000000000000000000009 := Int.emod_lt_of_pos _ (by decide)
  refine ⟨big_nat (by decide), ⟨big_of (by omega) (by omega), big_nat (by decide)⟩, ⟨big_nat (by decide), big_of (by omega) (by omega)⟩, q _ ⟨_, _, _, rfl, ?_, ?_, ?_, by omega, by omega⟩⟩
  · split <;> omega
  · split <;> omega
  · split <;> omega
theorem run_draw {n count : Int} {cs : List D} {P : D → List D → Prop} (h : SrcAt n cs) (hn : n < 10 ^ 9) (h1 : 1 ≤ count) (h2 : count ≤ 10 ^ 100)
    (k : ∀ r cs', 0 ≤ r → r < count → SrcAt (n + 1) cs' → P (.int r) cs') : pr_draw cs [.int count] P := ⟨n, count, h, hn, rfl, h1, h2, k⟩
def cellD (c : Int × Int × Int) : D := .tuple [.int c.1, .int c.2.1, .int c.2.2]
structure LotOk (wide span : Int) (lot : List (Int × Int × Int)) : Prop where
  len : lot.length ≤ 60
  at_ : ∀ c ∈ lot, 0 ≤ c.1 ∧ c.1 < span ∧ 0 ≤ c.2.1 ∧ c.2.1 < wide ∧ 0 ≤ c.2.2 ∧ c.2.2 < wide
  asc : lot.Pairwise fun a b => a.1 < b.1 ∨ (a.1 = b.1 ∧ a.2.1 < b.2.1)
/-- cells of the slots below i, and of the inputs below j of the slot i -/
structure LotTo (wide : Int) (i j : Nat) (lot : List (Int × Int × Int)) : Prop where
  at_ : ∀ c ∈ lot, 0 ≤ c.1 ∧ (c.1 < i ∨ (c.1 = i ∧ c.2.1 < j)) ∧ 0 ≤ c.2.1 ∧ c.2.1 < wide ∧ 0 ≤ c.2.2 ∧ c.2.2 < wide
  asc : lot.Pairwise fun a b => a.1 < b.1 ∨ (a.1 = b.1 ∧ a.2.1 < b.2.1)
theorem LotTo.nil {wide : Int} {i j : Nat} : LotTo wide i j [] := ⟨fun c h => by simp at h, .nil⟩
theorem LotTo.more {wide : Int} {i j : Nat} {lot : List (Int × Int × Int)} {o : Int} (h : LotTo wide i j lot) (hj : (j : Int) < wide) (h0 : 0 ≤ o) (h1 : o < wide) : LotTo wide i (j + 1) (lot ++ [((i : Int), (j : Int), o)]) := by
  refine ⟨?_, ?_⟩
  · intro c hc
    rcases List.mem_append.mp hc with hc | hc
    · have := h.at_ c hc
      omega
    · simp at hc
      subst hc
      simp
      omega
  · rw [List.pairwise_append]
    refine ⟨h.asc, by simp, ?_⟩
    intro a ha b hb
    simp at hb
    subst hb
    have := h.at_ a ha
    simp
    omega
theorem LotTo.next {wide : Int} {i j : Nat} {lot : List (Int × Int × Int)} (h : LotTo wide i j lot) : LotTo wide i (j + 1) lot := ⟨fun c hc => by have := h.at_ c hc; omega, h.asc⟩
theorem LotTo.turn {wide : Int} {i j : Nat} {lot : List (Int × Int × Int)} (h : LotTo wide i j lot) : LotTo wide (i + 1) 0 lot := ⟨fun c hc => by have := h.at_ c hc; omega, h.asc⟩
theorem SrcAt.mono {n m : Int} {cs : List D} (h : SrcAt n cs) (e : n ≤ m) : SrcAt m cs := by
  obtain ⟨a, b, k, rfl, h1, h2, h3, h4, h5⟩ := h
  exact ⟨a, b, k, rfl, h1, h2, h3, h4, by omega⟩
def pr_lot (cs ds : List D) (P : D → List D → Prop) : Prop := ∃ n wide span : Int, SrcAt n cs ∧ n + 4000 < 10 ^ 9 ∧ ds = [.int wide, .int span] ∧ 1 ≤ wide ∧ wide ≤ 8 ∧ 0 ≤ span ∧ span ≤ 40 ∧
  ∀ lot cs', LotOk wide span lot → SrcAt (n + 4000) cs' → P (.list (lot.map cellD)) cs'
theorem sem_lot (cs ds : List D) (Q : D → List D → Prop) (h : pr_lot cs ds Q) :
    body_lot pr_draw { nx := fun ρ => ∃ cs', ρ[0]? = some (.cel cs') ∧ Q .none cs', rt := fun d ρ => ∃ cs', ρ[0]? = some (.cel cs') ∧ Q d cs', rn := fun xs ρ => ∃ cs', ρ[0]? = some (.cel cs') ∧ Q (.list xs) cs' } (startC N_lot cs ds) := by
  obtain ⟨n, wide, span, hs, hn, rfl, hw, hw8, hsp, hsp2, k⟩ := h
  unfold body_lot
  walk_at "ev"
  refine run_draw hs (by omega) (by decide) (by decide) fun way cs1 w0 w1 hs1 => ?_
  refine run_draw hs1 (by omega) (by omega) (by omega) fun goal cs2 g0 g1 hs2 => ?_
  -- between two slots; between two inputs of a slot
  let I : Nat → Dl.Env → Prop := fun i ρ => ∃ cs found s6 s7 s8 s9, ρ = [.cel cs, .dat (.int wide), .dat (.int span), .dat (.int way), .dat (.int goal), .own (found.map cellD), s6, s7, s8, s9] ∧ SrcAt (n + 2 + 40 * (i : Int)) cs ∧ LotTo wide i 0 found ∧ (found.length : Int) ≤ 8 * i
  refine for_range1 (n := span) (fun P h => by walk_at "ev"; exact ⟨by omega, h⟩) I ⟨cs2, [], _, _, _, _, rfl, hs2.mono (by omega), .nil, by simp⟩ ?_ ?_
  · rintro i ρ hi ⟨cs3, found, s6, s7, s8, s9, rfl, hs3, hl, hlen⟩
    let J : Bool → Nat → Dl.Env → Prop := fun full j ρ => ∃ cs found s8 s9, ρ = [.cel cs, .dat (.int wide), .dat (.int span), .dat (.int way), .dat (.int goal), .own (found.map cellD), .dat (.int (i : Int)), .dat (.bool full), s8, s9] ∧ SrcAt (n + 2 + 40 * (i : Int) + 1 + 3 * (j : Int)) cs ∧ LotTo wide i j found ∧ (found.length : Int) ≤ 8 * i + j
    -- the inner loop, whatever is_full is
    have inner : ∀ (full : Bool) (ρ : Dl.Env) M, J full 0 ρ → (∀ ρ1, J full wide.toNat ρ1 → M.nx ρ1) → sFor (iR1 (dCons (dVar 1) dNil)) (gN 8) (lp_lot_1 pr_draw) M ρ := by
      intro full ρ M h0 hd
      obtain ⟨cs4, found4, s8', s9', rfl, _, _, _⟩ := id h0
      refine for_range1 (n := wide) (fun P h => by walk_at "ev"; exact ⟨by omega, h⟩) (J full) h0 ?_ hd
      rintro j ρ hj ⟨cs5, fnd, t8, t9, rfl, hs5, hl5, hlen5⟩
      have add : ∀ o cs6 t, 0 ≤ o → o < wide → SrcAt (n + 2 + 40 * (i : Int) + 1 + 3 * (j : Int) + 3) cs6 →
          J full (j + 1) [.cel cs6, .dat (.int wide), .dat (.int span), .dat (.int way), .dat (.int goal), .own (fnd.map cellD ++ [.tuple [.int (i : Int), .int (j : Int), .int o]]), .dat (.int (i : Int)), .dat (.bool full), .dat (.int (j : Int)), t] := by
        intro o cs6 t h0 h1 hs6
        exact ⟨cs6, fnd ++ [((i : Int), (j : Int), o)], _, _, by rw [List.map_append]; rfl, hs6.mono (by omega), hl5.more hj h0 h1, by simp; omega⟩
      have fl : fnd.length < 100000 := by omega
      have tail : ∀ cs6, SrcAt (n + 2 + 40 * (i : Int) + 1 + 3 * (j : Int) + 1) cs6 → pr_draw cs6 [PyData.int wide] fun d cs' =>
          ¬way = 1 ∧ fnd.length < 100000 ∧ J full (j + 1) [.cel cs', .dat (.int wide), .dat (.int span), .dat (.int way), .dat (.int goal), .own (fnd.map cellD ++ [.tuple [.int (i : Int), .int (j : Int), d]]), .dat (.int (i : Int)), .dat (.bool full), .dat (.int (j : Int)), .dat d] ∨
          way = 1 ∧ pr_draw cs' [PyData.int 3] fun d_1 cs' => gGt d_1 (PyData.int 0) fun z =>
            z = PyData.bool false ∧ fnd.length < 100000 ∧ J full (j + 1) [.cel cs', .dat (.int wide), .dat (.int span), .dat (.int way), .dat (.int goal), .own (fnd.map cellD ++ [.tuple [.int (i : Int), .int (j : Int), d]]), .dat (.int (i : Int)), .dat (.bool full), .dat (.int (j : Int)), .dat d] ∨
            z = PyData.bool true ∧ fnd.length < 100000 ∧ J full (j + 1) [.cel cs', .dat (.int wide), .dat (.int span), .dat (.int way), .dat (.int goal), .own (fnd.map cellD ++ [.tuple [.int (i : Int), .int (j : Int), .int goal]]), .dat (.int (i : Int)), .dat (.bool full), .dat (.int (j : Int)), .dat d] := by
        intro cs6 hs6
        refine run_draw hs6 (by omega) (by omega) (by omega) fun o cs7 o0 o1 hs7 => ?_
        by_cases hw1 : way = 1
        · right
          refine ⟨hw1, run_draw hs7 (by omega) (by decide) (by decide) fun r cs8 r0 r1 hs8 => ?_⟩
          rw [gGt_int]
          by_cases hr : 0 < r
          · right
            exact ⟨by simp [hr], fl, add goal cs8 _ g0 g1 (hs8.mono (by omega))⟩
          · left
            exact ⟨by simp [hr], fl, add o cs8 _ o0 o1 (hs8.mono (by omega))⟩
        · left
          exact ⟨hw1, fl, add o cs7 _ o0 o1 (hs7.mono (by omega))⟩
      unfold lp_lot_1
      walk_at "ev"
      cases full with
      | true =>
        right
        exact ⟨rfl, tail cs5 (hs5.mono (by omega))⟩
      | false =>
        left
        refine ⟨rfl, ?_⟩
        by_cases hw3 : 3 ≤ way
        · left
          exact ⟨hw3, cs5, fnd, _, _, rfl, hs5.mono (by omega), hl5.next, by omega⟩
        · right
          refine ⟨by omega, ?_⟩
          have h3 : way = 0 ∨ way = 1 ∨ way = 2 := by omega
          have hd : ∃ c : Int, ((if 0 ≤ way then if way < 3 then some way.toNat else none else if -3 ≤ way then some (way + 3).toNat else none).bind fun j => [PyData.int 2, PyData.int 2, PyData.int 4][j]?) = some (.int c) ∧ 1 ≤ c ∧ c ≤ 4 := by
            rcases h3 with rfl | rfl | rfl <;> simp
          obtain ⟨c, hc, c1, c2⟩ := hd
          refine ⟨_, hc, run_draw hs5 (by omega) c1 (by omega) fun r cs6 r0 r1 hs6 => ?_⟩
          rw [gEq_int]
          by_cases hr : r = 0
          · right
            exact ⟨by simp [hr], tail cs6 hs6⟩
          · left
            exact ⟨by simp [hr], cs6, fnd, _, _, rfl, hs6.mono (by omega), hl5.next, by omega⟩
    have go : ∀ (full : Bool) cs4, SrcAt (n + 2 + 40 * (i : Int) + 1) cs4 → J full 0 [.cel cs4, .dat (.int wide), .dat (.int span), .dat (.int way), .dat (.int goal), .own (found.map cellD), .dat (.int (i : Int)), .dat (.bool full), s8, s9] :=
      fun full cs4 h => ⟨cs4, found, _, _, rfl, h.mono (by omega), hl, by omega⟩
    have out : ∀ (full : Bool) ρ1, J full wide.toNat ρ1 → I (i + 1) ρ1 := by
      rintro full ρ1 ⟨cs4, fnd, t8, t9, rfl, h1, h2, h3⟩
      exact ⟨cs4, fnd, _, _, _, _, rfl, h1.mono (by omega), h2.turn, by omega⟩
    unfold lp_lot_2
    walk_at "ev"
    by_cases hw3 : way = 3
    · right
      refine ⟨hw3, run_draw hs3 (by omega) (by decide) (by decide) fun r cs4 r0 r1 hs4 => ?_⟩
      rw [gEq_int]
      exact inner _ _ _ (go _ cs4 hs4) (out _)
    · left
      exact ⟨hw3, inner false _ _ (go false cs3 (hs3.mono (by omega))) (out false)⟩
  · rintro ρ ⟨cs3, found, s6, s7, s8, s9, rfl, hs3, hl, hlen⟩
    walk_at "ev"
    have e : (Dl.cutD (found.map cellD) none (some 60)) = (found.take 60).map cellD := by
      unfold Dl.cutD
      simp [HT.sIx]
    rw [e]
    refine k _ _ ⟨by simp; omega, ?_, hl.asc.sublist (List.take_sublist _ _)⟩ (hs3.mono (by omega))
    intro c hc
    have := hl.at_ c (List.mem_of_mem_take hc)
    omega
end Lw

set_option Elab.async false
set_option linter.all false
set_option maxRecDepth 100000
set_option maxHeartbeats 4000000
namespace Lw
open PySem PySem.Spec PyProof.Rows L2 Evl G Dl
local macro_rules | `(tactic| walk_at "ev") => `(tactic| simp [dVar, dC, dOp, dChain, dUn, dB, dAnd, dOr, dNot, dAndV, dOrV, dNotV, dIf, dNil, dCons, dTup, dLst, dCall, dCallN, dFreeze, dIxOwn, dIxCel, dPeek, dPeekT, dPeekN, dNoPart, dPart, dSlN, dSl, dRepN, dRng1, dIsi, isT, dGetK,
  eP, eTP, eAP, eOp, eB, eAnd, eOr, eNot, eAndV, eOrV, eIf, eNil, eCons, eTup, eLst, eCall, eCell, ownsAt, Slot.owns, sNext, sSeq, sCut, sBreak, sCont, sNever, sDrop, sRet, sRetN, sIf, sSet, sOwn, sAug, sRetL, sRetO, sApp, sItem, sRem, sMany, sFreeze, sDict, sPutK,
  mNil, mDat, mOwn, emP, emE, gN, gTn_nil, gTc_cons, gT_tuple, iL, iT, iR1, iR2, iE, iZ, setAll, lstAt, putLst, scalD, dYes,
  gII_int, gAdd_int, gAdd_list, gAdd_tuple, gSub_int, gMulI_int, gMul_int, gDiv_int, gMod_int, gPow_int, gLt_int, gLe_int, gGt_int, gGe_int, gIx_list, gIx_tuple, gSl_list, gSl_tuple, gLen_list, gLen_tuple, gAbs_int, gMax2_int, gMin2_int, gInt1_int, gInt1_bool, gList_list, gList_tuple, gReprS_list, gReprS_tuple, gEq_int, gNe_int, gNeg_int, gLeA_int, gLeA_tuple,
  L2.atI, ixN, startC, startD])
/-! ### checks -/
def pr_is_integer (ds : List D) (P : D → Prop) : Prop := ∃ i : Int, ds = [.int i] ∧ P (.bool true)
theorem sem_is_integer (ds : List D) (Q : D → Prop) (h : pr_is_integer ds Q) :
    body_is_integer { nx := fun _ => Q .none, rt := fun d _ => Q d, rn := fun xs _ => Q (.list xs) } (startD N_is_integer ds) := by
  obtain ⟨i, rfl, h⟩ := h
  unfold body_is_integer
  walk_at "ev"
  exact h
def pr_is_between (ds : List D) (P : D → Prop) : Prop := ∃ i a b : Int, ds = [.int i, .int a, .int b] ∧ P (.bool (decide (a ≤ i ∧ i ≤ b)))
theorem sem_is_between (ds : List D) (Q : D → Prop) (h : pr_is_between ds Q) :
    body_is_between pr_is_integer { nx := fun _ => Q .none, rt := fun d _ => Q d, rn := fun xs _ => Q (.list xs) } (startD N_is_between ds) := by
  obtain ⟨i, a, b, rfl, h⟩ := h
  unfold body_is_between
  walk_at "ev"
  refine ⟨i, rfl, ?_⟩
  walk_at "ev"
  by_cases c : a ≤ i
  · right
    simpa [c] using h
  · left
    exact ⟨by omega, by simpa [c] using h⟩
structure CellOk (wide : Int) (c : Int × Int × Int) : Prop where
  a0 : 0 ≤ c.1
  a1 : c.1 ≤ 999999999999999999999999999999
  i0 : 0 ≤ c.2.1
  i1 : c.2.1 < wide
  o0 : 0 ≤ c.2.2
  o1 : c.2.2 < wide
def pr_is_cell (ds : List D) (P : D → Prop) : Prop := ∃ wide c, ds = [.int wide, cellD c] ∧ CellOk wide c ∧ P (.bool true)
theorem run_between {i a b : Int} {P : D → Prop} (h1 : a ≤ i) (h2 : i ≤ b) (h : P (.bool true)) : pr_is_between [.int i, .int a, .int b] P := ⟨i, a, b, rfl, by simpa [h1, h2] using h⟩
theorem sem_is_cell (ds : List D) (Q : D → Prop) (h : pr_is_cell ds Q) :
    body_is_cell pr_is_between { nx := fun _ => Q .none, rt := fun d _ => Q d, rn := fun xs _ => Q (.list xs) } (startD N_is_cell ds) := by
  obtain ⟨wide, ⟨x, y, z⟩, rfl, hc, h⟩ := h
  obtain ⟨h1, h2, h3, h4, h5, h6⟩ := hc
  unfold body_is_cell cellD
  walk_at "ev"
  refine run_between h1 h2 ?_
  walk_at "ev"
  refine run_between h3 (by show y ≤ wide - 1; have : y < wide := h4; omega) ?_
  walk_at "ev"
  refine run_between h5 (by show z ≤ wide - 1; have : z < wide := h6; omega) ?_
  exact h
def pr_check_size (ds : List D) (P : D → Prop) : Prop := ∃ n : Int, ds = [.int n] ∧ 1 ≤ n ∧ n ≤ 8 ∧ P .none
theorem sem_check_size (ds : List D) (Q : D → Prop) (h : pr_check_size ds Q) :
    body_check_size pr_is_between { nx := fun _ => Q .none, rt := fun d _ => Q d, rn := fun xs _ => Q (.list xs) } (startD N_check_size ds) := by
  obtain ⟨n, rfl, h1, h2, h⟩ := h
  unfold body_check_size
  walk_at "ev"
  refine run_between h1 h2 ?_
  walk_at "ev"
  exact h
abbrev Lot := List (Int × Int × Int)
structure CellsOk (wide : Int) (lot : Lot) : Prop where
  w1 : 1 ≤ wide
  w8 : wide ≤ 8
  len : lot.length ≤ 60
  at_ : ∀ c ∈ lot, CellOk wide c
  asc : lot.Pairwise fun a b => a.1 < b.1 ∨ (a.1 = b.1 ∧ a.2.1 < b.2.1)
def pr_check_cells (ds : List D) (P : D → Prop) : Prop := ∃ wide lot, ds = [.int wide, .list (lot.map cellD)] ∧ CellsOk wide lot ∧ P .none
theorem sem_check_cells (ds : List D) (Q : D → Prop) (h : pr_check_cells ds Q) :
    body_check_cells pr_check_size pr_is_cell { nx := fun _ => Q .none, rt := fun d _ => Q d, rn := fun xs _ => Q (.list xs) } (startD N_check_cells ds) := by
  obtain ⟨wide, lot, rfl, hc, h⟩ := h
  unfold body_check_cells
  walk_at "ev"
  refine ⟨wide, rfl, hc.w1, hc.w8, ?_⟩
  walk_at "ev"
  have hl := hc.len
  refine ⟨by omega, ?_⟩
  refine for_items (xs := enumD (lot.map cellD)) (fun P h => by walk_at "ev"; exact h) (fun i ρ => ∃ s2 s3, ρ = [.dat (.int wide), .dat (.list (lot.map cellD)), s2, s3]) ⟨_, _, rfl⟩ ?_ ?_
  · rintro i d ρ hd ⟨s2, s3, rfl⟩
    obtain ⟨x, hx, rfl⟩ := enumD_get hd
    rw [List.getElem?_map] at hx
    obtain ⟨c, hc1, rfl⟩ := Option.map_eq_some_iff.mp hx
    have cm : c ∈ lot := List.mem_of_getElem? hc1
    have ok := hc.at_ c cm
    unfold lp_check_cells_1
    walk_at "ev"
    refine ⟨wide, c, rfl, ok, ?_⟩
    walk_at "ev"
    by_cases hi : i = 0
    · left
      exact hi
    · right
      have him : i - 1 < lot.length := by
        have := (List.getElem?_eq_some_iff.mp hc1).1
        omega
      refine ⟨by omega, ?_⟩
      obtain ⟨b, hb⟩ : ∃ b, lot[i - 1]? = some b := ⟨lot[i - 1], List.getElem?_eq_getElem him⟩
      have hp : b.1 < c.1 ∨ (b.1 = c.1 ∧ b.2.1 < c.2.1) := by
        obtain ⟨l1, e1⟩ := List.getElem?_eq_some_iff.mp hc1
        obtain ⟨l2, e2⟩ := List.getElem?_eq_some_iff.mp hb
        have := List.pairwise_iff_getElem.mp hc.asc (i - 1) i l2 l1 (by omega)
        rw [e1, e2] at this
        exact this
      have e1 : gSl (cellD c) none (some 2) = fun P => P (.tuple [.int c.1, .int c.2.1]) := rfl
      rw [e1]
      refine ⟨cellD b, ?_, ?_⟩
      · rw [if_pos (by omega), if_pos (by omega)]
        simp [hb]
      · have e2 : gSl (cellD b) none (some 2) = fun P => P (.tuple [.int b.1, .int b.2.1]) := rfl
        rw [e2]
        show gLeA (.tuple [.int c.1, .int c.2.1]) (.tuple [.int b.1, .int b.2.1]) _
        rw [gLeA_tuple]
        refine ⟨[c.1, c.2.1], [b.1, b.2.1], rfl, rfl, ?_⟩
        rw [lexLe2]
        simp
        omega
  · rintro ρ ⟨s2, s3, rfl⟩
    exact h
end Lw

set_option Elab.async false
set_option linter.all false
set_option maxRecDepth 100000
set_option maxHeartbeats 4000000
set_option maxHeartbeats 4000000
namespace Lw
open PySem PySem.Spec PyProof.Rows L2 Evl G Dl
local macro_rules | `(tactic| walk_at "ev") => `(tactic| simp [dVar, dC, dOp, dChain, dUn, dB, dAnd, dOr, dNot, dAndV, dOrV, dNotV, dIf, dNil, dCons, dTup, dLst, dCall, dCallN, dFreeze, dIxOwn, dIxCel, dPeek, dPeekT, dPeekN, dNoPart, dPart, dSlN, dSl, dRepN, dRng1, dIsi, isT, dGetK,
  eP, eTP, eAP, eOp, eB, eAnd, eOr, eNot, eAndV, eOrV, eIf, eNil, eCons, eTup, eLst, eCall, eCell, ownsAt, Slot.owns, sNext, sSeq, sCut, sBreak, sCont, sNever, sDrop, sRet, sRetN, sIf, sSet, sOwn, sAug, sRetL, sRetO, sApp, sItem, sRem, sMany, sFreeze, sDict, sPutK,
  mNil, mDat, mOwn, emP, emE, gN, gTn_nil, gTc_cons, gT_tuple, iL, iT, iR1, iR2, iE, iZ, setAll, lstAt, putLst, scalD, dYes,
  gII_int, gAdd_int, gAdd_list, gAdd_tuple, gSub_int, gMulI_int, gMul_int, gDiv_int, gMod_int, gPow_int, gLt_int, gLe_int, gGt_int, gGe_int, gIx_list, gIx_tuple, gSl_list, gSl_tuple, gLen_list, gLen_tuple, gAbs_int, gMax2_int, gMin2_int, gInt1_int, gInt1_bool, gList_list, gList_tuple, gReprS_list, gReprS_tuple, gEq_int, gNe_int, gNeg_int, gLeA_int, gLeA_tuple,
  L2.atI, ixN, startC, startD])
/-! ### first come, first served -/
def putF (f : Int → Int) (g x : Int) : Int → Int := fun h => if h = g then x else f h
def fcGo : (Int → Int) → Lot → List Int
  | _, [] => []
  | f, c :: r => (if f c.2.2 > c.1 then f c.2.2 else c.1) :: fcGo (putF f c.2.2 ((if f c.2.2 > c.1 then f c.2.2 else c.1) + 1)) r
theorem fcGo_len : ∀ (lot : Lot) (f : Int → Int), (fcGo f lot).length = lot.length
  | [], _ => rfl
  | c :: r, f => by simp [fcGo, fcGo_len r]
def fc (lot : Lot) : List Int := fcGo (fun _ => 0) lot
end Lw

set_option Elab.async false
set_option linter.all false
set_option maxRecDepth 100000
set_option maxHeartbeats 4000000
namespace Lw
open PySem PySem.Spec PyProof.Rows L2 Evl G Dl
/-! ### rows as functions of the index -/
def ct (lot : Lot) (k : Nat) : Int × Int × Int := lot.getD k (0, 0, 0)
def lx (line : List Int) (k : Nat) : Int := line.getD k 0
/-- a busy row that sends the waiting cell with the greatest (up) or the least index -/
structure Served (up : Bool) (lot : Lot) (line : List Int) : Prop where
  len : line.length = lot.length
  ge : ∀ k, k < lot.length → (ct lot k).1 ≤ lx line k
  busy : ∀ k, k < lot.length → ∀ t, (ct lot k).1 ≤ t → t ≤ lx line k → ∃ j, j < lot.length ∧ (ct lot j).2.2 = (ct lot k).2.2 ∧ lx line j = t
  pick : ∀ k, k < lot.length → ∀ j, j < lot.length → (ct lot k).2.2 = (ct lot j).2.2 → (ct lot k).1 ≤ lx line j → lx line j ≤ lx line k → if up = true then k ≤ j else j ≤ k
theorem Served.half {up : Bool} {lot : Lot} {a b : List Int} (A : Served up lot a) (B : Served up lot b) {N : Nat}
    (ih : ∀ k, k < lot.length → (lx a k < N → lx b k = lx a k) ∧ (lx b k < N → lx a k = lx b k)) {k : Nat} (hk : k < lot.length) (h : lx a k < N + 1) : lx b k = lx a k := by
  by_cases h1 : lx a k < N
  · exact (ih k hk).1 h1
  · have e : lx a k = N := by omega
    by_cases h2 : lx b k < N
    · exact ((ih k hk).2 h2).symm
    · by_cases h3 : lx b k = N
      · omega
      · exfalso
        obtain ⟨j, hj, ho, hl⟩ := B.busy k hk N (by have := A.ge k hk; omega) (by omega)
        have h4 : ¬ lx a j < N := fun z => by
          have := (ih j hj).1 z
          omega
        have p1 := A.pick j hj k hk ho (by have := B.ge j hj; omega) (by omega)
        have p2 := B.pick k hk j hj ho.symm (by have := A.ge k hk; omega) (by omega)
        have : k = j := by
          cases up
          · simp at p1 p2
            omega
          · simp at p1 p2
            omega
        subst this
        exact h3 hl
theorem Served.uniq {up : Bool} {lot : Lot} {a b : List Int} (A : Served up lot a) (B : Served up lot b) (h0 : ∀ k, k < lot.length → 0 ≤ (ct lot k).1) : a = b := by
  have main : ∀ N : Nat, ∀ k, k < lot.length → (lx a k < N → lx b k = lx a k) ∧ (lx b k < N → lx a k = lx b k) := by
    intro N
    induction N with
    | zero =>
      intro k hk
      have := h0 k hk
      have := A.ge k hk
      have := B.ge k hk
      exact ⟨fun z => by omega, fun z => by omega⟩
    | succ N ih =>
      intro k hk
      exact ⟨fun z => A.half B ih hk (by omega), fun z => B.half A (fun k hk => ⟨(ih k hk).2, (ih k hk).1⟩) hk (by omega)⟩
  refine List.ext_getElem (by rw [A.len, B.len]) fun k h1 h2 => ?_
  have hk : k < lot.length := by rw [← A.len]; exact h1
  have := (main ((lx a k).toNat + 1) k hk).1 (by omega)
  unfold lx at this
  simp only [List.getD_eq_getElem?_getD, List.getElem?_eq_getElem h1, List.getElem?_eq_getElem h2, Option.getD_some] at this
  exact this.symm
/-! ### the row first come -/
theorem fcGo_at : ∀ (lot : Lot) (f : Int → Int) (k : Nat), k < lot.length →
    (ct lot k).1 ≤ lx (fcGo f lot) k ∧ f (ct lot k).2.2 ≤ lx (fcGo f lot) k ∧
    (∀ j, j < k → (ct lot j).2.2 = (ct lot k).2.2 → lx (fcGo f lot) j < lx (fcGo f lot) k) ∧
    (lx (fcGo f lot) k = (ct lot k).1 ∨ (∃ j, j < k ∧ (ct lot j).2.2 = (ct lot k).2.2 ∧ lx (fcGo f lot) k = lx (fcGo f lot) j + 1) ∨ lx (fcGo f lot) k = f (ct lot k).2.2)
  | [], f, k, h => by simp at h
  | c :: r, f, 0, h => by
    simp only [fcGo, ct, lx, List.getD_cons_zero]
    refine ⟨by split <;> omega, by split <;> omega, fun j hj => by omega, ?_⟩
    split
    · right
      right
      rfl
    · left
      rfl
  | c :: r, f, k + 1, h => by
    have ih := fcGo_at r (putF f c.2.2 ((if f c.2.2 > c.1 then f c.2.2 else c.1) + 1)) k (by simpa using h)
    simp only [fcGo, ct, lx, List.getD_cons_succ] at ih ⊢
    obtain ⟨i1, i2, i3, i4⟩ := ih
    have hs : f c.2.2 ≤ (if f c.2.2 > c.1 then f c.2.2 else c.1) := by split <;> omega
    generalize (if f c.2.2 > c.1 then f c.2.2 else c.1) = s at *
    have hf : f (r.getD k (0, 0, 0)).2.2 ≤ putF f c.2.2 (s + 1) (r.getD k (0, 0, 0)).2.2 := by
      unfold putF
      split
      · rename_i q
        rw [q]
        omega
      · omega
    refine ⟨i1, by omega, ?_, ?_⟩
    · intro j hj ho
      cases j with
      | zero =>
        simp only [List.getD_cons_zero] at ho ⊢
        have e : putF f c.2.2 (s + 1) (r.getD k (0, 0, 0)).2.2 = s + 1 := by
          unfold putF
          rw [if_pos ho.symm]
        omega
      | succ j =>
        simp only [List.getD_cons_succ] at ho ⊢
        exact i3 j (by omega) ho
    · rcases i4 with q | ⟨j, hj, ho, q⟩ | q
      · exact Or.inl q
      · refine Or.inr (Or.inl ⟨j + 1, by omega, ?_, ?_⟩)
        · simpa only [List.getD_cons_succ] using ho
        · simpa only [List.getD_cons_succ] using q
      · by_cases ho : (r.getD k (0, 0, 0)).2.2 = c.2.2
        · refine Or.inr (Or.inl ⟨0, by omega, ?_, ?_⟩)
          · simpa only [List.getD_cons_zero] using ho.symm
          · simp only [List.getD_cons_zero]
            rw [q]
            unfold putF
            rw [if_pos ho]
        · refine Or.inr (Or.inr ?_)
          rw [q]
          unfold putF
          rw [if_neg ho]
theorem fc_len (lot : Lot) : (fc lot).length = lot.length := fcGo_len lot _
theorem fc_served {lot : Lot} (h0 : ∀ k, k < lot.length → 0 ≤ (ct lot k).1) (asc : ∀ j k, j < k → k < lot.length → (ct lot j).1 ≤ (ct lot k).1) : Served false lot (fc lot) := by
  refine ⟨fc_len lot, fun k hk => (fcGo_at lot (fun _ => 0) k hk).1, ?_, ?_⟩
  · intro k
    induction k using Nat.strongRecOn with
    | ind k ih =>
      intro hk t h1 h2
      by_cases e : t = lx (fc lot) k
      · exact ⟨k, hk, rfl, e.symm⟩
      · rcases (fcGo_at lot (fun _ => 0) k hk).2.2.2 with q | ⟨j, hj, ho, q⟩ | q
        · unfold fc at h2 e
          omega
        · obtain ⟨i, hi, hio, hit⟩ := ih j hj (by omega) t (by have := asc j k hj hk; omega) (by unfold fc at *; omega)
          exact ⟨i, hi, hio.trans ho, hit⟩
        · have := h0 k hk
          unfold fc at *
          omega
  · intro k hk j hj ho h1 h2
    simp
    by_cases q : k < j
    · have := (fcGo_at lot (fun _ => 0) j hj).2.2.1 k q ho
      unfold fc at *
      omega
    · omega
/-- no row first come is later than the last own slot and all cells -/
theorem fcGo_le {M : Int} : ∀ (lot : Lot) (f : Int → Int) (B : Int), (∀ g, f g ≤ B) → M ≤ B → (∀ c ∈ lot, c.1 ≤ M) → ∀ k, k < lot.length → lx (fcGo f lot) k ≤ B + k
  | [], f, B, hf, hM, hc, k, h => by simp at h
  | c :: r, f, B, hf, hM, hc, k, h => by
    have hcM := hc c List.mem_cons_self
    have hfc := hf c.2.2
    have hs : (if f c.2.2 > c.1 then f c.2.2 else c.1) ≤ B := by split <;> omega
    cases k with
    | zero =>
      simp only [fcGo, lx, List.getD_cons_zero]
      omega
    | succ k =>
      have ih := fcGo_le (M := M) r (putF f c.2.2 ((if f c.2.2 > c.1 then f c.2.2 else c.1) + 1)) (B + 1) (by
        intro g
        unfold putF
        have := hf g
        split <;> omega) (by omega) (fun x hx => hc x (List.mem_cons_of_mem _ hx)) k (by simpa using h)
      simp only [fcGo, lx, List.getD_cons_succ] at ih ⊢
      omega
end Lw

set_option Elab.async false
set_option linter.all false
set_option maxRecDepth 100000
set_option maxHeartbeats 4000000
namespace Lw
open PySem PySem.Spec PyProof.Rows L2 Evl G Dl
/-! ### counting -/
theorem countP_upd {P P' : Nat → Bool} {k : Nat} {b : Bool} : ∀ n, k < n → P k = false → P' k = b → (∀ j, j < n → j ≠ k → P' j = P j) →
    (List.range n).countP P' = (List.range n).countP P + (if b = true then 1 else 0)
  | 0, h, _, _, _ => by omega
  | n + 1, h, h1, h2, h3 => by
    rw [List.range_succ, List.countP_append, List.countP_append]
    by_cases q : k = n
    · subst q
      have e : (List.range k).countP P' = (List.range k).countP P := List.countP_congr fun j hj => by
        rw [h3 j (by have := List.mem_range.mp hj; omega) (by have := List.mem_range.mp hj; omega)]
      rw [e]
      simp [List.countP_cons, h1, h2]
    · have ih := countP_upd (P := P) (P' := P') n (by omega) h1 h2 (fun j hj => h3 j (by omega))
      rw [ih]
      simp [List.countP_cons, h3 n (by omega) (Ne.symm q)]
      omega
theorem countP_lt {α : Type} {p q : α → Bool} : ∀ {l : List α}, l.countP p < l.countP q → ∃ x, x ∈ l ∧ q x = true ∧ p x = false
  | [], h => by simp at h
  | x :: l, h => by
    rw [List.countP_cons, List.countP_cons] at h
    by_cases hq : q x = true
    · by_cases hp : p x = true
      · simp [hq, hp] at h
        obtain ⟨y, a, b⟩ := countP_lt h
        exact ⟨y, List.mem_cons_of_mem _ a, b⟩
      · exact ⟨x, List.mem_cons_self, hq, by simpa using hp⟩
    · have : l.countP p < l.countP q := by
        simp [hq] at h
        split at h <;> omega
      obtain ⟨y, a, b⟩ := countP_lt this
      exact ⟨y, List.mem_cons_of_mem _ a, b⟩
theorem countP_le_eq {α : Type} {p q : α → Bool} : ∀ {l : List α}, (∀ x, x ∈ l → p x = true → q x = true) → l.countP q ≤ l.countP p → ∀ x, x ∈ l → q x = true → p x = true
  | [], _, _, x, hx, _ => by simp at hx
  | y :: l, h, hc, x, hx, hq => by
    rw [List.countP_cons, List.countP_cons] at hc
    have mono : l.countP p ≤ l.countP q := List.countP_mono_left fun z hz => h z (List.mem_cons_of_mem _ hz)
    have hy := h y List.mem_cons_self
    rcases List.mem_cons.mp hx with rfl | hx
    · by_cases hp : p x = true
      · exact hp
      · exfalso
        simp [hq, hp] at hc
        omega
    · refine countP_le_eq (fun z hz => h z (List.mem_cons_of_mem _ hz)) ?_ x hx hq
      by_cases hp : p y = true
      · simp [hp, hy hp] at hc
        omega
      · simp [hp] at hc
        split at hc <;> omega
/-! ### the row last come, as the program builds it -/
def far : Int := 9999999999999999999999999999999
def outs (lot : Lot) : List (Int × Int) := (List.range lot.length).map fun k => ((ct lot k).2.2, lx (fc lot) k)
structure LotP (lot : Lot) : Prop where
  len : lot.length ≤ 60
  h0 : ∀ k, k < lot.length → 0 ≤ (ct lot k).1
  asc : ∀ j k, j < k → k < lot.length → (ct lot j).1 ≤ (ct lot k).1
  up : ∀ k, k < lot.length → (ct lot k).1 ≤ 999999999999999999999999999999
theorem LotP.fc_lt {lot : Lot} (h : LotP lot) {k : Nat} (hk : k < lot.length) : lx (fc lot) k < far := by
  have := fcGo_le (M := 999999999999999999999999999999) lot (fun _ => 0) 999999999999999999999999999999 (fun g => by omega) (by omega) (by
    intro c hc
    obtain ⟨i, hi, rfl⟩ := List.mem_iff_getElem.mp hc
    have := h.up i hi
    unfold ct at this
    rw [List.getD_eq_getElem?_getD, List.getElem?_eq_getElem hi] at this
    exact this) k hk
  have := h.len
  unfold fc far
  omega
theorem outs_mem {lot : Lot} {x : Int × Int} (h : x ∈ outs lot) : ∃ k, k < lot.length ∧ x = ((ct lot k).2.2, lx (fc lot) k) := by
  obtain ⟨k, hk, rfl⟩ := List.mem_map.mp h
  exact ⟨k, List.mem_range.mp hk, rfl⟩
theorem outs_nodup {lot : Lot} (h : LotP lot) : (outs lot).Nodup := by
  unfold outs
  refine List.Pairwise.map _ (R := fun j k => j < k ∧ k < lot.length) ?_ ?_
  · rintro j k ⟨hjk, hk⟩ e
    simp at e
    have := (fcGo_at lot (fun _ => 0) k hk).2.2.1 j hjk e.1
    have e2 := e.2
    unfold fc lx at *
    simp at this e2
    omega
  · refine (List.pairwise_lt_range (n := lot.length)).imp_of_mem ?_
    intro a b ha hb hab
    exact ⟨hab, List.mem_range.mp hb⟩
theorem outs_count (lot : Lot) (p : Int × Int → Bool) : (outs lot).countP p = (List.range lot.length).countP fun k => p ((ct lot k).2.2, lx (fc lot) k) := by
  unfold outs
  rw [List.countP_map]
  rfl
/-- the cells of an output that have come by a slot and do not leave ahead of it -/
def waits (lot : Lot) (row : List Int) (g t : Int) : List Nat := (List.range lot.length).filter fun k => decide ((ct lot k).2.2 = g) && (decide ((ct lot k).1 ≤ t) && decide (t ≤ lx row k))
structure CI (lot : Lot) (ps : List (Int × Int)) (row : List Int) : Prop where
  len : row.length = lot.length
  st : ∀ k, k < lot.length → lx row k = far ∨ (ct lot k).1 ≤ lx row k
  cnt : ∀ p : Int × Int → Bool, (∀ g, p (g, far) = false) → ((List.range lot.length).countP fun k => p ((ct lot k).2.2, lx row k)) = ps.countP p
  last : ∀ k, k < lot.length → ∀ j, j < lot.length → (ct lot k).2.2 = (ct lot j).2.2 → lx row j ≠ far → (ct lot k).1 ≤ lx row j → lx row j ≤ lx row k → k ≤ j
theorem CI.init (lot : Lot) : CI lot [] (List.replicate lot.length far) := by
  have e : ∀ k, k < lot.length → lx (List.replicate lot.length far) k = far := by
    intro k hk
    unfold lx
    rw [List.getD_eq_getElem?_getD, List.getElem?_replicate, if_pos hk]
    rfl
  refine ⟨by simp, fun k hk => Or.inl (e k hk), ?_, ?_⟩
  · intro p hp
    simp
    intro k hk
    rw [e k hk]
    simp [hp]
  · intro k hk j hj _ h
    exact absurd (e j hj) h
theorem CI.mem {lot : Lot} {ps : List (Int × Int)} {row : List Int} (h : CI lot ps row) {k : Nat} (hk : k < lot.length) (hf : lx row k ≠ far) : ((ct lot k).2.2, lx row k) ∈ ps := by
  have e := h.cnt (fun x => decide (x = ((ct lot k).2.2, lx row k))) (by
    intro g
    simp
    intro _ z
    exact hf z.symm)
  have pos : 0 < (List.range lot.length).countP fun j => decide (((ct lot j).2.2, lx row j) = ((ct lot k).2.2, lx row k)) := by
    rw [List.countP_pos_iff]
    exact ⟨k, List.mem_range.mpr hk, by simp⟩
  rw [e, List.countP_pos_iff] at pos
  obtain ⟨x, hx, hd⟩ := pos
  have := of_decide_eq_true hd
  rw [← this]
  exact hx
theorem lx_set {row : List Int} {k j : Nat} {t : Int} (hk : k < row.length) : lx (row.set k t) j = if j = k then t else lx row j := by
  unfold lx
  rw [List.getD_eq_getElem?_getD, List.getD_eq_getElem?_getD]
  by_cases q : j = k
  · subst q
    rw [List.getElem?_set_self hk, if_pos rfl]
    rfl
  · rw [List.getElem?_set_ne (Ne.symm q), if_neg q]
theorem last_filter {n : Nat} {p : Nat → Bool} {m : Nat} (h : ((List.range n).filter p).getLast? = some m) : m < n ∧ p m = true ∧ ∀ j, j < n → p j = true → j ≤ m := by
  have mem := List.mem_of_getLast? h
  rw [List.mem_filter, List.mem_range] at mem
  refine ⟨mem.1, mem.2, ?_⟩
  intro j hj hp
  have sorted : ((List.range n).filter p).Pairwise (· < ·) := List.Pairwise.filter _ List.pairwise_lt_range
  obtain ⟨ys, e⟩ : ∃ ys, (List.range n).filter p = ys ++ [m] := List.getLast?_eq_some_iff.mp h
  have hm : j ∈ (List.range n).filter p := List.mem_filter.mpr ⟨List.mem_range.mpr hj, hp⟩
  rw [e] at hm sorted
  rcases List.mem_append.mp hm with a | a
  · have := (List.pairwise_append.mp sorted).2.2 j a m (by simp)
    omega
  · simp at a
    omega
theorem CI.next {lot : Lot} (hp : LotP lot) {L ps rest : List (Int × Int)} {row : List Int} {g t : Int} (hL : L.Perm (outs lot)) (hs : L.Pairwise fun a b => pairLe a b = true) (e : L = ps ++ (g, t) :: rest) (h : CI lot ps row) :
    ∃ m, (waits lot row g t).getLast? = some m ∧ CI lot (ps ++ [(g, t)]) (row.set m t) := by
  have nd : L.Nodup := (hL.nodup_iff).mpr (outs_nodup hp)
  have mem : ∀ x ∈ L, x.2 < far := by
    intro x hx
    obtain ⟨k, hk, rfl⟩ := outs_mem (hL.mem_iff.mp hx)
    exact hp.fc_lt hk
  have tf : t < far := mem (g, t) (by rw [e]; simp)
  have nin : (g, t) ∉ ps := by
    rw [e] at nd
    intro z
    have := (List.nodup_append.mp nd).2.2 _ z _ List.mem_cons_self
    exact this rfl
  have low : ∀ x ∈ ps, x.1 = g → x.2 < t := by
    intro x hx hg
    rw [e] at hs
    have q := (List.pairwise_append.mp hs).2.2 x hx (g, t) List.mem_cons_self
    simp [pairLe] at q
    have ne : x ≠ (g, t) := fun z => nin (z ▸ hx)
    have ne2 : x.2 ≠ t := fun z => ne (Prod.ext hg z)
    omega
  -- a cell waits
  have hc : ((List.range lot.length).countP fun k => decide ((ct lot k).2.2 = g) && decide (lx row k ≤ t)) < (List.range lot.length).countP fun k => decide ((ct lot k).2.2 = g) && decide (lx (fc lot) k ≤ t) := by
    have c1 := h.cnt (fun x => decide (x.1 = g) && decide (x.2 ≤ t)) (by
      intro g'
      simp
      intro _
      exact tf)
    have c2 := outs_count lot (fun x => decide (x.1 = g) && decide (x.2 ≤ t))
    rw [← hL.countP_eq, e, List.countP_append, List.countP_cons] at c2
    have e1 : (if (decide ((g, t).1 = g) && decide ((g, t).2 ≤ t)) = true then 1 else 0 : Nat) = 1 := by simp
    rw [e1] at c2
    dsimp only at c1 c2
    omega
  obtain ⟨k, hk, hk2, hk3⟩ := countP_lt hc
  have kn := List.mem_range.mp hk
  have kw : k ∈ waits lot row g t := by
    simp at hk2 hk3
    unfold waits
    rw [List.mem_filter]
    refine ⟨hk, ?_⟩
    have := (fcGo_at lot (fun _ => 0) k kn).1
    have h2 := hk2.2
    unfold fc at h2
    simp
    refine ⟨hk2.1, by omega, by have := hk3 hk2.1; omega⟩
  obtain ⟨m, hm⟩ : ∃ m, (waits lot row g t).getLast? = some m := by
    cases q : (waits lot row g t).getLast? with
    | none =>
      rw [List.getLast?_eq_none_iff] at q
      rw [q] at kw
      simp at kw
    | some m => exact ⟨m, rfl⟩
  refine ⟨m, hm, ?_⟩
  obtain ⟨mn, mp, mx⟩ := last_filter hm
  simp at mp mx
  have ml : m < row.length := by rw [h.len]; exact mn
  have mfar : lx row m = far := by
    apply Classical.byContradiction
    intro z
    have q := h.mem mn z
    have := low _ q mp.1
    simp at this
    omega
  refine ⟨by simp [h.len], ?_, ?_, ?_⟩
  · intro j hj
    rw [lx_set ml]
    by_cases q : j = m
    · rw [if_pos q, q]
      exact Or.inr mp.2.1
    · rw [if_neg q]
      exact h.st j hj
  · intro p hpf
    rw [countP_upd (P := fun k => p ((ct lot k).2.2, lx row k)) (k := m) (b := p (g, t)) lot.length mn (by simp [mfar, hpf]) (by simp [lx_set ml, mp.1]) (by
      intro j hj q
      simp [lx_set ml, q])]
    rw [h.cnt p hpf, List.countP_append, List.countP_cons]
    simp
  · intro i hi j hj ho hf h1 h2
    rw [lx_set ml] at hf h1 h2
    rw [lx_set ml] at h2
    by_cases q : j = m
    · rw [if_pos q] at hf h1 h2
      subst q
      by_cases q2 : i = j
      · omega
      · rw [if_neg q2] at h2
        exact mx i hi (by omega) h1 h2
    · rw [if_neg q] at hf h1 h2
      by_cases q2 : i = m
      · rw [if_pos q2] at h2
        refine h.last i hi j hj ho hf h1 ?_
        rw [q2, mfar]
        omega
      · rw [if_neg q2] at h2
        exact h.last i hi j hj ho hf h1 h2
end Lw

set_option Elab.async false
set_option linter.all false
set_option maxRecDepth 100000
set_option maxHeartbeats 4000000
namespace Lw
open PySem PySem.Spec PyProof.Rows L2 Evl G Dl
theorem CI.served {lot : Lot} (hp : LotP lot) {L : List (Int × Int)} {row : List Int} (hL : L.Perm (outs lot)) (h : CI lot L row) : Served true lot row ∧ ∀ k, k < lot.length → lx row k < far := by
  have mem : ∀ x ∈ L, x.2 < far := by
    intro x hx
    obtain ⟨k, hk, rfl⟩ := outs_mem (hL.mem_iff.mp hx)
    exact hp.fc_lt hk
  have hlen : L.length = lot.length := by
    rw [hL.length_eq]
    simp [outs]
  -- every cell has its slot
  have all : ∀ k, k < lot.length → lx row k ≠ far := by
    have c1 := h.cnt (fun x => decide (x.2 ≠ far)) (by intro g; simp)
    have c2 : L.countP (fun x => decide (x.2 ≠ far)) = L.length := by
      rw [List.countP_eq_length]
      intro x hx
      have := mem x hx
      simp
      omega
    rw [c2, hlen] at c1
    have c3 : ((List.range lot.length).countP fun k => decide (lx row k ≠ far)) = (List.range lot.length).length := by
      rw [List.length_range]
      exact c1
    rw [List.countP_eq_length] at c3
    intro k hk
    simpa using c3 k (List.mem_range.mpr hk)
  have lt : ∀ k, k < lot.length → lx row k < far := fun k hk => mem _ (h.mem hk (all k hk))
  have ge : ∀ k, k < lot.length → (ct lot k).1 ≤ lx row k := fun k hk => (h.st k hk).resolve_left (all k hk)
  have S := fc_served hp.h0 hp.asc
  refine ⟨⟨h.len, ge, ?_, ?_⟩, lt⟩
  · intro k hk t h1 h2
    apply Classical.byContradiction
    intro no
    have tf : t < far := by have := lt k hk; omega
    have none : ∀ j, j < lot.length → (ct lot j).2.2 = (ct lot k).2.2 → lx row j ≠ t := fun j hj ho z => no ⟨j, hj, ho, z⟩
    have inL : ∀ j, j < lot.length → ((ct lot j).2.2, lx (fc lot) j) ∈ L := by
      intro j hj
      rw [hL.mem_iff]
      exact List.mem_map.mpr ⟨j, List.mem_range.mpr hj, rfl⟩
    have noneF : ∀ j, j < lot.length → (ct lot j).2.2 = (ct lot k).2.2 → lx (fc lot) j ≠ t := by
      intro j hj ho z
      have c := h.cnt (fun x => decide (x = ((ct lot k).2.2, t))) (by
        intro g
        simp
        intro _
        omega)
      have pos : 0 < L.countP fun x => decide (x = ((ct lot k).2.2, t)) := by
        rw [List.countP_pos_iff]
        exact ⟨_, inL j hj, by simp [ho, z]⟩
      rw [← c, List.countP_pos_iff] at pos
      obtain ⟨i, hi, hd⟩ := pos
      simp at hd
      exact none i (List.mem_range.mp hi) hd.1 hd.2
    have early : ∀ j, j < lot.length → (ct lot j).2.2 = (ct lot k).2.2 → (ct lot j).1 ≤ t → lx (fc lot) j < t := by
      intro j hj ho hs
      apply Classical.byContradiction
      intro q
      obtain ⟨i, hi, hio, hit⟩ := S.busy j hj t hs (by omega)
      exact noneF i hi (hio.trans ho) hit
    -- as many have left as have come
    have c := h.cnt (fun x => decide (x.1 = (ct lot k).2.2) && decide (x.2 < t)) (by
      intro g
      simp
      intro _
      omega)
    have c2 := outs_count lot (fun x => decide (x.1 = (ct lot k).2.2) && decide (x.2 < t))
    rw [← hL.countP_eq] at c2
    dsimp only at c c2
    have le1 : ((List.range lot.length).countP fun j => decide ((ct lot j).2.2 = (ct lot k).2.2) && decide ((ct lot j).1 ≤ t)) ≤
        (List.range lot.length).countP fun j => decide ((ct lot j).2.2 = (ct lot k).2.2) && decide (lx (fc lot) j < t) := by
      refine List.countP_mono_left ?_
      intro j hj hd
      simp at hd ⊢
      exact ⟨hd.1, early j (List.mem_range.mp hj) hd.1 hd.2⟩
    rw [← c2, ← c] at le1
    have q := countP_le_eq (l := List.range lot.length) (p := fun j => decide ((ct lot j).2.2 = (ct lot k).2.2) && decide (lx row j < t))
      (q := fun j => decide ((ct lot j).2.2 = (ct lot k).2.2) && decide ((ct lot j).1 ≤ t)) (by
        intro j hj hd
        simp at hd ⊢
        have := ge j (List.mem_range.mp hj)
        exact ⟨hd.1, by omega⟩) le1 k (List.mem_range.mpr hk) (by simp; exact h1)
    simp at q
    omega
  · intro k hk j hj ho h1 h2
    simp
    exact h.last k hk j hj ho (all j hj) h1 h2
end Lw

set_option Elab.async false
set_option linter.all false
set_option maxRecDepth 100000
set_option maxHeartbeats 4000000
namespace Lw
open PySem PySem.Spec PyProof.Rows L2 Evl G Dl
local macro_rules | `(tactic| walk_at "ev") => `(tactic| simp [dVar, dC, dOp, dChain, dUn, dB, dAnd, dOr, dNot, dAndV, dOrV, dNotV, dIf, dNil, dCons, dTup, dLst, dCall, dCallN, dFreeze, dIxOwn, dIxCel, dPeek, dPeekT, dPeekN, dNoPart, dPart, dSlN, dSl, dRepN, dRng1, dIsi, isT, dGetK,
  eP, eTP, eAP, eOp, eB, eAnd, eOr, eNot, eAndV, eOrV, eIf, eNil, eCons, eTup, eLst, eCall, eCell, ownsAt, Slot.owns, sNext, sSeq, sCut, sBreak, sCont, sNever, sDrop, sRet, sRetN, sIf, sSet, sOwn, sAug, sRetL, sRetO, sApp, sItem, sRem, sMany, sFreeze, sDict, sPutK,
  mNil, mDat, mOwn, emP, emE, gN, gTn_nil, gTc_cons, gT_tuple, iL, iT, iR1, iR2, iE, iZ, setAll, lstAt, putLst, scalD, dYes,
  gII_int, gAdd_int, gAdd_list, gAdd_tuple, gSub_int, gMulI_int, gMul_int, gDiv_int, gMod_int, gPow_int, gLt_int, gLe_int, gGt_int, gGe_int, gIx_list, gIx_tuple, gSl_list, gSl_tuple, gLen_list, gLen_tuple, gAbs_int, gMax2_int, gMin2_int, gInt1_int, gInt1_bool, gList_list, gList_tuple, gReprS_list, gReprS_tuple, gEq_int, gNe_int, gNeg_int, gLeA_int, gLeA_tuple,
  L2.atI, wipeD, ixN, startC, startD])

theorem ct_get {lot : Lot} {k : Nat} {c : Int × Int × Int} (h : lot[k]? = some c) : ct lot k = c := by
  unfold ct
  rw [List.getD_eq_getElem?_getD, h]
  rfl
theorem get_ct {lot : Lot} {k : Nat} (h : k < lot.length) : lot[k]? = some (ct lot k) := by
  unfold ct
  rw [List.getD_eq_getElem?_getD, List.getElem?_eq_getElem h]
  rfl
theorem get_lx {line : List Int} {k : Nat} (h : k < line.length) : line[k]? = some (lx line k) := by
  unfold lx
  rw [List.getD_eq_getElem?_getD, List.getElem?_eq_getElem h]
  rfl
theorem zip_range (lot : Lot) (row : List Int) (h : row.length = lot.length) : zipD (lot.map cellD) (row.map .int) = (List.range lot.length).map fun k => .tuple [cellD (ct lot k), .int (lx row k)] := by
  refine List.ext_getElem? fun i => ?_
  unfold zipD
  rw [List.getElem?_zipWith, List.getElem?_map, List.getElem?_map, List.getElem?_map]
  by_cases q : i < lot.length
  · rw [get_ct q, get_lx (by rw [h]; exact q), List.getElem?_range q]
    rfl
  · rw [List.getElem?_eq_none (by omega), List.getElem?_eq_none (l := List.range lot.length) (by simpa using q)]
    rfl
theorem enum_range (lot : Lot) : enumD (lot.map cellD) = (List.range lot.length).map fun k => .tuple [.int (k : Nat), cellD (ct lot k)] := by
  refine List.ext_getElem? fun i => ?_
  unfold enumD
  rw [List.getElem?_mapIdx, List.getElem?_map, List.getElem?_map]
  by_cases q : i < lot.length
  · rw [get_ct q, List.getElem?_range q]
    rfl
  · rw [List.getElem?_eq_none (by omega), List.getElem?_eq_none (l := List.range lot.length) (by simpa using q)]
    rfl
def natD (k : Nat) : D := .int (k : Nat)
theorem atI_ct {lot : Lot} {k : Nat} (h : k < lot.length) : L2.atI (lot.map cellD) (k : Int) = some (cellD (ct lot k)) := by
  unfold L2.atI ixN
  rw [if_pos (by omega), if_pos (by simp; omega)]
  simp [get_ct h]
theorem atI_lx {row : List Int} {k : Nat} (h : k < row.length) : L2.atI (row.map PyData.int) (k : Int) = some (.int (lx row k)) := by
  unfold L2.atI ixN
  rw [if_pos (by omega), if_pos (by simp; omega)]
  simp [get_lx h]
end Lw

set_option Elab.async false
set_option linter.all false
set_option maxRecDepth 100000
set_option maxHeartbeats 4000000
namespace Lw
open PySem PySem.Spec PyProof.Rows L2 Evl G Dl
local macro_rules | `(tactic| walk_at "ev") => `(tactic| simp [dVar, dC, dOp, dChain, dUn, dB, dAnd, dOr, dNot, dAndV, dOrV, dNotV, dIf, dNil, dCons, dTup, dLst, dCall, dCallN, dFreeze, dIxOwn, dIxCel, dPeek, dPeekT, dPeekN, dNoPart, dPart, dSlN, dSl, dRepN, dRng1, dIsi, isT, dGetK,
  eP, eTP, eAP, eOp, eB, eAnd, eOr, eNot, eAndV, eOrV, eIf, eNil, eCons, eTup, eLst, eCall, eCell, ownsAt, Slot.owns, sNext, sSeq, sCut, sBreak, sCont, sNever, sDrop, sRet, sRetN, sIf, sSet, sOwn, sAug, sRetL, sRetO, sApp, sItem, sRem, sMany, sFreeze, sDict, sPutK,
  mNil, mDat, mOwn, emP, emE, gN, gTn_nil, gTc_cons, gT_tuple, iL, iT, iR1, iR2, iE, iZ, setAll, lstAt, putLst, scalD, dYes,
  gII_int, gAdd_int, gAdd_list, gAdd_tuple, gSub_int, gMulI_int, gMul_int, gDiv_int, gMod_int, gPow_int, gLt_int, gLe_int, gGt_int, gGe_int, gIx_list, gIx_tuple, gSl_list, gSl_tuple, gLen_list, gLen_tuple, gAbs_int, gMax2_int, gMin2_int, gInt1_int, gInt1_bool, gList_list, gList_tuple, gReprS_list, gReprS_tuple, gEq_int, gNe_int, gNeg_int, gLeA_int, gLeA_tuple,
  L2.atI, wipeD, ixN, startC, startD])
theorem ct_mem {lot : Lot} {k : Nat} (h : k < lot.length) : ct lot k ∈ lot := List.mem_of_getElem? (get_ct h)
theorem CellsOk.p {wide : Int} {lot : Lot} (h : CellsOk wide lot) : LotP lot := by
  refine ⟨h.len, fun k hk => (h.at_ _ (ct_mem hk)).a0, ?_, fun k hk => (h.at_ _ (ct_mem hk)).a1⟩
  intro j k hjk hk
  have hj : j < lot.length := by omega
  have := List.pairwise_iff_getElem.mp h.asc j k hj hk hjk
  have e1 := get_ct hj
  have e2 := get_ct hk
  rw [List.getElem?_eq_getElem hj] at e1
  rw [List.getElem?_eq_getElem hk] at e2
  have e1' := Option.some.inj e1
  have e2' := Option.some.inj e2
  rw [e1', e2'] at this
  omega
end Lw

set_option Elab.async false
set_option linter.all false
set_option maxRecDepth 100000
set_option maxHeartbeats 4000000
namespace Lw
open PySem PySem.Spec PyProof.Rows L2 Evl G Dl
/-- a line under way: the cells of lf are there yet, an output g has been served in the slots below h g -/
structure LI (up : Bool) (lot : Lot) (h : Int → Int) (line : List Int) (lf : List Nat) : Prop where
  len : line.length = lot.length
  asc : lf.Pairwise (· < ·)
  inn : ∀ k, k ∈ lf → k < lot.length
  done : ∀ k, k < lot.length → k ∉ lf → (ct lot k).1 ≤ lx line k ∧ lx line k < h (ct lot k).2.2
  busy : ∀ k, k < lot.length → ∀ t, (ct lot k).1 ≤ t → t < h (ct lot k).2.2 → (k ∈ lf ∨ t ≤ lx line k) → ∃ j, j < lot.length ∧ j ∉ lf ∧ (ct lot j).2.2 = (ct lot k).2.2 ∧ lx line j = t
  pick : ∀ k, k < lot.length → ∀ j, j < lot.length → j ∉ lf → (ct lot k).2.2 = (ct lot j).2.2 → (ct lot k).1 ≤ lx line j → (k ∈ lf ∨ lx line j ≤ lx line k) → if up = true then k ≤ j else j ≤ k
theorem LI.init {up : Bool} {lot : Lot} (h0 : ∀ k, k < lot.length → 0 ≤ (ct lot k).1) : LI up lot (fun _ => 0) (List.replicate lot.length 0) (List.range lot.length) := by
  have e : ∀ j, j < lot.length → j ∉ List.range lot.length → False := fun j hj h => h (List.mem_range.mpr hj)
  refine ⟨by simp, List.pairwise_lt_range, fun k h => List.mem_range.mp h, fun k hk h => (e k hk h).elim, ?_, fun k hk j hj h => (e j hj h).elim⟩
  intro k hk t h1 h2
  have := h0 k hk
  omega
theorem LI.served {up : Bool} {lot : Lot} {h : Int → Int} {line : List Int} (I : LI up lot h line []) : Served up lot line := by
  have n : ∀ k : Nat, k ∉ ([] : List Nat) := fun k => by simp
  refine ⟨I.len, fun k hk => (I.done k hk (n k)).1, ?_, fun k hk j hj ho h1 h2 => I.pick k hk j hj (n j) ho h1 (Or.inr h2)⟩
  intro k hk t h1 h2
  obtain ⟨j, hj, _, ho, hl⟩ := I.busy k hk t h1 (by have := (I.done k hk (n k)).2; omega) (Or.inr h2)
  exact ⟨j, hj, ho, hl⟩
theorem LI.rest {up : Bool} {lot : Lot} {h : Int → Int} {line : List Int} {lf : List Nat} {g at_ : Int} (I : LI up lot h line lf) (hg : h g = at_) (no : ∀ k, k ∈ lf → (ct lot k).2.2 = g → at_ < (ct lot k).1) :
    LI up lot (putF h g (at_ + 1)) line lf := by
  refine ⟨I.len, I.asc, I.inn, ?_, ?_, I.pick⟩
  · intro k hk hn
    have := I.done k hk hn
    unfold putF
    split
    · rename_i q
      rw [q] at this
      omega
    · exact this
  · intro k hk t h1 h2 h3
    unfold putF at h2
    split at h2
    · rename_i q
      by_cases e : t = at_
      · exfalso
        rcases h3 with h3 | h3
        · have := no k h3 q
          omega
        · by_cases m : k ∈ lf
          · have := no k m q
            omega
          · have := (I.done k hk m).2
            rw [q] at this
            omega
      · exact I.busy k hk t h1 (by rw [q]; omega) h3
    · exact I.busy k hk t h1 h2 h3
theorem LI.send {up : Bool} {lot : Lot} {h : Int → Int} {line : List Int} {lf : List Nat} {g at_ : Int} {m : Nat} (I : LI up lot h line lf) (hg : h g = at_) (hm : m ∈ lf) (ho : (ct lot m).2.2 = g) (hs : (ct lot m).1 ≤ at_)
    (ch : ∀ k, k ∈ lf → (ct lot k).2.2 = g → (ct lot k).1 ≤ at_ → if up = true then k ≤ m else m ≤ k) :
    LI up lot (putF h g (at_ + 1)) (line.set m at_) (lf.erase m) := by
  have nd : lf.Nodup := I.asc.imp fun a => Nat.ne_of_lt a
  have er : ∀ k, k ∈ lf.erase m ↔ k ≠ m ∧ k ∈ lf := fun k => nd.mem_erase_iff
  have ml := I.inn m hm
  have ml2 : m < line.length := by rw [I.len]; exact ml
  have mono : ∀ x, h x ≤ putF h g (at_ + 1) x := by
    intro x
    unfold putF
    split
    · rename_i q
      rw [q]
      omega
    · omega
  refine ⟨by simp [I.len], I.asc.sublist List.erase_sublist, fun k hk => I.inn k ((er k).mp hk).2, ?_, ?_, ?_⟩
  · intro k hk hn
    rw [lx_set ml2]
    by_cases q : k = m
    · rw [if_pos q, q]
      refine ⟨hs, ?_⟩
      unfold putF
      rw [if_pos ho]
      omega
    · rw [if_neg q]
      have := I.done k hk (fun z => hn ((er k).mpr ⟨q, z⟩))
      have := mono (ct lot k).2.2
      omega
  · intro k hk t h1 h2 h3
    by_cases e : (ct lot k).2.2 = g ∧ t = at_
    · exact ⟨m, ml, fun z => ((er m).mp z).1 rfl, ho.trans e.1.symm, by rw [lx_set ml2, if_pos rfl, e.2]⟩
    · have h2' : t < h (ct lot k).2.2 := by
        unfold putF at h2
        split at h2
        · rename_i q
          rw [q, hg]
          have : t ≠ at_ := fun z => e ⟨q, z⟩
          omega
        · exact h2
      have h3' : k ∈ lf ∨ t ≤ lx line k := by
        rcases h3 with h3 | h3
        · exact Or.inl ((er k).mp h3).2
        · rw [lx_set ml2] at h3
          by_cases q : k = m
          · exact Or.inl (q ▸ hm)
          · rw [if_neg q] at h3
            exact Or.inr h3
      obtain ⟨j, hj, hn, hjo, hl⟩ := I.busy k hk t h1 h2' h3'
      have jm : j ≠ m := fun z => hn (z ▸ hm)
      exact ⟨j, hj, fun z => hn ((er j).mp z).2, hjo, by rw [lx_set ml2, if_neg jm, hl]⟩
  · intro k hk j hj hn hjo h1 h2
    rw [lx_set ml2] at h1 h2
    by_cases q : j = m
    · rw [if_pos q] at h1 h2
      subst q
      by_cases q2 : k = j
      · cases up <;> simp <;> omega
      · have kl : k ∈ lf := by
          rcases h2 with h2 | h2
          · exact ((er k).mp h2).2
          · rw [lx_set ml2, if_neg q2] at h2
            apply Classical.byContradiction
            intro z
            have := (I.done k hk z).2
            rw [hjo, ho, hg] at this
            omega
        exact ch k kl (hjo.trans ho) h1
    · rw [if_neg q] at h1 h2
      have jn : j ∉ lf := fun z => hn ((er j).mpr ⟨q, z⟩)
      refine I.pick k hk j hj jn hjo h1 ?_
      rcases h2 with h2 | h2
      · exact Or.inl ((er k).mp h2).2
      · rw [lx_set ml2] at h2
        by_cases q2 : k = m
        · exact Or.inl (q2 ▸ hm)
        · rw [if_neg q2] at h2
          exact Or.inr h2
end Lw

set_option Elab.async false
set_option linter.all false
set_option maxRecDepth 100000
set_option maxHeartbeats 4000000
namespace Lw
open PySem PySem.Spec PyProof.Rows L2 Evl G Dl
local macro_rules | `(tactic| walk_at "ev") => `(tactic| simp [dVar, dC, dOp, dChain, dUn, dB, dAnd, dOr, dNot, dAndV, dOrV, dNotV, dIf, dNil, dCons, dTup, dLst, dCall, dCallN, dFreeze, dIxOwn, dIxCel, dPeek, dPeekT, dPeekN, dNoPart, dPart, dSlN, dSl, dRepN, dRng1, dIsi, isT, dGetK,
  eP, eTP, eAP, eOp, eB, eAnd, eOr, eNot, eAndV, eOrV, eIf, eNil, eCons, eTup, eLst, eCall, eCell, ownsAt, Slot.owns, sNext, sSeq, sCut, sBreak, sCont, sNever, sDrop, sRet, sRetN, sIf, sSet, sOwn, sAug, sRetL, sRetO, sApp, sItem, sRem, sMany, sFreeze, sDict, sPutK,
  mNil, mDat, mOwn, emP, emE, gN, gTn_nil, gTc_cons, gT_tuple, iL, iT, iR1, iR2, iE, iZ, setAll, lstAt, putLst, scalD, dYes,
  gII_int, gAdd_int, gAdd_list, gAdd_tuple, gSub_int, gMulI_int, gMul_int, gDiv_int, gMod_int, gPow_int, gLt_int, gLe_int, gGt_int, gGe_int, gIx_list, gIx_tuple, gSl_list, gSl_tuple, gLen_list, gLen_tuple, gAbs_int, gMax2_int, gMin2_int, gInt1_int, gInt1_bool, gList_list, gList_tuple, gReprS_list, gReprS_tuple, gEq_int, gNe_int, gNeg_int, gLeA_int, gLeA_tuple,
  L2.atI, wipeD, ixN, startC, startD])
theorem natD_ints (l : List Nat) : l.map natD = (l.map fun k : Nat => (k : Int)).map .int := by
  rw [List.map_map]
  rfl
theorem erase_natD (l : List Nat) (m : Nat) : ((l.map fun k : Nat => (k : Int)).erase (m : Int)) = ((l.erase m).map fun k : Nat => (k : Int)) := by
  induction l with
  | nil => rfl
  | cons x l ih =>
    by_cases q : x = m
    · subst q
      simp
    · have q2 : ¬ (x : Int) = (m : Int) := by omega
      rw [List.map_cons, List.erase_cons_tail (by simpa using q2), List.erase_cons_tail (by simpa using q), List.map_cons, ih]
def hz (a i : Nat) : Int → Int := fun x => if 0 ≤ x ∧ x < (i : Int) then (a : Int) + 1 else a
theorem hz_next (a i : Nat) : putF (hz a i) (i : Int) ((a : Int) + 1) = hz a (i + 1) := by
  funext x
  unfold putF hz
  by_cases q : x = (i : Int)
  · rw [if_pos q, if_pos (by omega)]
  · rw [if_neg q]
    by_cases q2 : 0 ≤ x ∧ x < (i : Int)
    · rw [if_pos q2, if_pos (by omega)]
    · rw [if_neg q2, if_neg (by omega)]
/-- the cells of an output that wait, of those that are there -/
def some_ (lot : Lot) (lf : List Nat) (g t : Int) : List Nat := lf.filter fun k => decide ((ct lot k).2.2 = g) && decide ((ct lot k).1 ≤ t)
end Lw

set_option Elab.async false
set_option linter.all false
set_option maxRecDepth 100000
set_option maxHeartbeats 4000000
namespace Lw
open PySem PySem.Spec PyProof.Rows L2 Evl G Dl
/-- a line under way, of any way (0: first, 1: last, 2: any, 3: any with rests): the cells of lf are there yet, an output g has been served in the slots below h g -/
structure LJ (way : Int) (lot : Lot) (h : Int → Int) (line : List Int) (lf : List Nat) : Prop where
  len : line.length = lot.length
  asc : lf.Pairwise (· < ·)
  inn : ∀ k, k ∈ lf → k < lot.length
  done : ∀ k, k < lot.length → k ∉ lf → (ct lot k).1 ≤ lx line k ∧ lx line k < h (ct lot k).2.2
  busy : way < 3 → ∀ k, k < lot.length → ∀ t, (ct lot k).1 ≤ t → t < h (ct lot k).2.2 → (k ∈ lf ∨ t ≤ lx line k) → ∃ j, j < lot.length ∧ j ∉ lf ∧ (ct lot j).2.2 = (ct lot k).2.2 ∧ lx line j = t
  pick : way < 2 → ∀ k, k < lot.length → ∀ j, j < lot.length → j ∉ lf → (ct lot k).2.2 = (ct lot j).2.2 → (ct lot k).1 ≤ lx line j → (k ∈ lf ∨ lx line j ≤ lx line k) → if way = 1 then k ≤ j else j ≤ k
  dist : ∀ j, j < lot.length → ∀ k, k < lot.length → j ∉ lf → k ∉ lf → (ct lot j).2.2 = (ct lot k).2.2 → lx line j = lx line k → j = k
theorem LJ.init {way : Int} {lot : Lot} (h0 : ∀ k, k < lot.length → 0 ≤ (ct lot k).1) : LJ way lot (fun _ => 0) (List.replicate lot.length 0) (List.range lot.length) := by
  have e : ∀ j, j < lot.length → j ∉ List.range lot.length → False := fun j hj h => h (List.mem_range.mpr hj)
  refine ⟨by simp, List.pairwise_lt_range, fun k h => List.mem_range.mp h, fun k hk h => (e k hk h).elim, ?_, fun _ k hk j hj h => (e j hj h).elim, fun j hj k hk h => (e j hj h).elim⟩
  intro _ k hk t h1 h2
  have := h0 k hk
  omega
theorem LJ.served {way : Int} {lot : Lot} {h : Int → Int} {line : List Int} (I : LJ way lot h line []) (hw : way < 2) : Served (decide (way = 1)) lot line := by
  have n : ∀ k : Nat, k ∉ ([] : List Nat) := fun k => by simp
  refine ⟨I.len, fun k hk => (I.done k hk (n k)).1, ?_, fun k hk j hj ho h1 h2 => by simpa using I.pick hw k hk j hj (n j) ho h1 (Or.inr h2)⟩
  intro k hk t h1 h2
  obtain ⟨j, hj, _, ho, hl⟩ := I.busy (by omega) k hk t h1 (by have := (I.done k hk (n k)).2; omega) (Or.inr h2)
  exact ⟨j, hj, ho, hl⟩
theorem LJ.rest {way : Int} {lot : Lot} {h : Int → Int} {line : List Int} {lf : List Nat} {g at_ : Int} (I : LJ way lot h line lf) (hg : h g = at_) (no : way < 3 → ∀ k, k ∈ lf → (ct lot k).2.2 = g → at_ < (ct lot k).1) :
    LJ way lot (putF h g (at_ + 1)) line lf := by
  refine ⟨I.len, I.asc, I.inn, ?_, ?_, I.pick, I.dist⟩
  · intro k hk hn
    have := I.done k hk hn
    unfold putF
    split
    · rename_i q
      rw [q] at this
      omega
    · exact this
  · intro hw k hk t h1 h2 h3
    have no := no hw
    unfold putF at h2
    split at h2
    · rename_i q
      by_cases e : t = at_
      · exfalso
        rcases h3 with h3 | h3
        · have := no k h3 q
          omega
        · by_cases m : k ∈ lf
          · have := no k m q
            omega
          · have := (I.done k hk m).2
            rw [q] at this
            omega
      · exact I.busy hw k hk t h1 (by rw [q]; omega) h3
    · exact I.busy hw k hk t h1 h2 h3
theorem LJ.send {way : Int} {lot : Lot} {h : Int → Int} {line : List Int} {lf : List Nat} {g at_ : Int} {m : Nat} (I : LJ way lot h line lf) (hg : h g = at_) (hm : m ∈ lf) (ho : (ct lot m).2.2 = g) (hs : (ct lot m).1 ≤ at_)
    (ch : way < 2 → ∀ k, k ∈ lf → (ct lot k).2.2 = g → (ct lot k).1 ≤ at_ → if way = 1 then k ≤ m else m ≤ k) :
    LJ way lot (putF h g (at_ + 1)) (line.set m at_) (lf.erase m) := by
  have nd : lf.Nodup := I.asc.imp fun a => Nat.ne_of_lt a
  have er : ∀ k, k ∈ lf.erase m ↔ k ≠ m ∧ k ∈ lf := fun k => nd.mem_erase_iff
  have ml := I.inn m hm
  have ml2 : m < line.length := by rw [I.len]; exact ml
  have mono : ∀ x, h x ≤ putF h g (at_ + 1) x := by
    intro x
    unfold putF
    split
    · rename_i q
      rw [q]
      omega
    · omega
  refine ⟨by simp [I.len], I.asc.sublist List.erase_sublist, fun k hk => I.inn k ((er k).mp hk).2, ?_, ?_, ?_, ?_⟩
  · intro k hk hn
    rw [lx_set ml2]
    by_cases q : k = m
    · rw [if_pos q, q]
      refine ⟨hs, ?_⟩
      unfold putF
      rw [if_pos ho]
      omega
    · rw [if_neg q]
      have := I.done k hk (fun z => hn ((er k).mpr ⟨q, z⟩))
      have := mono (ct lot k).2.2
      omega
  · intro hw k hk t h1 h2 h3
    by_cases e : (ct lot k).2.2 = g ∧ t = at_
    · exact ⟨m, ml, fun z => ((er m).mp z).1 rfl, ho.trans e.1.symm, by rw [lx_set ml2, if_pos rfl, e.2]⟩
    · have h2' : t < h (ct lot k).2.2 := by
        unfold putF at h2
        split at h2
        · rename_i q
          rw [q, hg]
          have : t ≠ at_ := fun z => e ⟨q, z⟩
          omega
        · exact h2
      have h3' : k ∈ lf ∨ t ≤ lx line k := by
        rcases h3 with h3 | h3
        · exact Or.inl ((er k).mp h3).2
        · rw [lx_set ml2] at h3
          by_cases q : k = m
          · exact Or.inl (q ▸ hm)
          · rw [if_neg q] at h3
            exact Or.inr h3
      obtain ⟨j, hj, hn, hjo, hl⟩ := I.busy hw k hk t h1 h2' h3'
      have jm : j ≠ m := fun z => hn (z ▸ hm)
      exact ⟨j, hj, fun z => hn ((er j).mp z).2, hjo, by rw [lx_set ml2, if_neg jm, hl]⟩
  · intro hw k hk j hj hn hjo h1 h2
    have ch := ch hw
    rw [lx_set ml2] at h1 h2
    by_cases q : j = m
    · rw [if_pos q] at h1 h2
      subst q
      by_cases q2 : k = j
      · split <;> omega
      · have kl : k ∈ lf := by
          rcases h2 with h2 | h2
          · exact ((er k).mp h2).2
          · rw [lx_set ml2, if_neg q2] at h2
            apply Classical.byContradiction
            intro z
            have := (I.done k hk z).2
            rw [hjo, ho, hg] at this
            omega
        exact ch k kl (hjo.trans ho) h1
    · rw [if_neg q] at h1 h2
      have jn : j ∉ lf := fun z => hn ((er j).mpr ⟨q, z⟩)
      refine I.pick hw k hk j hj jn hjo h1 ?_
      rcases h2 with h2 | h2
      · exact Or.inl ((er k).mp h2).2
      · rw [lx_set ml2] at h2
        by_cases q2 : k = m
        · exact Or.inl (q2 ▸ hm)
        · rw [if_neg q2] at h2
          exact Or.inr h2
  · intro j hj k hk hn1 hn2 hjk hl
    rw [lx_set ml2, lx_set ml2] at hl
    by_cases q1 : j = m
    · by_cases q2 : k = m
      · rw [q1, q2]
      · exfalso
        rw [if_pos q1, if_neg q2] at hl
        have := (I.done k hk fun z => hn2 ((er k).mpr ⟨q2, z⟩)).2
        rw [← hjk, q1, ho, hg] at this
        omega
    · by_cases q2 : k = m
      · exfalso
        rw [if_neg q1, if_pos q2] at hl
        have := (I.done j hj fun z => hn1 ((er j).mpr ⟨q1, z⟩)).2
        rw [hjk, q2, ho, hg] at this
        omega
      · rw [if_neg q1, if_neg q2] at hl
        exact I.dist j hj k hk (fun z => hn1 ((er j).mpr ⟨q1, z⟩)) (fun z => hn2 ((er k).mpr ⟨q2, z⟩)) hjk hl
end Lw

set_option Elab.async false
set_option linter.all false
set_option maxRecDepth 100000
set_option maxHeartbeats 4000000
namespace Lw
open PySem PySem.Spec PyProof.Rows L2 Evl G Dl
local macro_rules | `(tactic| walk_at "ev") => `(tactic| simp [dVar, dC, dOp, dChain, dUn, dB, dAnd, dOr, dNot, dAndV, dOrV, dNotV, dIf, dNil, dCons, dTup, dLst, dCall, dCallN, dFreeze, dIxOwn, dIxCel, dPeek, dPeekT, dPeekN, dNoPart, dPart, dSlN, dSl, dRepN, dRng1, dIsi, isT, dGetK,
  eP, eTP, eAP, eOp, eB, eAnd, eOr, eNot, eAndV, eOrV, eIf, eNil, eCons, eTup, eLst, eCall, eCell, ownsAt, Slot.owns, sNext, sSeq, sCut, sBreak, sCont, sNever, sDrop, sRet, sRetN, sIf, sSet, sOwn, sAug, sRetL, sRetO, sApp, sItem, sRem, sMany, sFreeze, sDict, sPutK,
  mNil, mDat, mOwn, emP, emE, gN, gTn_nil, gTc_cons, gT_tuple, iL, iT, iR1, iR2, iE, iZ, setAll, lstAt, putLst, scalD, dYes,
  gII_int, gAdd_int, gAdd_list, gAdd_tuple, gSub_int, gMulI_int, gMul_int, gDiv_int, gMod_int, gPow_int, gLt_int, gLe_int, gGt_int, gGe_int, gIx_list, gIx_tuple, gSl_list, gSl_tuple, gLen_list, gLen_tuple, gAbs_int, gMax2_int, gMin2_int, gInt1_int, gInt1_bool, gList_list, gList_tuple, gReprS_list, gReprS_tuple, gEq_int, gNe_int, gNeg_int, gLeA_int, gLeA_tuple,
  L2.atI, wipeD, ixN, startC, startD])
theorem LJ.congr {way : Int} {lot : Lot} {h h' : Int → Int} {line : List Int} {lf : List Nat} (I : LJ way lot h line lf) (e : ∀ k, k < lot.length → h (ct lot k).2.2 = h' (ct lot k).2.2) : LJ way lot h' line lf := by
  refine ⟨I.len, I.asc, I.inn, ?_, ?_, I.pick, I.dist⟩
  · intro k hk hn
    rw [← e k hk]
    exact I.done k hk hn
  · intro hw k hk t h1 h2
    rw [← e k hk] at h2
    exact I.busy hw k hk t h1 h2
/-- what a line of the law's own keeps, of any way -/
structure LineOk (way : Int) (lot : Lot) (line : List Int) : Prop where
  len : line.length = lot.length
  ge : ∀ k, k < lot.length → (ct lot k).1 ≤ lx line k ∧ lx line k ≤ 110
  busy : way < 3 → ∀ k, k < lot.length → ∀ t, (ct lot k).1 ≤ t → t ≤ lx line k → ∃ j, j < lot.length ∧ (ct lot j).2.2 = (ct lot k).2.2 ∧ lx line j = t
  dist : ∀ j, j < lot.length → ∀ k, k < lot.length → (ct lot j).2.2 = (ct lot k).2.2 → lx line j = lx line k → j = k
  serv : way < 2 → Served (decide (way = 1)) lot line
def pr_lineG (cs ds : List D) (P : D → List D → Prop) : Prop := ∃ (n : Int) (lot : Lot) (way : Int), SrcAt n cs ∧ n + 2000 < 10 ^ 9 ∧ ds = [.list (lot.map cellD), .int way] ∧ (0 ≤ way ∧ way ≤ 3) ∧ LotP lot ∧
  (∀ k, k < lot.length → 0 ≤ (ct lot k).2.2 ∧ (ct lot k).2.2 < 8) ∧ (∀ k, k < lot.length → (ct lot k).1 ≤ 40) ∧ ∀ line cs', LineOk way lot line → SrcAt (n + 1500) cs' → P (.list (line.map .int)) cs'
theorem sem_lineG (cs ds : List D) (Q : D → List D → Prop) (h : pr_lineG cs ds Q) :
    body_line pr_draw { nx := fun ρ => ∃ cs', ρ[0]? = some (.cel cs') ∧ Q .none cs', rt := fun d ρ => ∃ cs', ρ[0]? = some (.cel cs') ∧ Q d cs', rn := fun xs ρ => ∃ cs', ρ[0]? = some (.cel cs') ∧ Q (.list xs) cs' } (startC N_line cs ds) := by
  obtain ⟨n, lot, way, hs, hn, rfl, hw, hp, hout, h40, k⟩ := h
  have hl := hp.len
  unfold body_line
  walk_at "ev"
  refine ⟨by omega, ?_⟩
  unfold sWhile
  let I : Nat → Dl.Env → Prop := fun m ρ => ∃ cs line lf s6 s7 s8, ∃ a : Nat, ρ = [.cel cs, .dat (.list (lot.map cellD)), .dat (.int way), .own (line.map .int), .own (lf.map natD), .dat (.int (a : Int)), s6, s7, s8] ∧
    LJ way lot (fun _ => (a : Int)) line lf ∧ SrcAt (n + 8 * (a : Int) + (lot.length - lf.length : Int)) cs ∧ lf.length ≤ lot.length ∧ m = (10 ^ 30 - a) + lf.length ∧ a + lf.length ≤ 45 + lot.length
  refine ⟨I, ⟨_, cs, List.replicate lot.length 0, List.range lot.length, .no, .no, .no, 0, ?_, LJ.init hp.h0, by simpa using hs, by simp, rfl, by simp⟩, ?_⟩
  · unfold rangeD
    rw [List.map_replicate]
    simp [natD]
  · rintro m ρ ⟨cs1, line, lf, s6, s7, s8, a, rfl, li, hs1, hlf, hm, hab⟩
    have hsomeG : ∀ (l : List Nat) (P : D → Prop), gNe (.list (l.map natD)) (.list []) P = P (.bool (!decide (l = []))) := by
      intro l P
      rw [natD_ints]
      have := gNe_ints (ns := l.map fun k : Nat => (k : Int)) (ms := []) (P := P)
      rw [List.map_nil] at this
      rw [this]
      simp
    have hsome : ∀ P : D → Prop, gNe (.list (lf.map natD)) (.list []) P = P (.bool (!decide (lf = []))) := by
      intro P
      rw [natD_ints]
      have := gNe_ints (ns := lf.map fun k : Nat => (k : Int)) (ms := []) (P := P)
      rw [List.map_nil] at this
      rw [this]
      simp
    walk_at "ev"
    rw [hsome]
    walk_at "ev"
    by_cases hne : lf = []
    · left
      subst hne
      have nn : ∀ k : Nat, k ∉ ([] : List Nat) := fun k => by simp
      have ha : a ≤ 105 := by simp at hab; omega
      refine ⟨rfl, k _ _ ⟨li.len, fun k hk => ?_, fun hw k hk t h1 h2 => ?_, fun j hj k hk => li.dist j hj k hk (nn j) (nn k), fun hw => li.served hw⟩ (hs1.mono (by simp; omega))⟩
      · have := li.done k hk (nn k)
        omega
      · obtain ⟨j, hj, _, ho, hl⟩ := li.busy hw k hk t h1 (by have := (li.done k hk (nn k)).2; omega) (Or.inr h2)
        exact ⟨j, hj, ho, hl⟩
    · right
      refine ⟨hne, ?_⟩
      unfold lp_line_2
      walk_at "ev"
      let J : Nat → Dl.Env → Prop := fun i ρ => ∃ cs line2 lf2 s6 s7 s8, ρ = [.cel cs, .dat (.list (lot.map cellD)), .dat (.int way), .own (line2.map .int), .own (lf2.map natD), .dat (.int (a : Int)), s6, s7, s8] ∧
        LJ way lot (hz a i) line2 lf2 ∧ SrcAt (n + 8 * (a : Int) + (i : Int) + (lot.length - lf2.length : Int)) cs ∧ lf2.length ≤ lf.length ∧ (lf2.length = lf.length → lf2 = lf ∧ (a ≤ 40 ∨ ∀ k, k ∈ lf → (ct lot k).2.2 < (i : Int) → (a : Int) < (ct lot k).1))
      refine for_range1 (n := 8) (fun P h => by walk_at "ev"; exact h) J ⟨cs1, line, lf, _, _, _, rfl, ?_, hs1.mono (by simp), Nat.le_refl _, fun _ => ⟨rfl, Or.inr fun k hk z => ?_⟩⟩ ?_ ?_
      · refine li.congr fun k hk => ?_
        unfold hz
        rw [if_neg (by omega)]
      · have := hout k (li.inn k hk)
        simp at z
        omega
      · rintro i ρ hi ⟨cs2, line2, lf2, t6, t7, t8, rfl, li2, hs2, hle, heq⟩
        unfold lp_line_1
        walk_at "ev"
        have lf2n : lf2.length ≤ 60 := by omega
        refine lc_fun (xs := lf2.map natD) (fun d => match d with | .int k => decide ((ct lot k.toNat).2.2 = (i : Int)) && decide ((ct lot k.toNat).1 ≤ (a : Int)) | _ => false) id ?_ (by simp; omega) ?_ ?_
        · intro P hP
          walk_at "ev"
          exact hP
        · intro d hd B k h1 h2
          obtain ⟨j, hj, rfl⟩ := List.mem_map.mp hd
          have jl := li2.inn j hj
          have a1 := atI_ct jl
          have e : cellD (ct lot j) = .tuple [.int (ct lot j).1, .int (ct lot j).2.1, .int (ct lot j).2.2] := rfl
          rw [e] at a1
          unfold natD at h1 h2 ⊢
          simp only [dVar, dC, dOp, dAnd, dB, gN, dFreeze]
          refine ⟨_, rfl, _, rfl, ?_⟩
          rw [gIx_list]
          refine ⟨_, a1, ?_⟩
          rw [gIx_tuple]
          refine ⟨_, rfl, _, rfl, ?_⟩
          rw [gEq_int]
          refine ⟨_, rfl, ?_⟩
          by_cases q : (ct lot j).2.2 = (i : Int)
          · rw [if_pos (by simpa using q)]
            refine ⟨_, rfl, _, rfl, ?_⟩
            rw [gIx_list]
            refine ⟨_, a1, ?_⟩
            rw [gIx_tuple]
            refine ⟨_, rfl, _, rfl, ?_⟩
            rw [gLeA_int]
            refine ⟨_, rfl, ?_⟩
            by_cases q2 : (ct lot j).1 ≤ (a : Int)
            · rw [if_pos (by simpa using q2)]
              exact ⟨_, rfl, h1 (by simp [q, q2])⟩
            · rw [if_neg (by simpa using q2)]
              exact h2 (by simp [q2])
          · rw [if_neg (by simpa using q)]
            rw [if_neg (by simp)]
            exact h2 (by simp [q])
        · have e : (((lf2.map natD).filter fun d => match d with | .int k => decide ((ct lot k.toNat).2.2 = (i : Int)) && decide ((ct lot k.toNat).1 ≤ (a : Int)) | _ => false).map id) = (some_ lot lf2 i a).map natD := by
            rw [List.map_id, List.filter_map]
            rfl
          rw [e]
          refine ⟨?_, ?_⟩
          · intro x hx
            obtain ⟨j, _, rfl⟩ := List.mem_map.mp hx
            rfl
          rw [hsomeG]
          have inS : ∀ j, j ∈ some_ lot lf2 i a ↔ j ∈ lf2 ∧ (ct lot j).2.2 = (i : Int) ∧ (ct lot j).1 ≤ (a : Int) := by
            intro j
            unfold some_
            rw [List.mem_filter]
            simp
          by_cases hS : some_ lot lf2 i a = []
          · left
            refine ⟨by simp [hS], cs2, line2, lf2, _, _, _, rfl, ?_, hs2.mono (by simp; omega), hle, ?_⟩
            · rw [← hz_next]
              refine li2.rest (by unfold hz; rw [if_neg (by omega)]) ?_
              intro _ j hj ho
              apply Classical.byContradiction
              intro z
              have := (inS j).mpr ⟨hj, ho, by omega⟩
              rw [hS] at this
              simp at this
            · intro z
              obtain ⟨e1, e2⟩ := heq z
              refine ⟨e1, ?_⟩
              rcases e2 with e2 | e2
              · exact Or.inl e2
              refine Or.inr fun j hj hlt => ?_
              by_cases q : (ct lot j).2.2 = (i : Int)
              · apply Classical.byContradiction
                intro z
                have := (inS j).mpr ⟨e1 ▸ hj, q, by omega⟩
                rw [hS] at this
                simp at this
              · exact e2 j hj (by simp at hlt; omega)
          · right
            refine ⟨by simp [hS], ?_⟩
            have S0 : 0 < (some_ lot lf2 i a).length := List.length_pos_iff.mpr hS
            have S1 : (some_ lot lf2 i a).length ≤ 60 := Nat.le_trans (List.length_filter_le _ _) lf2n
            have pick : ∀ cs2b, SrcAt (n + 8 * (a : Int) + (i : Int) + 1 + (lot.length - lf2.length : Int)) cs2b → pr_draw cs2b [PyData.int (((some_ lot lf2 i a).map natD).length : Nat)] fun d cs' =>
                ∃ d_1, ((if 0 ≤ if 2 < way then 2 else way then if (if 2 < way then 2 else way) < 3 then some (if 2 < way then 2 else way).toNat else none
                  else if -3 ≤ if 2 < way then 2 else way then some ((if 2 < way then 2 else way) + 3).toNat else none).bind fun j => [PyData.int 0, PyData.int ((((some_ lot lf2 i a).map natD).length : Int) - 1), d][j]?) = some d_1 ∧
                  gIx (PyData.list ((some_ lot lf2 i a).map natD)) d_1 fun z => ∃ j, z = PyData.int j ∧ ∃ n, (if 0 ≤ j then if j < (line2.length : Int) then some j.toNat else none else if -(line2.length : Int) ≤ j then some (j + line2.length).toNat else none) = some n ∧
                    ∃ ns : List Int, List.map natD lf2 = List.map PyData.int ns ∧ ∃ x, z = PyData.int x ∧ x ∈ ns ∧ J (i + 1) [.cel cs', .dat (.list (lot.map cellD)), .dat (.int way), .own ((List.map PyData.int line2).set n (.int (a : Int))), .own (List.map PyData.int (ns.erase x)), .dat (.int (a : Int)), .dat (.int (i : Int)), .dat (.list ((some_ lot lf2 i a).map natD)), .dat z] := by
              rw [List.length_map]
              intro cs2b hs2b
              refine run_draw hs2b (by omega) (by omega) (by omega) fun r cs3 r0 r1 hs3 => ?_
              obtain ⟨m', jx, hjx, hget, hch⟩ : ∃ (m' jx : Nat), (((if 0 ≤ if 2 < way then 2 else way then if (if 2 < way then 2 else way) < 3 then some (if 2 < way then 2 else way).toNat else none
                  else if -3 ≤ if 2 < way then 2 else way then some ((if 2 < way then 2 else way) + 3).toNat else none).bind fun j => [PyData.int 0, PyData.int (((some_ lot lf2 i a).length : Int) - 1), PyData.int r][j]?) = some (.int (jx : Nat))) ∧
                  (some_ lot lf2 i a)[jx]? = some m' ∧ (way < 2 → ∀ j, j ∈ some_ lot lf2 i a → if way = 1 then j ≤ m' else m' ≤ j) := by
                have srt : (some_ lot lf2 i a).Pairwise (· < ·) := List.Pairwise.filter _ li2.asc
                rcases (by omega : way = 0 ∨ way = 1 ∨ 2 ≤ way) with rfl | rfl | w2
                · refine ⟨(some_ lot lf2 i a)[0], 0, rfl, List.getElem?_eq_getElem S0, ?_⟩
                  intro _ j hj
                  obtain ⟨x, hx, rfl⟩ := List.mem_iff_getElem.mp hj
                  simp
                  by_cases q : x = 0
                  · subst q
                    exact Nat.le_refl _
                  · exact Nat.le_of_lt (List.pairwise_iff_getElem.mp srt 0 x S0 hx (by omega))
                · refine ⟨(some_ lot lf2 i a)[(some_ lot lf2 i a).length - 1]'(by omega), (some_ lot lf2 i a).length - 1, ?_, List.getElem?_eq_getElem (by omega), ?_⟩
                  · simp
                    omega
                  · intro _ j hj
                    obtain ⟨x, hx, rfl⟩ := List.mem_iff_getElem.mp hj
                    simp
                    by_cases q : x = (some_ lot lf2 i a).length - 1
                    · subst q
                      exact Nat.le_refl _
                    · exact Nat.le_of_lt (List.pairwise_iff_getElem.mp srt x _ hx (by omega) (by omega))
                · refine ⟨(some_ lot lf2 i a)[r.toNat]'(by omega), r.toNat, ?_, List.getElem?_eq_getElem (by omega), fun z => by omega⟩
                  have e2 : (if 2 < way then 2 else way) = 2 := by split <;> omega
                  rw [e2]
                  simp
                  omega
              refine ⟨_, hjx, ?_⟩
              have jl : jx < (some_ lot lf2 i a).length := (List.getElem?_eq_some_iff.mp hget).1
              have hin : m' ∈ some_ lot lf2 i a := List.mem_of_getElem? hget
              obtain ⟨in1, in2, in3⟩ := (inS m').mp hin
              have ml := li2.inn m' in1
              rw [gIx_list]
              refine ⟨.int (m' : Nat), ?_, m', rfl, m', ?_, lf2.map (fun k : Nat => (k : Int)), natD_ints lf2, m', rfl, ?_, ?_⟩
              · unfold L2.atI ixN
                rw [if_pos (by omega), if_pos (by simp; omega)]
                simp [hget]
                rfl
              · rw [if_pos (by omega), if_pos (by rw [li2.len]; omega)]
                rfl
              · exact List.mem_map.mpr ⟨m', in1, rfl⟩
              · refine ⟨cs3, line2.set m' a, lf2.erase m', .dat (.int (i : Int)), .dat (.list ((some_ lot lf2 i a).map natD)), .dat (.int (m' : Int)), ?_, ?_, ?_, ?_, ?_⟩
                · rw [erase_natD, ← natD_ints, List.map_set]
                · rw [← hz_next]
                  exact li2.send (by unfold hz; rw [if_neg (by omega)]) in1 in2 in3 fun hw2 j hj ho hs' => hch hw2 j ((inS j).mpr ⟨hj, ho, hs'⟩)
                · rw [List.length_erase_of_mem in1]
                  have : 0 < lf2.length := List.length_pos_of_mem in1
                  exact hs3.mono (by omega)
                · rw [List.length_erase_of_mem in1]
                  omega
                · intro z
                  rw [List.length_erase_of_mem in1] at z
                  have : 0 < lf2.length := List.length_pos_of_mem in1
                  omega
            by_cases w3 : 3 ≤ way
            · left
              refine ⟨w3, ?_⟩
              by_cases a40 : a ≤ 40
              · left
                refine ⟨by omega, run_draw hs2 (by omega) (by decide) (by decide) fun r cs3 r0 r1 hs3 => ?_⟩
                rw [gGt_int]
                by_cases hr : 0 < r
                · right
                  exact ⟨by simp [hr], pick cs3 (hs3.mono (by omega))⟩
                · left
                  refine ⟨by simp [hr], cs3, line2, lf2, _, _, _, rfl, ?_, hs3.mono (by simp; omega), hle, fun z => ⟨(heq z).1, Or.inl a40⟩⟩
                  rw [← hz_next]
                  exact li2.rest (by unfold hz; rw [if_neg (by omega)]) (fun z => by omega)
              · right
                exact ⟨by omega, pick cs2 (hs2.mono (by omega))⟩
            · right
              exact ⟨by omega, pick cs2 (hs2.mono (by omega))⟩
      · rintro ρ ⟨cs2, line2, lf2, t6, t7, t8, rfl, li2, hs2, hle, heq⟩
        walk_at "ev"
        refine ⟨10 ^ 30 - (a + 1) + lf2.length, ?_, cs2, line2, lf2, _, _, _, a + 1, rfl, ?_, hs2.mono (by simp; omega), by omega, rfl, ?_⟩
        · rw [hm]
          omega
        · refine li2.congr fun k hk => ?_
          have := hout k hk
          unfold hz
          rw [if_pos (by simp; omega)]
          simp
        · by_cases q : lf2.length = lf.length
          · obtain ⟨x, hx⟩ := List.exists_mem_of_ne_nil lf hne
            rcases (heq q).2 with h1 | h1
            · omega
            · have h2 := h1 x hx (hout x (li.inn x hx)).2
              have h3 := h40 x (li.inn x hx)
              omega
          · omega
end Lw

set_option Elab.async false
set_option linter.all false
set_option maxRecDepth 100000
set_option maxHeartbeats 4000000
namespace Rh
/-! rhythms: windows of a list of numbers that goes round -/
abbrev Beat := List Int
def bx (b : Beat) (k : Nat) : Int := b.getD k 0
/-- the sum of m slots from f on -/
def W (b : Beat) (f m : Nat) : Int := ((List.range m).map fun j => bx b ((f + j) % b.length)).sum
/-- all slots ahead of t -/
def ahead (b : Beat) (t : Int) : Int := t / (b.length : Int) * b.sum + (b.take (t % (b.length : Int)).toNat).sum
theorem W_zero {b : Beat} {f : Nat} : W b f 0 = 0 := rfl
theorem W_succ {b : Beat} {f m : Nat} : W b f (m + 1) = W b f m + bx b ((f + m) % b.length) := by
  unfold W
  rw [List.range_succ, List.map_append, List.sum_append]
  simp
theorem W_add {b : Beat} {f m : Nat} : ∀ k, W b f (m + k) = W b f m + W b (f + m) k
  | 0 => by simp [W_zero]
  | k + 1 => by
    rw [← Nat.add_assoc, W_succ, W_add k, W_succ]
    rw [show f + (m + k) = f + m + k by omega]
    omega
theorem W_mod {b : Beat} {f : Nat} : ∀ m, W b (f % b.length) m = W b f m
  | 0 => rfl
  | m + 1 => by
    rw [W_succ, W_succ, W_mod m, Nat.mod_add_mod]
theorem W_shift {b : Beat} {f : Nat} (m : Nat) : W b (f + b.length) m = W b f m := by
  rw [← W_mod, Nat.add_mod_right, W_mod]
theorem take_sum {b : Beat} : ∀ {r : Nat}, r ≤ b.length → (b.take r).sum = W b 0 r
  | 0, _ => rfl
  | r + 1, h => by
    have hr : r < b.length := h
    rw [W_succ, ← take_sum (b := b) (r := r) (by omega), Nat.zero_add, Nat.mod_eq_of_lt hr]
    rw [List.take_succ, List.sum_append]
    unfold bx
    rw [List.getD_eq_getElem?_getD, List.getElem?_eq_getElem hr]
    simp
theorem sum_W {b : Beat} : b.sum = W b 0 b.length := by
  rw [← take_sum (Nat.le_refl _), List.take_length]
theorem W_round {b : Beat} : ∀ f, W b f b.length = b.sum
  | 0 => sum_W.symm
  | f + 1 => by
    have h1 := W_add (b := b) (f := f) (m := 1) b.length
    have h2 := W_add (b := b) (f := f) (m := b.length) 1
    rw [Nat.add_comm 1 b.length] at h1
    have h3 := W_shift (b := b) (f := f) 1
    have h4 := W_round (b := b) f
    omega
theorem W_rounds {b : Beat} {f : Nat} (q r : Nat) : W b f (q * b.length + r) = q * b.sum + W b f r := by
  induction q with
  | zero => simp
  | succ q ih =>
    rw [show (q + 1) * b.length + r = b.length + (q * b.length + r) by rw [Nat.add_mul]; omega, W_add, W_shift, ih, W_round]
    have : ((q + 1 : Nat) : Int) * b.sum = (q : Int) * b.sum + b.sum := by
      rw [Int.natCast_add, Int.add_mul]
      simp
    omega
theorem ahead_W {b : Beat} (h : 1 ≤ b.length) (t : Nat) : ahead b (t : Int) = W b 0 t := by
  have e : t = t / b.length * b.length + t % b.length := by
    have := Nat.div_add_mod t b.length
    rw [Nat.mul_comm] at this
    omega
  have hr : t % b.length < b.length := Nat.mod_lt _ (by omega)
  unfold ahead
  rw [show ((t : Int) % (b.length : Int)).toNat = t % b.length by rw [← Int.natCast_emod]; exact Int.toNat_natCast _]
  rw [show (t : Int) / (b.length : Int) = ((t / b.length : Nat) : Int) from (Int.natCast_ediv t b.length).symm]
  rw [take_sum (by omega)]
  conv => rhs; rw [e]
  rw [W_rounds]
theorem ahead_diff {b : Beat} (h : 1 ≤ b.length) (f m : Nat) : ahead b ((f + m : Nat) : Int) - ahead b (f : Int) = W b f m := by
  rw [ahead_W h, ahead_W h, W_add, Nat.zero_add]
  omega
/-- windows of at most M slots are full -/
def Full (b : Beat) (M : Nat) : Prop := ∀ f, f < b.length → ∀ m, 1 ≤ m → m ≤ M → 2 * (m : Int) - 1 ≤ W b f m
theorem Full.mono {b : Beat} {M N : Nat} (h : Full b N) (e : M ≤ N) : Full b M := fun f hf m h1 h2 => h f hf m h1 (Nat.le_trans h2 e)
theorem Full.any {b : Beat} {M : Nat} (h : Full b M) (h1 : 1 ≤ b.length) (f m : Nat) (hm : 1 ≤ m) (hM : m ≤ M) : 2 * (m : Int) - 1 ≤ W b f m := by
  rw [← W_mod]
  exact h _ (Nat.mod_lt _ (by omega)) m hm hM
theorem sum_ge {b : Beat} {c : Int} (h : ∀ x ∈ b, c ≤ x) : c * b.length ≤ b.sum := by
  induction b with
  | nil => simp
  | cons x b ih =>
    have h1 := h x List.mem_cons_self
    have h2 := ih fun y hy => h y (List.mem_cons_of_mem _ hy)
    rw [List.sum_cons, List.length_cons, Int.natCast_add, Int.mul_add]
    simp
    omega
/-- a round and one slot tell all -/
theorem Full.all {b : Beat} (h1 : 1 ≤ b.length) (h : Full b (b.length + 1)) : ∀ M, Full b M := by
  have hs : 2 * (b.length : Int) ≤ b.sum := by
    by_cases q : 2 * (b.length : Int) ≤ b.sum
    · exact q
    · exfalso
      have h2 := h 0 (by omega) b.length h1 (by omega)
      rw [W_round] at h2
      have h3 : ∃ k, k < b.length ∧ bx b k ≤ 1 := by
        by_cases z : ∃ k, k < b.length ∧ bx b k ≤ 1
        · exact z
        · exfalso
          refine q (sum_ge fun x hx => ?_)
          obtain ⟨k, hk, rfl⟩ := List.mem_iff_getElem.mp hx
          have := fun y => z ⟨k, hk, y⟩
          unfold bx at this
          rw [List.getD_eq_getElem?_getD, List.getElem?_eq_getElem hk] at this
          simp at this
          omega
      obtain ⟨k, hk, hb⟩ := h3
      have h4 := h k hk (b.length + 1) (by omega) (by omega)
      rw [W_succ, W_round, Nat.add_mod_right, Nat.mod_eq_of_lt hk] at h4
      omega
  intro M f hf m hm _
  have e : m = m / b.length * b.length + m % b.length := by
    have := Nat.div_add_mod m b.length
    rw [Nat.mul_comm] at this
    omega
  have hr : m % b.length < b.length := Nat.mod_lt _ (by omega)
  have hW : W b f m = ((m / b.length : Nat) : Int) * b.sum + W b f (m % b.length) := by
    conv => lhs; rw [e]
    exact W_rounds _ _
  have hq : ((m / b.length : Nat) : Int) * (2 * (b.length : Int)) ≤ ((m / b.length : Nat) : Int) * b.sum := Int.mul_le_mul_of_nonneg_left hs (Int.natCast_nonneg _)
  have hm2 : (m : Int) = ((m / b.length : Nat) : Int) * (b.length : Int) + ((m % b.length : Nat) : Int) := by
    have := congrArg (fun n : Nat => (n : Int)) e
    simpa using this
  have e2 : ((m / b.length : Nat) : Int) * (2 * (b.length : Int)) = 2 * (((m / b.length : Nat) : Int) * (b.length : Int)) := by
    rw [← Int.mul_assoc, Int.mul_comm _ 2, Int.mul_assoc]
  rw [hW]
  by_cases z : m % b.length = 0
  · rw [z, W_zero]
    omega
  · have := h f hf (m % b.length) (by omega) (by omega)
    omega
theorem full_min {b : Beat} (h1 : 1 ≤ b.length) (L : Nat) : Full b (min L (b.length + 1)) ↔ Full b (min L (3 * b.length)) := by
  by_cases q : L ≤ b.length + 1
  · rw [show min L (b.length + 1) = min L (3 * b.length) by omega]
  · constructor
    · intro h
      exact Full.all h1 (h.mono (by omega)) _
    · intro h
      exact h.mono (by omega)
def fullB (b : Beat) (M : Nat) : Bool := (List.range b.length).all fun f => (List.range M).all fun m => decide (2 * (m : Int) + 1 ≤ W b f (m + 1))
theorem fullB_iff {b : Beat} {M : Nat} : fullB b M = true ↔ Full b M := by
  unfold fullB Full
  simp only [List.all_eq_true, List.mem_range, decide_eq_true_eq]
  constructor
  · intro h f hf m h1 h2
    have := h f hf (m - 1) (by omega)
    rw [show m - 1 + 1 = m by omega] at this
    omega
  · intro h f hf m hm
    have := h f hf (m + 1) (by omega) (by omega)
    omega
theorem fullB_min {b : Beat} (h1 : 1 ≤ b.length) (L : Nat) : fullB b (min L (b.length + 1)) = fullB b (min L (3 * b.length)) := by
  rw [Bool.eq_iff_iff, fullB_iff, fullB_iff]
  exact full_min h1 L
/-- a slot and the next one -/
def pair (b : Beat) (k : Nat) : Int := bx b k + bx b ((k + 1) % b.length)
def thinL (b : Beat) : List Nat := (List.range b.length).filter fun k => decide (pair b k ≤ 2)
structure BeatOk (b : Beat) : Prop where
  l1 : 1 ≤ b.length
  l40 : b.length ≤ 40
  at_ : ∀ x ∈ b, 0 ≤ x ∧ x ≤ 9
theorem sum_bound {b : Beat} : ∀ {l : List Int}, (∀ x ∈ l, 0 ≤ x ∧ x ≤ 9) → 0 ≤ l.sum ∧ l.sum ≤ 9 * l.length
  | [], _ => by simp
  | x :: l, h => by
    have h1 := h x List.mem_cons_self
    have h2 := sum_bound (b := b) fun y hy => h y (List.mem_cons_of_mem _ hy)
    rw [List.sum_cons, List.length_cons]
    omega
theorem BeatOk.bx {b : Beat} (h : BeatOk b) {k : Nat} (hk : k < b.length) : 0 ≤ bx b k ∧ bx b k ≤ 9 := by
  unfold Rh.bx
  rw [List.getD_eq_getElem?_getD, List.getElem?_eq_getElem hk]
  exact h.at_ _ (List.getElem_mem hk)
theorem BeatOk.sum {b : Beat} (h : BeatOk b) : 0 ≤ b.sum ∧ b.sum ≤ 360 := by
  have := sum_bound (b := b) h.at_
  have := h.l40
  omega
end Rh

set_option Elab.async false
set_option linter.all false
set_option maxRecDepth 100000
set_option maxHeartbeats 4000000
namespace Lw
open PySem PySem.Spec PyProof.Rows L2 Evl G Dl
local macro_rules | `(tactic| walk_at "ev") => `(tactic| simp [dVar, dC, dCallK, dOp, dChain, dUn, dB, dAnd, dOr, dNot, dAndV, dOrV, dNotV, dIf, dNil, dCons, dTup, dLst, dCall, dCallN, dFreeze, dIxOwn, dIxCel, dPeek, dPeekT, dPeekN, dNoPart, dPart, dSlN, dSl, dRepN, dRng1, dIsi, isT, dGetK,
  eP, eTP, eAP, eOp, eB, eAnd, eOr, eNot, dCallNK, eAndV, eOrV, eIf, eNil, eCons, eTup, eLst, eCall, eCell, ownsAt, Slot.owns, sNext, sSeq, sCut, sBreak, sCont, sNever, sDrop, sRet, sRetN, sIf, sSet, sOwn, sAug, sRetL, sRetO, sApp, sItem, sRem, sMany, sFreeze, sDict, sPutK,
  mNil, mDat, mOwn, emP, emE, gN, gTn_nil, gTc_cons, gT_tuple, iL, iT, iR1, iR2, iE, iZ, setAll, lstAt, putLst, scalD, dYes,
  gII_int, gAdd_int, gAdd_list, gAdd_tuple, gSub_int, gMulI_int, gMul_int, gDiv_int, gMod_int, gPow_int, gLt_int, gLe_int, gGt_int, gGe_int, gIx_list, gIx_tuple, gSl_list, gSl_tuple, gLen_list, gLen_tuple, gAbs_int, gMax2_int, gMin2_int, gInt1_int, gInt1_bool, gList_list, gList_tuple, gReprS_list, gReprS_tuple, gEq_int, gNe_int, gNeg_int, gLeA_int, gLeA_tuple,
  wipeD, startC, startD, sRetE, sOwnE, eFrz, eiP, eiR1, eiT, dTru, truD, okTru, gSum_ints, gDivmod_int, gIn_ints, gNotIn_ints, gAll_bools, gEq_str, gNe_str, noOwn, restD, sDictT, sPutT, dInT, iR2w, iEZ, keysD, keyD])
/-! ### rows checked -/
def pr_is_slot_of (ds : List D) (P : D → Prop) : Prop := ∃ (c : Int × Int × Int) (t : Int), ds = [cellD c, .int t] ∧ c.1 ≤ t ∧ t ≤ far ∧ P (.bool true)
theorem sem_is_slot_of (ds : List D) (Q : D → Prop) (h : pr_is_slot_of ds Q) :
    body_is_slot_of pr_is_between { nx := fun _ => Q .none, rt := fun d _ => Q d, rn := fun xs _ => Q (.list xs) } (startD N_is_slot_of ds) := by
  obtain ⟨c, t, rfl, h1, h2, h⟩ := h
  unfold body_is_slot_of
  have e : cellD c = .tuple [.int c.1, .int c.2.1, .int c.2.2] := rfl
  rw [e]
  walk_at "ev"
  refine ⟨.int c.1, rfl, ?_⟩
  exact run_between h1 h2 h
def pr_is_list_of (ds : List D) (P : D → Prop) : Prop := ∃ (xs : List D) (n : Int), ds = [.list xs, .int n] ∧ (xs.length : Int) = n ∧ P (.bool true)
theorem sem_is_list_of (ds : List D) (Q : D → Prop) (h : pr_is_list_of ds Q) :
    body_is_list_of { nx := fun _ => Q .none, rt := fun d _ => Q d, rn := fun xs _ => Q (.list xs) } (startD N_is_list_of ds) := by
  obtain ⟨xs, n, rfl, h1, h⟩ := h
  unfold body_is_list_of
  walk_at "ev"
  rw [h1]
  simpa using h
structure RowOk (lot : Lot) (row : List Int) : Prop where
  len : row.length = lot.length
  ge : ∀ k, k < lot.length → (ct lot k).1 ≤ lx row k ∧ lx row k ≤ far
  dist : ∀ j, j < lot.length → ∀ k, k < lot.length → (ct lot j).2.2 = (ct lot k).2.2 → lx row j = lx row k → j = k
def pr_check_row (ds : List D) (P : D → Prop) : Prop := ∃ wide lot row, ds = [.int wide, .list (lot.map cellD), .list (row.map .int)] ∧ CellsOk wide lot ∧ RowOk lot row ∧ P .none
theorem ez_get {lot : Lot} {row : List Int} (h : row.length = lot.length) {i : Nat} {d : D} (e : (ezD (lot.map cellD) (row.map .int))[i]? = some d) : i < lot.length ∧ d = .tuple [.int (i : Nat), .tuple [cellD (ct lot i), .int (lx row i)]] := by
  unfold ezD at e
  obtain ⟨x, hx, rfl⟩ := enumD_get e
  rw [zip_range lot row h, List.getElem?_map] at hx
  obtain ⟨k, hk, rfl⟩ := Option.map_eq_some_iff.mp hx
  obtain ⟨h1, h2⟩ := List.getElem?_eq_some_iff.mp hk
  simp at h1 h2
  subst h2
  exact ⟨h1, rfl⟩
theorem ez_len {lot : Lot} {row : List Int} (h : row.length = lot.length) : (ezD (lot.map cellD) (row.map .int)).length = lot.length := by
  unfold ezD enumD
  rw [List.length_mapIdx, zip_range lot row h]
  simp
theorem sem_check_row (ds : List D) (Q : D → Prop) (h : pr_check_row ds Q) :
    body_check_row pr_check_cells pr_is_list_of pr_is_slot_of { nx := fun _ => Q .none, rt := fun d _ => Q d, rn := fun xs _ => Q (.list xs) } (startD N_check_row ds) := by
  obtain ⟨wide, lot, row, rfl, hc, hr, h⟩ := h
  have hl := hc.len
  have hl2 := hr.len
  unfold body_check_row
  walk_at "ev"
  refine ⟨wide, lot, rfl, hc, ?_⟩
  refine ⟨row.map .int, _, rfl, by simp; omega, ?_⟩
  walk_at "ev"
  refine for_items (xs := ezD (lot.map cellD) (row.map .int)) (fun P h => by walk_at "ev"; exact ⟨_, _, ⟨rfl, rfl⟩, h⟩)
    (fun i ρ => ∃ kvs s4 s5 s6, ρ = [.dat (.int wide), .dat (.list (lot.map cellD)), .dat (.list (row.map .int)), .obj (.dT kvs), s4, s5, s6] ∧ kvs.length ≤ i ∧
      ∀ k, i ≤ k → k < lot.length → valV kvs [Sum.inl (lx row k), Sum.inl (ct lot k).2.2] = none) ⟨[], _, _, _, rfl, Nat.le_refl _, fun _ _ _ => rfl⟩ ?_ ?_
  · rintro i d ρ hd ⟨kvs, s4, s5, s6, rfl, hk, hv⟩
    obtain ⟨hi, rfl⟩ := ez_get hl2 hd
    have hg := hr.ge i hi
    have e : cellD (ct lot i) = .tuple [.int (ct lot i).1, .int (ct lot i).2.1, .int (ct lot i).2.2] := rfl
    unfold lp_check_row_1
    walk_at "ev"
    refine ⟨ct lot i, _, rfl, hg.1, hg.2, ?_⟩
    rw [e]
    walk_at "ev"
    refine ⟨.int (ct lot i).2.2, rfl, ?_⟩
    refine ⟨_, rfl, ?_⟩
    rw [hv i (Nat.le_refl _) hi]
    walk_at "ev"
    refine ⟨.int (ct lot i).2.2, rfl, ?_⟩
    refine ⟨_, rfl, by omega, ?_⟩
    refine ⟨Nat.le_trans (length_putK _ _ _) (by omega), ?_⟩
    intro k h1 h2
    rw [valV_put]
    rw [if_neg, hv k (by omega) h2]
    intro z
    simp at z
    have := hr.dist k h2 i hi z.2 z.1
    omega
  · rintro ρ ⟨kvs, s4, s5, s6, rfl, _⟩
    exact h
theorem enum_map {f : Nat → D} {n : Nat} : enumD ((List.range n).map f) = (List.range n).map fun k => .tuple [.int (k : Nat), f k] := by
  refine List.ext_getElem? fun i => ?_
  unfold enumD
  rw [List.getElem?_mapIdx, List.getElem?_map, List.getElem?_map]
  by_cases q : i < n
  · rw [List.getElem?_range q]
    rfl
  · rw [List.getElem?_eq_none (l := List.range n) (by simpa using q)]
    rfl
open Rh
theorem getD_bx {b : Beat} {k : Nat} (h : k < b.length) : (b.map PyData.int)[k]? = some (.int (bx b k)) := by
  unfold bx
  rw [List.getElem?_map, List.getD_eq_getElem?_getD, List.getElem?_eq_getElem h]
  rfl
theorem atI_bx {b : Beat} {k : Int} (h0 : 0 ≤ k) (h : k < b.length) : L2.atI (b.map PyData.int) k = some (.int (bx b k.toNat)) := by
  unfold L2.atI ixN
  rw [if_pos h0, if_pos (by simpa using h)]
  exact getD_bx (by omega)
theorem cut_take {b : Beat} {r : Int} (h0 : 0 ≤ r) : Dl.cutD (b.map PyData.int) none (some r) = (b.take r.toNat).map .int := by
  obtain ⟨n, rfl⟩ := Int.eq_ofNat_of_zero_le h0
  unfold Dl.cutD
  rw [HT.sIx_none, HT.sIx_nat]
  rw [List.drop_zero, Nat.sub_zero, List.length_map, Int.toNat_natCast, List.map_take]
  by_cases q : n ≤ b.length
  · rw [Nat.min_eq_left q]
  · rw [Nat.min_eq_right (by omega), List.take_of_length_le (by simp), List.take_of_length_le (by simp; omega)]
def pr_check_rhythm (ds : List D) (P : D → Prop) : Prop := ∃ beat : Beat, ds = [.list (beat.map .int)] ∧ BeatOk beat ∧ P .none
theorem sem_check_rhythm (ds : List D) (Q : D → Prop) (h : pr_check_rhythm ds Q) :
    body_check_rhythm pr_is_between { nx := fun _ => Q .none, rt := fun d _ => Q d, rn := fun xs _ => Q (.list xs) } (startD N_check_rhythm ds) := by
  obtain ⟨beat, rfl, hb, h⟩ := h
  have h1 := hb.l1
  have h40 := hb.l40
  unfold body_check_rhythm
  walk_at "ev"
  refine ⟨by omega, by omega, ?_⟩
  refine for_items (xs := enumD (beat.map .int)) (fun P h => by walk_at "ev"; exact h) (fun i ρ => ∃ s1 s2, ρ = [.dat (.list (beat.map .int)), s1, s2]) ⟨_, _, rfl⟩ ?_ ?_
  · rintro i d ρ hd ⟨s1, s2, rfl⟩
    obtain ⟨x, hx, rfl⟩ := enumD_get hd
    rw [List.getElem?_map] at hx
    obtain ⟨c, hc, rfl⟩ := Option.map_eq_some_iff.mp hx
    have ok := hb.at_ c (List.mem_of_getElem? hc)
    unfold lp_check_rhythm_1
    walk_at "ev"
    refine run_between ok.1 ok.2 ?_
    walk_at "ev"
  · rintro ρ ⟨s1, s2, rfl⟩
    exact h

def pr_pairings_ahead (ds : List D) (P : D → Prop) : Prop := ∃ (beat : Beat) (t : Int), ds = [.list (beat.map .int), .int t] ∧ BeatOk beat ∧ 0 ≤ t ∧ t ≤ 10 ^ 40 ∧ P (.int (ahead beat t))
theorem sem_pairings_ahead (ds : List D) (Q : D → Prop) (h : pr_pairings_ahead ds Q) :
    body_pairings_ahead { nx := fun _ => Q .none, rt := fun d _ => Q d, rn := fun xs _ => Q (.list xs) } (startD N_pairings_ahead ds) := by
  obtain ⟨beat, t, rfl, hb, t0, t1, h⟩ := h
  have h1 := hb.l1
  have h40 := hb.l40
  have hs := hb.sum
  unfold body_pairings_ahead
  walk_at "ev"
  have hq : 0 ≤ t / (beat.length : Int) := Int.ediv_nonneg t0 (by omega)
  have hq2 : t / (beat.length : Int) ≤ t := Int.ediv_le_self _ t0
  have hr : 0 ≤ t % (beat.length : Int) := Int.emod_nonneg _ (by omega)
  refine ⟨⟨by omega, big_nat (by omega)⟩, ⟨big_of (by omega) (by omega), big_of (by omega) (by omega)⟩, ?_⟩
  rw [cut_take hr, gSum_ints, gAdd_int]
  exact h
def pr_pairings_within (ds : List D) (P : D → Prop) : Prop := ∃ (beat : Beat) (a b : Int), ds = [.list (beat.map .int), .int a, .int b] ∧ BeatOk beat ∧ 0 ≤ a ∧ a ≤ b + 1 ∧ b < 10 ^ 40 ∧ P (.int (ahead beat (b + 1) - ahead beat a))
theorem sem_pairings_within (ds : List D) (Q : D → Prop) (h : pr_pairings_within ds Q) :
    body_pairings_within pr_pairings_ahead { nx := fun _ => Q .none, rt := fun d _ => Q d, rn := fun xs _ => Q (.list xs) } (startD N_pairings_within ds) := by
  obtain ⟨beat, a, b, rfl, hb, h1, h2, h3, h⟩ := h
  unfold body_pairings_within
  walk_at "ev"
  refine ⟨beat, b + 1, rfl, hb, by omega, by omega, ?_⟩
  refine ⟨beat, a, rfl, hb, by omega, by omega, ?_⟩
  exact h
/-- so many pairings as a stay wants -/
def many (beat : Beat) (a b : Int) : Bool := decide (2 * (b - a + 1) - 1 ≤ ahead beat (b + 1) - ahead beat a)
def pr_has_many (ds : List D) (P : D → Prop) : Prop := ∃ (beat : Beat) (a b : Int), ds = [.list (beat.map .int), .int a, .int b] ∧ BeatOk beat ∧ 0 ≤ a ∧ a ≤ b + 1 ∧ b < 10 ^ 40 ∧ P (.bool (many beat a b))
theorem sem_has_many (ds : List D) (Q : D → Prop) (h : pr_has_many ds Q) :
    body_has_many pr_pairings_within { nx := fun _ => Q .none, rt := fun d _ => Q d, rn := fun xs _ => Q (.list xs) } (startD N_has_many ds) := by
  obtain ⟨beat, a, b, rfl, hb, h1, h2, h3, h⟩ := h
  unfold body_has_many
  walk_at "ev"
  refine ⟨beat, a, b, rfl, hb, h1, h2, h3, ?_⟩
  refine ⟨⟨big_nat (by decide), big_of (by omega) (by omega)⟩, ?_⟩
  exact h
end Lw

set_option Elab.async false
set_option linter.all false
set_option maxRecDepth 100000
set_option maxHeartbeats 4000000
namespace Lw
open PySem PySem.Spec PyProof.Rows L2 Evl G Dl
local macro_rules | `(tactic| walk_at "ev") => `(tactic| simp [dVar, dC, dCallK, dOp, dChain, dUn, dB, dAnd, dOr, dNot, dAndV, dOrV, dNotV, dIf, dNil, dCons, dTup, dLst, dCall, dCallN, dFreeze, dIxOwn, dIxCel, dPeek, dPeekT, dPeekN, dNoPart, dPart, dSlN, dSl, dRepN, dRng1, dIsi, isT, dGetK,
  eP, eTP, eAP, eOp, eB, eAnd, eOr, eNot, dCallNK, eAndV, eOrV, eIf, eNil, eCons, eTup, eLst, eCall, eCell, ownsAt, Slot.owns, sNext, sSeq, sCut, sBreak, sCont, sNever, sDrop, sRet, sRetN, sIf, sSet, sOwn, sAug, sRetL, sRetO, sApp, sItem, sRem, sMany, sFreeze, sDict, sPutK,
  mNil, mDat, mOwn, emP, emE, gN, gTn_nil, gTc_cons, gT_tuple, iL, iT, iR1, iR2, iE, iZ, setAll, lstAt, putLst, scalD, dYes,
  gII_int, gAdd_int, gAdd_list, gAdd_tuple, gSub_int, gMulI_int, gMul_int, gDiv_int, gMod_int, gPow_int, gLt_int, gLe_int, gGt_int, gGe_int, gIx_list, gIx_tuple, gSl_list, gSl_tuple, gLen_list, gLen_tuple, gAbs_int, gMax2_int, gMin2_int, gInt1_int, gInt1_bool, gList_list, gList_tuple, gReprS_list, gReprS_tuple, gEq_int, gNe_int, gNeg_int, gLeA_int, gLeA_tuple,
  wipeD, startC, startD, sRetE, sOwnE, eFrz, eiP, eiR1, eiT, dTru, truD, okTru, gSum_ints, gDivmod_int, gIn_ints, gNotIn_ints, gAll_bools, gEq_str, gNe_str, noOwn, restD, sDictT, sPutT, dInT, iR2w, iEZ, keysD, keyD])
open Rh
/-- the cells in whose stay there may be too few pairings -/
def uns (lot : Lot) (row : List Int) (beat : Beat) : List Nat := (List.range lot.length).filter fun k => !many beat (ct lot k).1 (lx row k)
def pr_unsure (ds : List D) (P : List D → Prop) : Prop := ∃ wide lot row beat, ds = [.int wide, .list (lot.map cellD), .list (row.map .int), .list (beat.map .int)] ∧ CellsOk wide lot ∧ RowOk lot row ∧ BeatOk beat ∧
  P ((uns lot row beat).map natD)
theorem sem_unsure (ds : List D) (Q : List D → Prop) (h : pr_unsure ds Q) :
    body_unsure pr_has_many pr_check_rhythm pr_check_row { nx := fun _ => False, rt := fun _ _ => False, rn := fun xs _ => Q xs } (startD N_unsure ds) := by
  obtain ⟨wide, lot, row, beat, rfl, hc, hr, hb, h⟩ := h
  have hl := hc.len
  have hl2 := hr.len
  unfold body_unsure
  walk_at "ev"
  refine ⟨wide, lot, row, rfl, hc, hr, ?_⟩
  refine ⟨beat, rfl, hb, ?_⟩
  have zr := zip_range lot row hl2
  refine lc_fun (xs := zipD (lot.map cellD) (row.map .int)) (fun _ => true) (fun d => match d with | .tuple [.tuple [.int a, _, _], .int t] => .tuple [.int a, .int t] | _ => .none) ?_ (by rw [zr]; simp; omega) ?_ ?_
  · intro P hP
    walk_at "ev"
    exact ⟨_, _, ⟨rfl, rfl⟩, hP⟩
  · intro d hd B k h1 _
    rw [zr] at hd
    obtain ⟨i, hi, rfl⟩ := List.mem_map.mp hd
    have := h1 rfl
    have e : cellD (ct lot i) = .tuple [.int (ct lot i).1, .int (ct lot i).2.1, .int (ct lot i).2.2] := rfl
    rw [e] at this ⊢
    walk_at "ev"
    exact ⟨_, rfl, this⟩
  · rw [List.filter_eq_self.mpr (fun _ _ => rfl), zr, List.map_map]
    have ef : ((fun d : D => match d with | .tuple [.tuple [.int a, _, _], .int t] => PyData.tuple [.int a, .int t] | _ => .none) ∘ fun k => PyData.tuple [cellD (ct lot k), PyData.int (lx row k)]) = fun k => PyData.tuple [.int (ct lot k).1, .int (lx row k)] := rfl
    rw [ef]
    generalize hsp : (List.range lot.length).map (fun k => PyData.tuple [.int (ct lot k).1, .int (lx row k)]) = sp
    have en : enumD sp = (List.range lot.length).map fun k => .tuple [.int (k : Nat), .tuple [.int (ct lot k).1, .int (lx row k)]] := by
      rw [← hsp]
      exact enum_map
    refine lc_fun (xs := enumD sp) (fun d => match d with | .tuple [_, .tuple [.int a, .int t]] => !many beat a t | _ => false) (fun d => match d with | .tuple [k, _] => k | _ => .none) ?_ (by rw [en]; simp; omega) ?_ ?_
    · intro P hP
      walk_at "ev"
      exact hP
    · intro d hd B k h1 h2
      rw [en] at hd
      obtain ⟨i, hi, rfl⟩ := List.mem_map.mp hd
      have il : i < lot.length := by simpa using hi
      have hg := hr.ge i il
      have c0 := (hc.at_ _ (ct_mem il)).a0
      have hf : far < 10 ^ 40 := by decide
      walk_at "ev"
      refine ⟨_, rfl, _, rfl, ?_⟩
      refine ⟨beat, _, _, rfl, hb, c0, by omega, by omega, ?_⟩
      cases q : many beat (ct lot i).1 (lx row i) with
      | true =>
        have := h2 (by simp [q])
        simpa using this
      | false =>
        have := h1 (by simp [q])
        simpa using this
    · have e : ((enumD sp).filter fun d => match d with | .tuple [_, .tuple [.int a, .int t]] => !many beat a t | _ => false).map (fun d => match d with | .tuple [k, _] => k | _ => .none) = (uns lot row beat).map natD := by
        rw [en, List.filter_map, List.map_map]
        rfl
      rw [e]
      exact h
end Lw

set_option Elab.async false
set_option linter.all false
set_option maxRecDepth 100000
set_option maxHeartbeats 4000000
namespace Lw
open PySem PySem.Spec PyProof.Rows L2 Evl G Dl
local macro_rules | `(tactic| walk_at "ev") => `(tactic| simp [dVar, dC, dCallK, dOp, dChain, dUn, dB, dAnd, dOr, dNot, dAndV, dOrV, dNotV, dIf, dNil, dCons, dTup, dLst, dCall, dCallN, dFreeze, dIxOwn, dIxCel, dPeek, dPeekT, dPeekN, dNoPart, dPart, dSlN, dSl, dRepN, dRng1, dIsi, isT, dGetK,
  eP, eTP, eAP, eOp, eB, eAnd, eOr, eNot, dCallNK, eAndV, eOrV, eIf, eNil, eCons, eTup, eLst, eCall, eCell, ownsAt, Slot.owns, sNext, sSeq, sCut, sBreak, sCont, sNever, sDrop, sRet, sRetN, sIf, sSet, sOwn, sAug, sRetL, sRetO, sApp, sItem, sRem, sMany, sFreeze, sDict, sPutK,
  mNil, mDat, mOwn, emP, emE, gN, gTn_nil, gTc_cons, gT_tuple, iL, iT, iR1, iR2, iE, iZ, setAll, lstAt, putLst, scalD, dYes,
  gII_int, gAdd_int, gAdd_list, gAdd_tuple, gSub_int, gMulI_int, gMul_int, gDiv_int, gMod_int, gPow_int, gLt_int, gLe_int, gGt_int, gGe_int, gIx_list, gIx_tuple, gSl_list, gSl_tuple, gLen_list, gLen_tuple, gAbs_int, gMax2_int, gMin2_int, gInt1_int, gInt1_bool, gList_list, gList_tuple, gReprS_list, gReprS_tuple, gEq_int, gNe_int, gNeg_int, gLeA_int, gLeA_tuple,
  wipeD, startC, startD, sRetE, sOwnE, eFrz, eiP, eiR1, eiT, dTru, truD, okTru, gSum_ints, gDivmod_int, gIn_ints, gNotIn_ints, gAll_bools, gEq_str, gNe_str, noOwn, restD, sDictT, sPutT, dInT, iR2w, iEZ, keysD, keyD])
open Rh
def shL (base : Int) (lot : Lot) : Lot := lot.map fun c => (c.1 + base, c.2.1, c.2.2)
def shR (base : Int) (line : List Int) : List Int := line.map fun t => t + base
theorem ct_sh {base : Int} {lot : Lot} {k : Nat} (h : k < lot.length) : ct (shL base lot) k = ((ct lot k).1 + base, (ct lot k).2.1, (ct lot k).2.2) := by
  apply ct_get
  unfold shL
  rw [List.getElem?_map, get_ct h]
  rfl
theorem lx_sh {base : Int} {line : List Int} {k : Nat} (h : k < line.length) : lx (shR base line) k = lx line k + base := by
  unfold lx shR
  rw [List.getD_eq_getElem?_getD, List.getElem?_map, get_lx h]
  rfl
theorem LotOk.cells {wide span base : Int} {lot : Lot} (h : LotOk wide span lot) (w1 : 1 ≤ wide) (w8 : wide ≤ 8) (hb : 0 ≤ base) (hb2 : span + base ≤ 10 ^ 30) : CellsOk wide (shL base lot) := by
  refine ⟨w1, w8, by simpa [shL] using h.len, ?_, ?_⟩
  · intro c hc
    obtain ⟨d, hd, rfl⟩ := List.mem_map.mp hc
    have := h.at_ d hd
    exact ⟨by show 0 ≤ d.1 + base; omega, by show d.1 + base ≤ _; omega, by show 0 ≤ d.2.1; omega, by show d.2.1 < _; omega, by show 0 ≤ d.2.2; omega, by show d.2.2 < _; omega⟩
  · unfold shL
    rw [List.pairwise_map]
    refine h.asc.imp ?_
    intro a b h
    simp
    omega
theorem sh0 (lot : Lot) : shL 0 lot = lot := by
  unfold shL
  simp
def pr_later (ds : List D) (P : D → Prop) : Prop := ∃ (lot : Lot) (line : List Int) (base : Int), ds = [.list (lot.map cellD), .list (line.map .int), .int base] ∧ lot.length ≤ 60 ∧ line.length ≤ 60 ∧
  P (.tuple [.list ((lot.map fun c => (c.1 + base, c.2.1, c.2.2)).map cellD), .list ((line.map fun t => t + base).map .int)])
theorem sem_later (ds : List D) (Q : D → Prop) (h : pr_later ds Q) :
    body_later { nx := fun _ => Q .none, rt := fun d _ => Q d, rn := fun xs _ => Q (.list xs) } (startD N_later ds) := by
  obtain ⟨lot, line, base, rfl, h1, h2, h⟩ := h
  unfold body_later
  walk_at "ev"
  refine lc_fun (xs := lot.map cellD) (fun _ => true) (fun d => match d with | .tuple [.int a, b, c] => .tuple [.int (a + base), b, c] | _ => .none) ?_ (by simp; omega) ?_ ?_
  · intro P hP
    walk_at "ev"
    exact hP
  · intro d hd B k h1 _
    obtain ⟨c, hc, rfl⟩ := List.mem_map.mp hd
    have := h1 rfl
    have e : cellD c = .tuple [.int c.1, .int c.2.1, .int c.2.2] := rfl
    rw [e] at this ⊢
    walk_at "ev"
    exact this
  · refine lc_fun (xs := line.map .int) (fun _ => true) (fun d => match d with | .int a => .int (a + base) | _ => .none) ?_ (by simp; omega) ?_ ?_
    · intro P hP
      walk_at "ev"
      exact hP
    · intro d hd B k h1 _
      obtain ⟨c, hc, rfl⟩ := List.mem_map.mp hd
      have := h1 rfl
      walk_at "ev"
      exact this
    · rw [List.filter_eq_self.mpr (fun _ _ => rfl), List.filter_eq_self.mpr (fun _ _ => rfl), List.map_map, List.map_map]
      rw [List.map_map, List.map_map] at h
      exact h

theorem sm_lot {wide : Int} {lot : Lot} (h : CellsOk wide lot) : Sm 3 25440 (.list (lot.map cellD)) := by
  have hl := h.len
  refine (sm_list (k := 2) (n := 423) ?_).mono (by decide) (by simp; omega)
  intro x hx
  obtain ⟨c, hc, rfl⟩ := List.mem_map.mp hx
  have ok := h.at_ c hc
  have w := h.w8
  obtain ⟨h1, h2, h3, h4, h5, h6⟩ := ok
  refine (sm_tup (k := 1) (n := 140) ?_).mono (by decide) (by simp)
  intro y hy
  simp at hy
  rcases hy with rfl | rfl | rfl
  · exact sm_int (by omega)
  · exact sm_int (by omega)
  · exact sm_int (by omega)
theorem sm_ints {ns : List Int} (hl : ns.length ≤ 1000) (h : ∀ x ∈ ns, x.natAbs < 10 ^ 40) : Sm 2 141000 (.list (ns.map .int)) := by
  refine (sm_list (k := 1) (n := 140) ?_).mono (by decide) (by simp; omega)
  intro x hx
  obtain ⟨i, hi, rfl⟩ := List.mem_map.mp hx
  exact sm_int (h i hi)
theorem repr_beat {b : Beat} (h : BeatOk b) {P : D → Prop} (k : P (.str (PyData.shown (.list (b.map .int))))) : gRepr [.list (b.map .int)] P := by
  have h40 := h.l40
  refine run_repr ((sm_ints (by omega) fun x hx => ?_).mono (by decide) (Nat.le_refl _)) (by decide) k
  have := h.at_ x hx
  omega
/-- an item of a short list by a draw -/
theorem gIx_at {ds : List D} {r : Int} {P : D → Prop} (h0 : 0 ≤ r) (h1 : r < ds.length) (h : ∀ d, ds[r.toNat]? = some d → P d) : gIx (.list ds) (.int r) P := by
  rw [gIx_list]
  have hl : r.toNat < ds.length := by omega
  refine ⟨ds[r.toNat], ?_, h _ (List.getElem?_eq_getElem hl)⟩
  unfold L2.atI ixN
  rw [if_pos h0, if_pos h1]
  exact List.getElem?_eq_getElem hl

/-- a comprehension of draws from a source that stands anywhere: each item is some whole number that holds under R -/
theorem elc_E {dg : DGr} {de : EPr} {vs : List Nat} {ρ : Dl.Env} {P : List D → Dl.Env → Prop} {di : EIr} {c0 top : Nat} {N : Int} (E : List D → Dl.Env) (R : Int → Prop)
    (hdi : ∀ P : List D → Dl.Env → Prop, (∀ (n : Nat) cs0, 1 ≤ n → n ≤ top → SrcAt N cs0 → P (rangeD 0 n) (E cs0)) → di ρ P) (hn : top ≤ 1000) (hno : ∀ cs, noOwn (E cs) vs = true)
    (ht : ∀ (cs0 : List D) (i : Nat) cs (T : D → Dl.Env → Prop), i < top → SrcAt (N + (c0 : Int) * i) cs → (∀ (x : Int) cs' ρ3, R x → SrcAt (N + (c0 : Int) * i + c0) cs' → restD (E cs0) ρ3 vs = E cs' → T (.int x) ρ3) →
      dg (.int (i : Nat)) (wipeD (E cs) vs) fun ρ2 => de ρ2 T)
    (hd : ∀ (xs : List Int) cs, 1 ≤ xs.length → xs.length ≤ top → (∀ x ∈ xs, R x) → SrcAt (N + (c0 : Int) * top) cs → P (xs.map .int) (E cs)) : eLc di dg dYes de vs ρ P := by
  refine hdi _ fun n cs0 n1 n2 hs0 => ?_
  show eLc (fun _ k => k (rangeD 0 n) (E cs0)) dg dYes de vs (E cs0) P
  refine elc_inv (xs := rangeD 0 n) (ρ0 := E cs0) (fun i acc ρ => ∃ (xs : List Int) (cs : List D), acc = xs.map .int ∧ xs.length = i ∧ (∀ x ∈ xs, R x) ∧ SrcAt (N + (c0 : Int) * i) cs ∧ ρ = E cs) (fun P h => h) (by rw [rangeD_len]; omega) (hno cs0) ⟨[], cs0, rfl, rfl, by simp, by simpa using hs0, rfl⟩ ?_ ?_
  · rintro i d acc ρ1 hi hl ⟨xs, cs, rfl, hx, hR, hs1, rfl⟩
    obtain ⟨hin, rfl⟩ := rangeD_get hi
    refine ht cs0 i cs _ (by omega) hs1 fun x cs' ρ3 hRx hs2 hr => ⟨xs ++ [x], cs', by rw [List.map_append]; rfl, by simp [hx], ?_, ?_, hr⟩
    · intro y hy
      rcases List.mem_append.mp hy with hy | hy
      · exact hR y hy
      · simp at hy
        rw [hy]
        exact hRx
    · have e : N + (c0 : Int) * ((i + 1 : Nat) : Int) = N + (c0 : Int) * i + c0 := by
        rw [Int.natCast_add, Int.mul_add]
        simp
        omega
      rw [e]
      exact hs2
  · rintro acc ρ1 hl ⟨xs, cs, rfl, hx, hR, hs1, rfl⟩
    rw [rangeD_len] at hx hs1
    refine hd xs cs (by omega) (by omega) hR (hs1.mono ?_)
    have : (c0 : Int) * (n : Int) ≤ (c0 : Int) * (top : Int) := Int.mul_le_mul_of_nonneg_left (by omega) (by omega)
    omega
def pr_beat (cs ds : List D) (P : D → List D → Prop) : Prop := ∃ n top : Int, SrcAt n cs ∧ n + 100 < 10 ^ 9 ∧ ds = [.int top] ∧ 0 ≤ top ∧ top ≤ 9 ∧ ∀ (beat : Beat) cs', BeatOk beat → SrcAt (n + 10) cs' → P (.list (beat.map .int)) cs'
theorem sem_beat (cs ds : List D) (Q : D → List D → Prop) (h : pr_beat cs ds Q) :
    body_beat pr_draw { nx := fun ρ => ∃ cs', ρ[0]? = some (.cel cs') ∧ Q .none cs', rt := fun d ρ => ∃ cs', ρ[0]? = some (.cel cs') ∧ Q d cs', rn := fun xs ρ => ∃ cs', ρ[0]? = some (.cel cs') ∧ Q (.list xs) cs' } (startC N_beat cs ds) := by
  obtain ⟨n, top, hs, hn, rfl, t0, t9, k⟩ := h
  unfold body_beat
  walk_at "ev"
  refine elc_E (c0 := 1) (top := 5) (N := n + 1) (fun cs => [.cel cs, .dat (.int top), .no, .no]) (fun x => 0 ≤ x ∧ x ≤ 9) ?_ (by decide) (fun _ => rfl) ?_ ?_
  · intro P hP
    walk_at "ev"
    refine run_draw hs (by omega) (by decide) (by decide) fun r cs1 r0 r1 hs1 => ?_
    rw [gAdd_int]
    refine ⟨_, rfl, ⟨by omega, by omega⟩, hP _ _ (by omega) (by omega) hs1⟩
  · intro cs0 i cs T hi hs1 hT
    walk_at "ev"
    refine run_draw hs1 (by omega) (by omega) (by omega) fun x cs' x0 x1 hs2 => hT x cs' _ ⟨x0, by omega⟩ (hs2.mono (by omega)) rfl
  · intro xs cs hl1 hl2 hx hs1
    unfold rs_beat_1
    walk_at "ev"
    have hs2 : SrcAt (n + 10) cs := hs1.mono (by omega)
    by_cases q : 0 < xs.sum
    · exact Or.inr ⟨q, k xs cs ⟨hl1, by omega, hx⟩ hs2⟩
    · refine Or.inl ⟨by omega, by omega, ?_⟩
      have e : (PyData.int 1 :: xs.map PyData.int) = ((1 :: xs : List Int).map .int) := rfl
      rw [e]
      refine k (1 :: xs) cs ⟨by simp, by simp; omega, fun x h => ?_⟩ hs2
      rcases List.mem_cons.mp h with rfl | h
      · exact ⟨by decide, by decide⟩
      · exact hx x h
end Lw

set_option Elab.async false
set_option linter.all false
set_option maxRecDepth 100000
set_option maxHeartbeats 4000000
namespace Lw
open PySem PySem.Spec PyProof.Rows L2 Evl G Dl
local macro_rules | `(tactic| walk_at "ev") => `(tactic| simp [dVar, dC, dCallK, dOp, dChain, dUn, dB, dAnd, dOr, dNot, dAndV, dOrV, dNotV, dIf, dNil, dCons, dTup, dLst, dCall, dCallN, dFreeze, dIxOwn, dIxCel, dPeek, dPeekT, dPeekN, dNoPart, dPart, dSlN, dSl, dRepN, dRng1, dIsi, isT, dGetK,
  eP, eTP, eAP, eOp, eB, eAnd, eOr, eNot, dCallNK, eAndV, eOrV, eIf, eNil, eCons, eTup, eLst, eCall, eCell, ownsAt, Slot.owns, sNext, sSeq, sCut, sBreak, sCont, sNever, sDrop, sRet, sRetN, sIf, sSet, sOwn, sAug, sRetL, sRetO, sApp, sItem, sRem, sMany, sFreeze, sDict, sPutK,
  mNil, mDat, mOwn, emP, emE, gN, gTn_nil, gTc_cons, gT_tuple, iL, iT, iR1, iR2, iE, iZ, setAll, lstAt, putLst, scalD, dYes,
  gII_int, gAdd_int, gAdd_list, gAdd_tuple, gSub_int, gMulI_int, gMul_int, gDiv_int, gMod_int, gPow_int, gLt_int, gLe_int, gGt_int, gGe_int, gIx_list, gIx_tuple, gSl_list, gSl_tuple, gLen_list, gLen_tuple, gAbs_int, gMax2_int, gMin2_int, gInt1_int, gInt1_bool, gList_list, gList_tuple, gReprS_list, gReprS_tuple, gEq_int, gNe_int, gNeg_int, gLeA_int, gLeA_tuple,
  wipeD, startC, startD, sRetE, sOwnE, eFrz, eiP, eiR1, eiT, dTru, truD, okTru, gSum_ints, gDivmod_int, gIn_ints, gNotIn_ints, gAll_bools, gEq_str, gNe_str, noOwn, restD, sDictT, sPutT, dInT, iR2w, iEZ, keysD, keyD])
open Rh
theorem sm_short {ns : List Int} (hl : ns.length ≤ 60) (h : ∀ x ∈ ns, x.natAbs < 10 ^ 40) : Sm 2 8460 (.list (ns.map .int)) := by
  refine (sm_list (k := 1) (n := 140) ?_).mono (by decide) (by simp; omega)
  intro x hx
  obtain ⟨i, hi, rfl⟩ := List.mem_map.mp hx
  exact sm_int (h i hi)
theorem sm_row28 {lot : Lot} {row : List Int} (h : RowOk lot row) (hl : lot.length ≤ 60) (h0 : ∀ k, k < lot.length → 0 ≤ (ct lot k).1) : Sm 2 8460 (.list (row.map .int)) := by
  have e1 := h.len
  refine sm_short (by omega) fun x hx => ?_
  obtain ⟨k, hk, rfl⟩ := List.mem_iff_getElem.mp hx
  have e : lx row k = row[k] := by
    unfold lx
    rw [List.getD_eq_getElem?_getD, List.getElem?_eq_getElem hk]
    rfl
  have a := h.ge k (by omega)
  have b := h0 k (by omega)
  have c : far < 10 ^ 40 := by decide
  rw [e] at a
  omega
theorem sm_beat {b : Beat} (h : BeatOk b) : Sm 2 8460 (.list (b.map .int)) := by
  have h40 := h.l40
  refine sm_short (by omega) fun x hx => ?_
  have := h.at_ x hx
  omega
theorem sm_3 {wide : Int} {lot : Lot} {row : List Int} {beat : Beat} (hc : CellsOk wide lot) (hr : RowOk lot row) (hb : BeatOk beat) : Sm 20 76323 (.list [.list (lot.map cellD), .list (row.map .int), .list (beat.map .int)]) := by
  have h0 : ∀ k, k < lot.length → 0 ≤ (ct lot k).1 := fun k hk => (hc.at_ _ (ct_mem hk)).a0
  refine (sm_list (k := 3) (n := 25440) ?_).mono (by decide) (by simp)
  intro x hx
  simp at hx
  rcases hx with rfl | rfl | rfl
  · exact sm_lot hc
  · exact (sm_row28 hr hc.len h0).mono (by decide) (by decide)
  · exact (sm_beat hb).mono (by decide) (by decide)
theorem sm_uns {lot : Lot} {row : List Int} {beat : Beat} (hl : lot.length ≤ 60) : Sm 2 8460 (.list ((uns lot row beat).map natD)) := by
  have l2 : (uns lot row beat).length ≤ 60 := Nat.le_trans (List.length_filter_le _ _) (by simpa using hl)
  refine (sm_list (k := 1) (n := 140) ?_).mono (by decide) (by simp; omega)
  intro x hx
  obtain ⟨k, hk, rfl⟩ := List.mem_map.mp hx
  have := List.mem_range.mp (List.mem_filter.mp hk).1
  exact sm_int (by omega)
def pr_right (ds : List D) (P : D → Prop) : Prop := ∃ wide lot row beat, ds = [.int wide, .list (lot.map cellD), .list (row.map .int), .list (beat.map .int)] ∧ CellsOk wide lot ∧ RowOk lot row ∧ BeatOk beat ∧
  (∀ k, k < lot.length → lx row k ≤ (ct lot k).1 + 1000) ∧ P (.bool true)
theorem many_W {beat : Beat} (hb : BeatOk beat) {a e : Int} (h0 : 0 ≤ a) (h1 : a ≤ e) : many beat a e = decide (2 * (e - a + 1) - 1 ≤ W beat a.toNat (e + 1 - a).toNat) := by
  unfold many
  have := ahead_diff (b := beat) hb.l1 a.toNat (e + 1 - a).toNat
  have e1 : ((a.toNat + (e + 1 - a).toNat : Nat) : Int) = e + 1 := by omega
  have e2 : ((a.toNat : Nat) : Int) = a := by omega
  rw [e1, e2] at this
  rw [this]
theorem sem_right (ds : List D) (Q : D → Prop) (h : pr_right ds Q) :
    body_right pr_unsure { nx := fun _ => Q .none, rt := fun d _ => Q d, rn := fun xs _ => Q (.list xs) } (startD N_right ds) := by
  obtain ⟨wide, lot, row, beat, rfl, hc, hr, hb, hsh, h⟩ := h
  have hl := hc.len
  have hl2 := hr.len
  have h0 : ∀ k, k < lot.length → 0 ≤ (ct lot k).1 := fun k hk => (hc.at_ _ (ct_mem hk)).a0
  have s3 := sm_3 hc hr hb
  unfold body_right
  walk_at "ev"
  refine run_repr s3 (by decide) ?_
  generalize hkept : PyData.shown (.list [.list (lot.map cellD), .list (row.map .int), .list (beat.map .int)]) = kept
  let I : Nat → Dl.Env → Prop := fun i ρ => ∃ s6 s7 s9, ρ = [.dat (.int wide), .dat (.list (lot.map cellD)), .dat (.list (row.map .int)), .dat (.list (beat.map .int)), .dat (.str kept), .own (((List.range i).filter fun k => !many beat (ct lot k).1 (lx row k)).map natD), s6, s7, .no, s9, .no]
  have en := enum_range lot
  refine for_items (xs := enumD (lot.map cellD)) (fun P h => by walk_at "ev"; exact h) I ⟨_, _, _, rfl⟩ ?_ ?_
  · rintro i d ρ hd ⟨s6, s7, s9, rfl⟩
    rw [en, List.getElem?_map] at hd
    obtain ⟨i', hi', rfl⟩ := Option.map_eq_some_iff.mp hd
    obtain ⟨hi, e0⟩ := List.getElem?_eq_some_iff.mp hi'
    simp at hi e0
    subst e0
    have a1 := atI_lx (row := row) (k := i) (by omega)
    have hg := hr.ge i hi
    have c0 := h0 i hi
    have hs := hsh i hi
    have e : cellD (ct lot i) = .tuple [.int (ct lot i).1, .int (ct lot i).2.1, .int (ct lot i).2.2] := rfl
    have h1 := hb.l1
    have h40 := hb.l40
    unfold lp_right_1
    rw [e]
    walk_at "ev"
    refine lc_fun (xs := rangeD (ct lot i).1 (lx row i + 1 - (ct lot i).1).toNat) (fun _ => true) (fun d => match d with | .int t => .int (bx beat (t.toNat % beat.length)) | _ => .none) ?_ (by rw [rangeD_len]; omega) ?_ ?_
    · intro P hP
      walk_at "ev"
      refine ⟨.int (ct lot i).1, rfl, _, a1, ?_⟩
      rw [gAdd_int]
      exact ⟨_, _, ⟨rfl, rfl⟩, hP⟩
    · intro d hd B k q1 _
      unfold rangeD at hd
      obtain ⟨j, hj, rfl⟩ := List.mem_map.mp hd
      have q2 := q1 rfl
      dsimp only at q2
      obtain ⟨m, hm⟩ := Int.eq_ofNat_of_zero_le (show 0 ≤ (ct lot i).1 + (j : Int) by omega)
      rw [hm] at q2 ⊢
      have m0 : 0 ≤ (m : Int) % (beat.length : Int) := Int.emod_nonneg _ (by omega)
      have m1 : (m : Int) % (beat.length : Int) < beat.length := Int.emod_lt_of_pos _ (by omega)
      have a2 := atI_bx (b := beat) (k := (m : Int) % (beat.length : Int)) m0 m1
      have en2 : ((m : Int) % (beat.length : Int)).toNat = m % beat.length := by
        rw [← Int.natCast_emod]
        exact Int.toNat_natCast _
      rw [en2] at a2
      rw [Int.toNat_natCast] at q2
      walk_at "ev"
      exact ⟨by omega, _, a2, q2⟩
    · have el : ((rangeD (ct lot i).1 (lx row i + 1 - (ct lot i).1).toNat).filter fun _ => true).map (fun d => match d with | .int t => PyData.int (bx beat (t.toNat % beat.length)) | _ => .none) =
          ((List.range (lx row i + 1 - (ct lot i).1).toNat).map fun j => bx beat (((ct lot i).1.toNat + j) % beat.length)).map .int := by
        rw [List.filter_eq_self.mpr (fun _ _ => rfl)]
        unfold rangeD
        rw [List.map_map, List.map_map]
        refine List.map_congr_left fun j hj => ?_
        have : ((ct lot i).1 + (j : Int)).toNat = (ct lot i).1.toNat + j := by omega
        show PyData.int (bx beat (((ct lot i).1 + (j : Int)).toNat % beat.length)) = PyData.int (bx beat (((ct lot i).1.toNat + j) % beat.length))
        rw [this]
      rw [el, gSum_ints]
      have eW : ((List.range (lx row i + 1 - (ct lot i).1).toNat).map fun j => bx beat (((ct lot i).1.toNat + j) % beat.length)).sum = W beat (ct lot i).1.toNat (lx row i + 1 - (ct lot i).1).toNat := rfl
      rw [eW]
      have mW := many_W hb c0 hg.1
      have fl : ((List.range i).filter fun k => !many beat (ct lot k).1 (lx row k)).length ≤ i := Nat.le_trans (List.length_filter_le _ _) (by simp)
      have fs : (List.range (i + 1)).filter (fun k => !many beat (ct lot k).1 (lx row k)) = (List.range i).filter (fun k => !many beat (ct lot k).1 (lx row k)) ++ if (!many beat (ct lot i).1 (lx row i)) = true then [i] else [] := by
        rw [List.range_succ, List.filter_append]
        congr 1
        simp [List.filter_cons]
      refine ⟨_, a1, .int (ct lot i).1, rfl, ?_⟩
      walk_at "ev"
      refine ⟨⟨big_nat (by decide), big_of (by omega) (by omega)⟩, ?_⟩
      have e3 : lx row i - (ct lot i).1 + 1 = lx row i + 1 - (ct lot i).1 := by omega
      by_cases q : 2 * (lx row i - (ct lot i).1 + 1) - 1 ≤ W beat (ct lot i).1.toNat (lx row i + 1 - (ct lot i).1).toNat
      · refine Or.inl ⟨q, .dat (.int (i : Int)), .dat (.tuple [.int (ct lot i).1, .int (ct lot i).2.1, .int (ct lot i).2.2]), .dat (.int (W beat (ct lot i).1.toNat (lx row i + 1 - (ct lot i).1).toNat)), ?_⟩
        have e4 : many beat (ct lot i).1 (lx row i) = true := by rw [mW]; simpa using q
        rw [fs, e4]
        simp
      · refine Or.inr ⟨by omega, by omega, .dat (.int (i : Int)), .dat (.tuple [.int (ct lot i).1, .int (ct lot i).2.1, .int (ct lot i).2.2]), .dat (.int (W beat (ct lot i).1.toNat (lx row i + 1 - (ct lot i).1).toNat)), ?_⟩
        have e4 : many beat (ct lot i).1 (lx row i) = false := by rw [mW]; simpa using q
        rw [fs, e4]
        simp [natD]
  · rintro ρ ⟨s6, s7, s9, rfl⟩
    have ln : (enumD (lot.map cellD)).length = lot.length := by rw [en]; simp
    rw [ln]
    have eu : (List.range lot.length).filter (fun k => !many beat (ct lot k).1 (lx row k)) = uns lot row beat := rfl
    rw [eu]
    have ul : (uns lot row beat).length ≤ 60 := Nat.le_trans (List.length_filter_le _ _) (by simpa using hl)
    have sU := sm_uns (lot := lot) (row := row) (beat := beat) hl
    have sD : Sm 20 16922 (.list [.list ((uns lot row beat).map natD), .list ((uns lot row beat).map natD)]) := by
      refine (sm_list (k := 2) (n := 8460) ?_).mono (by decide) (by simp)
      intro x hx
      simp at hx
      rw [hx]
      exact sU
    unfold rs_right_1
    walk_at "ev"
    refine ⟨wide, lot, row, beat, rfl, hc, hr, hb, ?_⟩
    refine ⟨wide, lot, row, beat, rfl, hc, hr, hb, ?_⟩
    refine run_repr sD (by decide) (run_repr sD (by decide) ?_)
    rw [gNe_str]
    refine Or.inl ⟨by simp, by simp; omega, ?_⟩
    refine ⟨wide, lot, row, beat, rfl, hc, hr, hb, ?_⟩
    rw [natD_ints]
    dsimp only
    rw [gEq_ints]
    refine Or.inr ⟨by simp, ?_⟩
    refine run_repr s3 (by decide) ?_
    rw [hkept, gEq_str]
    simpa using h
end Lw

set_option Elab.async false
set_option linter.all false
set_option maxRecDepth 100000
set_option maxHeartbeats 4000000
namespace Lw
open PySem PySem.Spec PyProof.Rows L2 Evl G Dl
local macro_rules | `(tactic| walk_at "ev") => `(tactic| simp [dVar, dC, dCallK, dOp, dChain, dUn, dB, dAnd, dOr, dNot, dAndV, dOrV, dNotV, dIf, dNil, dCons, dTup, dLst, dCall, dCallN, dFreeze, dIxOwn, dIxCel, dPeek, dPeekT, dPeekN, dNoPart, dPart, dSlN, dSl, dRepN, dRng1, dIsi, isT, dGetK,
  eP, eTP, eAP, eOp, eB, eAnd, eOr, eNot, dCallNK, eAndV, eOrV, eIf, eNil, eCons, eTup, eLst, eCall, eCell, ownsAt, Slot.owns, sNext, sSeq, sCut, sBreak, sCont, sNever, sDrop, sRet, sRetN, sIf, sSet, sOwn, sAug, sRetL, sRetO, sApp, sItem, sRem, sMany, sFreeze, sDict, sPutK,
  mNil, mDat, mOwn, emP, emE, gN, gTn_nil, gTc_cons, gT_tuple, iL, iT, iR1, iR2, iE, iZ, setAll, lstAt, putLst, scalD, dYes,
  gII_int, gAdd_int, gAdd_list, gAdd_tuple, gSub_int, gMulI_int, gMul_int, gDiv_int, gMod_int, gPow_int, gLt_int, gLe_int, gGt_int, gGe_int, gIx_list, gIx_tuple, gSl_list, gSl_tuple, gLen_list, gLen_tuple, gAbs_int, gMax2_int, gMin2_int, gInt1_int, gInt1_bool, gList_list, gList_tuple, gReprS_list, gReprS_tuple, gEq_int, gNe_int, gNeg_int, gLeA_int, gLeA_tuple,
  wipeD, startC, startD, sRetE, sOwnE, eFrz, eiP, eiR1, eiT, dTru, truD, okTru, gSum_ints, gDivmod_int, gIn_ints, gNotIn_ints, gAll_bools, gEq_str, gNe_str, noOwn, restD, sDictT, sPutT, dInT, iR2w, iEZ, keysD, keyD])
open Rh
theorem W_const {b : Beat} {c : Int} (h1 : 1 ≤ b.length) (h : ∀ k, k < b.length → bx b k = c) (f : Nat) : ∀ n : Nat, W b f n = c * n
  | 0 => by rw [W_zero]; simp
  | n + 1 => by
    rw [W_succ, W_const h1 h f n, h _ (Nat.mod_lt _ h1)]
    rw [Int.natCast_add, Int.mul_add]
    simp
theorem bx_one {x : Int} (k : Nat) (h : k < [x].length) : bx [x] k = x := by
  have e : k = 0 := by simpa using h
  rw [e]
  rfl
/-- the cells that stay for two slots and more -/
def longs (lot : Lot) (row : List Int) : List Nat := (List.range lot.length).filter fun k => decide ((ct lot k).1 < lx row k)
theorem ok1 : BeatOk [1] := ⟨by decide, by decide, by decide⟩
theorem ok2 : BeatOk [2] := ⟨by decide, by decide, by decide⟩
theorem uns_one {wide : Int} {lot : Lot} {row : List Int} (hc : CellsOk wide lot) (hr : RowOk lot row) : uns lot row [1] = longs lot row := by
  unfold uns longs
  refine List.filter_congr fun k hk => ?_
  have kl := List.mem_range.mp hk
  have a := hr.ge k kl
  have b := (hc.at_ _ (ct_mem kl)).a0
  rw [many_W ok1 b a.1, W_const (c := 1) (by decide) (bx_one (x := 1))]
  rw [← decide_not, decide_eq_decide]
  omega
theorem uns_two {wide : Int} {lot : Lot} {row : List Int} (hc : CellsOk wide lot) (hr : RowOk lot row) : uns lot row [2] = [] := by
  unfold uns
  refine List.filter_eq_nil_iff.mpr fun k hk => ?_
  have kl := List.mem_range.mp hk
  have a := hr.ge k kl
  have b := (hc.at_ _ (ct_mem kl)).a0
  rw [many_W ok2 b a.1, W_const (c := 2) (by decide) (bx_one (x := 2))]
  simp
  omega
theorem RowOk.sh {lot : Lot} {row : List Int} (h : RowOk lot row) {base : Int} (hb : 0 ≤ base) (hb2 : base ≤ 10 ^ 30) (hm : ∀ k, k < lot.length → lx row k ≤ 1000) : RowOk (shL base lot) (shR base row) := by
  have n : (shL base lot).length = lot.length := by simp [shL]
  have m := h.len
  refine ⟨by simp [shL, shR, m], ?_, ?_⟩
  · intro k hk
    rw [n] at hk
    rw [ct_sh hk, lx_sh (by omega)]
    have := h.ge k hk
    have := hm k hk
    have hf : far = 9999999999999999999999999999999 := rfl
    exact ⟨by show (ct lot k).1 + base ≤ _; omega, by omega⟩
  · intro j hj k hk e1 e2
    rw [n] at hj hk
    rw [ct_sh hj, ct_sh hk] at e1
    rw [lx_sh (by omega), lx_sh (by omega)] at e2
    exact h.dist j hj k hk e1 (by omega)
theorem LineOk.row {way : Int} {lot : Lot} {line : List Int} (h : LineOk way lot line) : RowOk lot line := by
  have hf : far = 9999999999999999999999999999999 := rfl
  exact ⟨h.len, fun k hk => ⟨(h.ge k hk).1, by have := (h.ge k hk).2; omega⟩, h.dist⟩
theorem LotOk.c {wide span : Int} {lot : Lot} (h : LotOk wide span lot) (w1 : 1 ≤ wide) (w8 : wide ≤ 8) (hs : span ≤ 40) : CellsOk wide lot := by
  have := h.cells (base := 0) w1 w8 (Int.le_refl 0) (by omega)
  rwa [sh0] at this
def three : Lot := [(0, 0, 0), (0, 1, 0), (1, 1, 1)]
theorem ok_three : CellsOk 2 three := by
  refine ⟨by decide, by decide, by decide, ?_, by decide⟩
  intro c hc
  simp [three] at hc
  rcases hc with rfl | rfl | rfl <;> exact ⟨by decide, by decide, by decide, by decide, by decide, by decide⟩
theorem ok_three_row : RowOk three [0, 1, 1] := by
  refine ⟨rfl, ?_, ?_⟩
  · intro k hk
    have : k = 0 ∨ k = 1 ∨ k = 2 := by simp [three] at hk; omega
    rcases this with rfl | rfl | rfl <;> exact ⟨by decide, by decide⟩
  · intro j hj k hk
    have h1 : j = 0 ∨ j = 1 ∨ j = 2 := by simp [three] at hj; omega
    have h2 : k = 0 ∨ k = 1 ∨ k = 2 := by simp [three] at hk; omega
    rcases h1 with rfl | rfl | rfl <;> rcases h2 with rfl | rfl | rfl <;> decide
end Lw

set_option Elab.async false
set_option linter.all false
set_option maxRecDepth 100000
set_option maxHeartbeats 4000000
namespace Lw
open PySem PySem.Spec PyProof.Rows L2 Evl G Dl
local macro_rules | `(tactic| walk_at "ev") => `(tactic| simp [dVar, dC, dCallK, dOp, dChain, dUn, dB, dAnd, dOr, dNot, dAndV, dOrV, dNotV, dIf, dNil, dCons, dTup, dLst, dCall, dCallN, dFreeze, dIxOwn, dIxCel, dPeek, dPeekT, dPeekN, dNoPart, dPart, dSlN, dSl, dRepN, dRng1, dIsi, isT, dGetK,
  eP, eTP, eAP, eOp, eB, eAnd, eOr, eNot, dCallNK, eAndV, eOrV, eIf, eNil, eCons, eTup, eLst, eCall, eCell, ownsAt, Slot.owns, sNext, sSeq, sCut, sBreak, sCont, sNever, sDrop, sRet, sRetN, sIf, sSet, sOwn, sAug, sRetL, sRetO, sApp, sItem, sRem, sMany, sFreeze, sDict, sPutK,
  mNil, mDat, mOwn, emP, emE, gN, gTn_nil, gTc_cons, gT_tuple, iL, iT, iR1, iR2, iE, iZ, setAll, lstAt, putLst, scalD, dYes,
  gII_int, gAdd_int, gAdd_list, gAdd_tuple, gSub_int, gMulI_int, gMul_int, gDiv_int, gMod_int, gPow_int, gLt_int, gLe_int, gGt_int, gGe_int, gIx_list, gIx_tuple, gSl_list, gSl_tuple, gLen_list, gLen_tuple, gAbs_int, gMax2_int, gMin2_int, gInt1_int, gInt1_bool, gList_list, gList_tuple, gReprS_list, gReprS_tuple, gEq_int, gNe_int, gNeg_int, gLeA_int, gLeA_tuple,
  wipeD, startC, startD, sRetE, sOwnE, eFrz, eiP, eiR1, eiT, dTru, truD, okTru, gSum_ints, gDivmod_int, gIn_ints, gNotIn_ints, gAll_bools, gEq_str, gNe_str, noOwn, restD, sDictT, sPutT, dInT, iR2w, iEZ, keysD, keyD])
/-- the cells that a law takes of its script -/
def headL (ns : List Int) (m : Int) : List Int := Dl.cutD (ns ++ [0]) none (some (if (if m < (ns.length : Int) then m else (ns.length : Int)) > 1 then (if m < (ns.length : Int) then m else (ns.length : Int)) else 1))
theorem headL_len (ns : List Int) (m : Int) : (headL ns m).length ≤ ns.length + 1 := by
  unfold headL Dl.cutD
  rw [List.length_take, List.length_drop, List.length_append]
  simp
  omega
theorem head_di {ns : List Int} {m : Int} {ρ : Dl.Env} {P : List D → Prop} (h0 : ρ[0]? = some (.dat (.list (ns.map .int)))) (hl : ns.length ≤ 63) (h : P (enumD ((headL ns m).map .int))) :
    (iE (dCons (dSl (dOp gAdd (dVar 0) (dFreeze (dLst (dCons (dC (.int 0)) dNil)))) dNoPart (dPart (dCall gMax2 (dCons (dC (.int 1)) (dCons (dCall gMin2 (dCons (dCall gLen (dCons (dVar 0) dNil)) (dCons (dC (.int m)) dNil))) dNil))))) dNil)) ρ P := by
  show ∃ d, ρ[0]? = _ ∧ _
  refine ⟨_, h0, ?_⟩
  refine ⟨Nat.le_of_ble_eq_true rfl, ?_⟩
  dsimp only
  rw [gAdd_list]
  refine ⟨by simp; omega, ?_⟩
  walk_at "ev"
  refine ⟨_, h0, ?_⟩
  walk_at "ev"
  have e : Dl.cutD (ns.map PyData.int ++ [.int 0]) none (some (if (if m < (ns.length : Int) then m else (ns.length : Int)) > 1 then (if m < (ns.length : Int) then m else (ns.length : Int)) else 1)) = (headL ns m).map .int := by
    unfold headL Dl.cutD
    simp
  rw [e]
  exact h
open Rh
theorem gNe_nil {ns : List Int} {P : D → Prop} : gNe (.list (ns.map PyData.int)) (.list []) P = P (.bool (!decide (ns = []))) := gNe_ints (ms := [])
def pr_law (ds : List D) (P : D → Prop) : Prop := ∃ ns : List Int, ds = [.list (ns.map .int)] ∧ ns.length ≤ 63 ∧ P (.bool true)
theorem sem_law (ds : List D) (Q : D → Prop) (h : pr_law ds Q) :
    body_law pr_beat pr_draw pr_later pr_lineG pr_lot pr_right pr_source pr_unsure { nx := fun _ => Q .none, rt := fun d _ => Q d, rn := fun xs _ => Q (.list xs) } (startD N_law ds) := by
  obtain ⟨ns, rfl, hl, h⟩ := h
  unfold body_law
  simp only [sSeq]
  have hh := headL_len ns 8
  let I : Nat → Dl.Env → Prop := fun i ρ => ∃ s1 s2 s3 s4 s5 s6 s7 s8 s9 s10 s11 s12 s13, ρ = [.dat (.list (ns.map .int)), s1, s2, s3, s4, s5, s6, s7, s8, s9, s10, s11, s12, s13, .no, .no, .no]
  refine for_items (xs := enumD ((headL ns 8).map .int)) (fun P hP => head_di rfl hl hP) I ⟨_, _, _, _, _, _, _, _, _, _, _, _, _, rfl⟩ ?_ ?_
  · rintro i d ρ hd ⟨s1, s2, s3, s4, s5, s6, s7, s8, s9, s10, s11, s12, s13, rfl⟩
    obtain ⟨x, hx, rfl⟩ := enumD_get hd
    rw [List.getElem?_map] at hx
    obtain ⟨c, hc, rfl⟩ := Option.map_eq_some_iff.mp hx
    have il := (List.getElem?_eq_some_iff.mp hc).1
    unfold lp_law_2
    walk_at "ev"
    refine ⟨c, i, rfl, by omega, by omega, fun cs hs => ?_⟩
    let J : Nat → Dl.Env → Prop := fun j ρ => ∃ cs s6 s7 s8 s9 s10 s11 s12 s13, ρ = [.dat (.list (ns.map .int)), .dat (.int (i : Int)), .dat (.int c), s3, s4, .own cs, s6, s7, s8, s9, s10, s11, s12, s13, .no, .no, .no] ∧ SrcAt (10000 * (j : Int)) cs
    refine for_range1 (n := 2) (fun P h => by walk_at "ev"; exact h) J ⟨cs, _, _, _, _, _, _, _, _, rfl, by simpa using hs⟩ ?_ ?_
    · rintro j ρ hj ⟨cs2, t6, t7, t8, t9, t10, t11, t12, t13, rfl, hs2⟩
      unfold lp_law_1
      walk_at "ev"
      refine run_draw hs2 (by omega) (by decide) (by decide) fun r cs3 r0 r1 hs3 => ?_
      rw [gAdd_int, gNe_nil, gInt1_bool]
      refine gIx_at (by split <;> decide) (by split <;> decide) fun d hd => ?_
      obtain ⟨sp, rfl, sp1, sp2⟩ : ∃ v : Int, d = .int v ∧ 1 ≤ v ∧ v ≤ 30 := by
        by_cases q : (!decide (ns = [])) = true
        · rw [if_pos q] at hd
          exact ⟨30, by simpa using hd.symm, by decide, by decide⟩
        · rw [if_neg q] at hd
          exact ⟨4, by simpa using hd.symm, by decide, by decide⟩
      refine run_draw hs3 (by omega) sp1 (by omega) fun r2 cs4 r20 r21 hs4 => ?_
      rw [gAdd_int]
      refine ⟨_, _, _, hs4, by omega, rfl, by omega, by omega, by omega, by omega, fun lot cs5 hlot hs5 => ?_⟩
      have hc := hlot.c (by omega) (by omega) (by omega)
      have hp := hc.p
      refine run_draw hs5 (by omega) (by decide) (by decide) fun way cs6 w0 w1 hs6 => ?_
      refine ⟨_, lot, way, hs6, by omega, rfl, ⟨w0, by omega⟩, hp, fun k hk => ?_, fun k hk => ?_, fun line cs7 hline hs7 => ?_⟩
      · have := hlot.at_ _ (ct_mem hk)
        omega
      · have := hlot.at_ _ (ct_mem hk)
        omega
      have hr := hline.row
      refine ⟨_, 3, hs7, by omega, rfl, by decide, by decide, fun beat cs8 hb hs8 => ?_⟩
      have fin : ∀ (beat : Beat) cs, BeatOk beat → SrcAt (10000 * (j : Int) + 6000) cs → rs_law_2 pr_beat pr_draw pr_later pr_lineG pr_lot pr_right pr_source pr_unsure
          { nx := J (j + 1), rt := fun d x => Q d, bk := I (i + 1), ct := J (j + 1), rn := fun xs x => Q (PyData.list xs) }
          [.dat (.list (ns.map .int)), .dat (.int (i : Int)), .dat (.int c), s3, s4, .own cs, .dat (.int (j : Int)), .dat (.int (1 + r)), .dat (.list (lot.map cellD)), .dat (.list (line.map .int)), .dat (.list (beat.map .int)), t11, t12, t13, .no, .no, .no] := by
        intro beat cs hb hs
        unfold rs_law_2
        walk_at "ev"
        refine ⟨_, lot, line, beat, rfl, hc, hr, hb, fun k hk => ?_, ?_⟩
        · have := hline.ge k hk
          have := hp.h0 k hk
          omega
        walk_at "ev"
        refine ⟨big_nat (by decide), run_draw hs (by omega) (by decide) (by decide) fun r3 cs10 r30 r31 hs10 => ?_⟩
        rw [gAdd_int]
        refine ⟨lot, line, _, rfl, hc.len, by rw [hr.len]; exact hc.len, ?_⟩
        generalize hbase : 100000000000000000000000000000 + r3 = base
        have b0 : 0 ≤ base := by omega
        have b1 : base ≤ 10 ^ 29 + 10 ^ 20 := by omega
        have hr2 : RowOk (shL base lot) (shR base line) := hr.sh b0 (by omega) fun k hk => by
          have := (hline.ge k hk).2
          omega
        have hc2 : CellsOk (1 + r) (shL base lot) := hlot.cells (by omega) (by omega) b0 (by omega)
        have e1 : (lot.map fun c => (c.1 + base, c.2.1, c.2.2)) = shL base lot := rfl
        have e2 : (line.map fun t => t + base) = shR base line := rfl
        rw [e1, e2]
        walk_at "ev"
        refine ⟨_, shL base lot, shR base line, beat, rfl, hc2, hr2, hb, fun k hk => ?_, ?_⟩
        · have kl : k < lot.length := by simpa [shL] using hk
          rw [ct_sh kl, lx_sh (by rw [hr.len]; exact kl)]
          have := hline.ge k kl
          have := hp.h0 k kl
          show _ ≤ (ct lot k).1 + base + 1000
          omega
        walk_at "ev"
        have en := enum_range lot
        refine lc_fun (xs := enumD (lot.map cellD)) (fun d => match d with | .tuple [.int k, _] => decide ((ct lot k.toNat).1 < lx line k.toNat) | _ => false) (fun d => match d with | .tuple [k, _] => k | _ => .none) ?_ (by rw [en]; have := hc.len; simp; omega) ?_ ?_
        · intro P hP
          walk_at "ev"
          exact hP
        · intro d hd B k h1 h2
          rw [en] at hd
          obtain ⟨m, hm, rfl⟩ := List.mem_map.mp hd
          have ml := List.mem_range.mp hm
          have a1 := atI_lx (row := line) (k := m) (by rw [hr.len]; exact ml)
          have e : cellD (ct lot m) = .tuple [.int (ct lot m).1, .int (ct lot m).2.1, .int (ct lot m).2.2] := rfl
          rw [e] at h1 h2 ⊢
          dsimp only [Int.toNat_natCast] at h1 h2
          walk_at "ev"
          refine ⟨_, a1, .int (ct lot m).1, rfl, ?_⟩
          rw [gGt_int]
          by_cases q : (ct lot m).1 < lx line m
          · exact Or.inr ⟨by simp [q], h1 (by simp [q])⟩
          · exact Or.inl ⟨by simp; omega, h2 (by simp; omega)⟩
        · have el : ((enumD (lot.map cellD)).filter fun d => match d with | .tuple [.int k, _] => decide ((ct lot k.toNat).1 < lx line k.toNat) | _ => false).map (fun d => match d with | .tuple [k, _] => k | _ => .none) = (longs lot line).map natD := by
            rw [en, List.filter_map, List.map_map]
            rfl
          rw [el]
          refine ⟨_, lot, line, [1], rfl, hc, hr, ok1, ?_⟩
          rw [uns_one hc hr, natD_ints]
          dsimp only
          rw [gNe_ints]
          refine Or.inl ⟨by simp, ?_⟩
          refine ⟨_, lot, line, [2], rfl, hc, hr, ok2, ?_⟩
          rw [uns_two hc hr]
          show gNe (.list (([] : List Int).map .int)) (.list (([] : List Int).map .int)) _
          rw [gNe_ints]
          exact Or.inl ⟨by simp, _, _, _, _, _, _, _, _, _, rfl, hs10.mono (by omega)⟩
      refine run_draw hs8 (by omega) (by decide) (by decide) fun r9 cs9 r90 r91 hs9 => ?_
      rw [gEq_int]
      by_cases q0 : r9 = 0
      · refine Or.inr ⟨by simp [q0], ?_⟩
        refine elc_E (c0 := 1) (top := 12) (N := 10000 * (j : Int) + 5515) (fun cs => [.dat (.list (ns.map .int)), .dat (.int (i : Int)), .dat (.int c), s3, s4, .own cs, .dat (.int (j : Int)), .dat (.int (1 + r)), .dat (.list (lot.map cellD)), .dat (.list (line.map .int)), .dat (.list (beat.map .int)), t11, t12, t13, .no, .no, .no]) (fun x => 1 ≤ x ∧ x ≤ 2) ?_ (by decide) (fun _ => rfl) ?_ ?_
        · intro P hP
          walk_at "ev"
          refine run_draw hs9 (by omega) (by decide) (by decide) fun r10 cs10 r100 r101 hs10 => ?_
          rw [gAdd_int]
          refine ⟨_, rfl, ⟨by omega, by omega⟩, hP _ _ (by omega) (by omega) (hs10.mono (by omega))⟩
        · intro cs0 m cs T hm hs1 hT
          walk_at "ev"
          refine run_draw hs1 (by omega) (by decide) (by decide) fun x cs' x0 x1 hs2 => ?_
          rw [gEq_int, gInt1_bool, gSub_int]
          refine hT _ cs' _ ?_ (hs2.mono (by omega)) rfl
          split <;> exact ⟨by decide, by decide⟩
        · intro xs cs hl1 hl2 hx hs1
          exact fin xs cs ⟨hl1, by omega, fun x h => by have := hx x h; omega⟩ (hs1.mono (by omega))
      · exact Or.inl ⟨by simp [q0], fin beat cs9 hb (hs9.mono (by omega))⟩
    · rintro ρ ⟨cs2, t6, t7, t8, t9, t10, t11, t12, t13, rfl, hs2⟩
      exact ⟨_, _, _, _, _, _, _, _, _, _, _, _, _, rfl⟩
  · rintro ρ ⟨s1, s2, s3, s4, s5, s6, s7, s8, s9, s10, s11, s12, s13, rfl⟩
    unfold rs_law_1
    walk_at "ev"
    refine lc_fun (xs := [.list [.int 1], .list [.int 1, .int 2], .list [.int 2, .int 1], .list [.int 2]]) (fun _ => true) (fun d => match d with | .list [.int 1] => .list [.int 1] | _ => .list []) ?_ (by decide) ?_ ?_
    · intro P hP
      walk_at "ev"
      exact hP
    · intro d hd B k h1 _
      have k1 := h1 rfl
      have go : ∀ (beat : Beat) (us : List Nat), BeatOk beat → uns three [0, 1, 1] beat = us → k (.list (us.map natD)) → pr_unsure [.int 2, .list (three.map cellD), .list (([0, 1, 1] : List Int).map .int), .list (beat.map .int)] fun ds => k (.list ds) := by
        intro beat us hb hu hk
        refine ⟨2, three, [0, 1, 1], beat, rfl, ok_three, ok_three_row, hb, ?_⟩
        rw [hu]
        exact hk
      simp only [List.mem_cons, List.not_mem_nil, or_false] at hd
      rcases hd with rfl | rfl | rfl | rfl
      · walk_at "ev"
        exact go [1] [1] ok1 (by decide +kernel) k1
      · walk_at "ev"
        exact go [1, 2] [] ⟨by decide, by decide, by decide⟩ (by decide +kernel) k1
      · walk_at "ev"
        exact go [2, 1] [] ⟨by decide, by decide, by decide⟩ (by decide +kernel) k1
      · walk_at "ev"
        exact go [2] [] ok2 (by decide +kernel) k1
    · have el : (([.list [.int 1], .list [.int 1, .int 2], .list [.int 2, .int 1], .list [.int 2]] : List D).filter fun _ => true).map (fun d : D => match d with | .list [.int 1] => (.list [.int 1] : D) | _ => .list []) = [.list [.int 1], .list [], .list [], .list []] := rfl
      rw [el]
      refine ⟨Or.inr ⟨by decide +kernel, by decide +kernel⟩, ?_⟩
      have ee : PyData.eqv (PyData.list [PyData.list [PyData.int 1], PyData.list [], PyData.list [], PyData.list []]) (PyData.list [PyData.list [PyData.int 1], PyData.list [], PyData.list [], PyData.list []]) = true := by decide +kernel
      rw [ee]
      refine Or.inr ⟨rfl, ?_⟩
      refine ⟨1, [], [], [0], rfl, ⟨by decide, by decide, by decide, (fun c hc => nomatch hc), .nil⟩, ⟨rfl, (fun k hk => absurd hk (Nat.not_lt_zero _)), (fun j hj => absurd hj (Nat.not_lt_zero _))⟩, ⟨by decide, by decide, by decide⟩, ?_⟩
      have e0 : uns [] [] [0] = [] := rfl
      rw [e0]
      show gEq (.list (([] : List Int).map .int)) (.list (([] : List Int).map .int)) _
      rw [gEq_ints]
      simpa using h
end Lw

set_option Elab.async false
set_option linter.all false
set_option maxRecDepth 100000
set_option maxHeartbeats 4000000
namespace Lw
open PySem PySem.Spec PyProof.Rows L2 Evl G Dl
section
variable {P : Program} {w : World} {K : PySem.W.Frag} {mg : Str → Option Value} {base : Heap} {a : Ads}
theorem ok_is_integer (T : Txt K mg a) : FnG P w K mg base L2.CX0 1 a.f_is_integer a.fd_is_integer ["value"] (spP K pr_is_integer) :=
  fn_pure T.f_is_integer.F sc_is_integer (fun ds Q h => by
    unfold pr_is_integer at h
    first | (obtain ⟨_, e, _⟩ := h; rw [e]; rfl) | (obtain ⟨_, _, e, _⟩ := h; rw [e]; rfl) | (obtain ⟨_, _, _, e, _⟩ := h; rw [e]; rfl) | (obtain ⟨_, _, _, _, e, _⟩ := h; rw [e]; rfl) | (obtain ⟨_, _, _, _, _, e, _⟩ := h; rw [e]; rfl) | (obtain ⟨_, _, _, _, _, _, e, _⟩ := h; rw [e]; rfl) | (obtain ⟨_, _, _, _, _, _, _, e, _⟩ := h; rw [e]; rfl) | (obtain ⟨_, _, _, _, _, _, _, _, e, _⟩ := h; rw [e]; rfl) | (obtain ⟨_, _, _, _, _, _, _, _, _, e, _⟩ := h; rw [e]; rfl)) (fun cdv A outer s H E hg hr => der_is_integer T cdv A outer s H E hg hr) sem_is_integer
theorem ok_is_between (T : Txt K mg a) : FnG P w K mg base L2.CX0 2 a.f_is_between a.fd_is_between ["value", "first", "last"] (spP K pr_is_between) :=
  fn_pure T.f_is_between.F sc_is_between (fun ds Q h => by
    unfold pr_is_between at h
    first | (obtain ⟨_, e, _⟩ := h; rw [e]; rfl) | (obtain ⟨_, _, e, _⟩ := h; rw [e]; rfl) | (obtain ⟨_, _, _, e, _⟩ := h; rw [e]; rfl) | (obtain ⟨_, _, _, _, e, _⟩ := h; rw [e]; rfl) | (obtain ⟨_, _, _, _, _, e, _⟩ := h; rw [e]; rfl) | (obtain ⟨_, _, _, _, _, _, e, _⟩ := h; rw [e]; rfl) | (obtain ⟨_, _, _, _, _, _, _, e, _⟩ := h; rw [e]; rfl) | (obtain ⟨_, _, _, _, _, _, _, _, e, _⟩ := h; rw [e]; rfl) | (obtain ⟨_, _, _, _, _, _, _, _, _, e, _⟩ := h; rw [e]; rfl)) (fun cdv A outer s H E hg hr => der_is_between T (ok_is_integer T) cdv A outer s H E hg hr) sem_is_between
theorem ok_is_cell (T : Txt K mg a) : FnG P w K mg base L2.CX0 3 a.f_is_cell a.fd_is_cell ["size", "value"] (spP K pr_is_cell) :=
  fn_pure T.f_is_cell.F sc_is_cell (fun ds Q h => by
    unfold pr_is_cell at h
    first | (obtain ⟨_, e, _⟩ := h; rw [e]; rfl) | (obtain ⟨_, _, e, _⟩ := h; rw [e]; rfl) | (obtain ⟨_, _, _, e, _⟩ := h; rw [e]; rfl) | (obtain ⟨_, _, _, _, e, _⟩ := h; rw [e]; rfl) | (obtain ⟨_, _, _, _, _, e, _⟩ := h; rw [e]; rfl) | (obtain ⟨_, _, _, _, _, _, e, _⟩ := h; rw [e]; rfl) | (obtain ⟨_, _, _, _, _, _, _, e, _⟩ := h; rw [e]; rfl) | (obtain ⟨_, _, _, _, _, _, _, _, e, _⟩ := h; rw [e]; rfl) | (obtain ⟨_, _, _, _, _, _, _, _, _, e, _⟩ := h; rw [e]; rfl)) (fun cdv A outer s H E hg hr => der_is_cell T (ok_is_between T) cdv A outer s H E hg hr) sem_is_cell
theorem ok_is_slot_of (T : Txt K mg a) : FnG P w K mg base L2.CX0 3 a.f_is_slot_of a.fd_is_slot_of ["cell", "value"] (spP K pr_is_slot_of) :=
  fn_pure T.f_is_slot_of.F sc_is_slot_of (fun ds Q h => by
    unfold pr_is_slot_of at h
    first | (obtain ⟨_, e, _⟩ := h; rw [e]; rfl) | (obtain ⟨_, _, e, _⟩ := h; rw [e]; rfl) | (obtain ⟨_, _, _, e, _⟩ := h; rw [e]; rfl) | (obtain ⟨_, _, _, _, e, _⟩ := h; rw [e]; rfl) | (obtain ⟨_, _, _, _, _, e, _⟩ := h; rw [e]; rfl) | (obtain ⟨_, _, _, _, _, _, e, _⟩ := h; rw [e]; rfl) | (obtain ⟨_, _, _, _, _, _, _, e, _⟩ := h; rw [e]; rfl) | (obtain ⟨_, _, _, _, _, _, _, _, e, _⟩ := h; rw [e]; rfl) | (obtain ⟨_, _, _, _, _, _, _, _, _, e, _⟩ := h; rw [e]; rfl)) (fun cdv A outer s H E hg hr => der_is_slot_of T (ok_is_between T) cdv A outer s H E hg hr) sem_is_slot_of
theorem ok_is_list_of (T : Txt K mg a) : FnG P w K mg base L2.CX0 1 a.f_is_list_of a.fd_is_list_of ["value", "many"] (spP K pr_is_list_of) :=
  fn_pure T.f_is_list_of.F sc_is_list_of (fun ds Q h => by
    unfold pr_is_list_of at h
    first | (obtain ⟨_, e, _⟩ := h; rw [e]; rfl) | (obtain ⟨_, _, e, _⟩ := h; rw [e]; rfl) | (obtain ⟨_, _, _, e, _⟩ := h; rw [e]; rfl) | (obtain ⟨_, _, _, _, e, _⟩ := h; rw [e]; rfl) | (obtain ⟨_, _, _, _, _, e, _⟩ := h; rw [e]; rfl) | (obtain ⟨_, _, _, _, _, _, e, _⟩ := h; rw [e]; rfl) | (obtain ⟨_, _, _, _, _, _, _, e, _⟩ := h; rw [e]; rfl) | (obtain ⟨_, _, _, _, _, _, _, _, e, _⟩ := h; rw [e]; rfl) | (obtain ⟨_, _, _, _, _, _, _, _, _, e, _⟩ := h; rw [e]; rfl)) (fun cdv A outer s H E hg hr => der_is_list_of T cdv A outer s H E hg hr) sem_is_list_of
theorem ok_check_size (T : Txt K mg a) : FnG P w K mg base L2.CX0 3 a.f_check_size a.fd_check_size ["size"] (spP K pr_check_size) :=
  fn_pure T.f_check_size.F sc_check_size (fun ds Q h => by
    unfold pr_check_size at h
    first | (obtain ⟨_, e, _⟩ := h; rw [e]; rfl) | (obtain ⟨_, _, e, _⟩ := h; rw [e]; rfl) | (obtain ⟨_, _, _, e, _⟩ := h; rw [e]; rfl) | (obtain ⟨_, _, _, _, e, _⟩ := h; rw [e]; rfl) | (obtain ⟨_, _, _, _, _, e, _⟩ := h; rw [e]; rfl) | (obtain ⟨_, _, _, _, _, _, e, _⟩ := h; rw [e]; rfl) | (obtain ⟨_, _, _, _, _, _, _, e, _⟩ := h; rw [e]; rfl) | (obtain ⟨_, _, _, _, _, _, _, _, e, _⟩ := h; rw [e]; rfl) | (obtain ⟨_, _, _, _, _, _, _, _, _, e, _⟩ := h; rw [e]; rfl)) (fun cdv A outer s H E hg hr => der_check_size T (ok_is_between T) cdv A outer s H E hg hr) sem_check_size
theorem ok_check_cells (T : Txt K mg a) : FnG P w K mg base L2.CX0 4 a.f_check_cells a.fd_check_cells ["size", "cells"] (spP K pr_check_cells) :=
  fn_pure T.f_check_cells.F sc_check_cells (fun ds Q h => by
    unfold pr_check_cells at h
    first | (obtain ⟨_, e, _⟩ := h; rw [e]; rfl) | (obtain ⟨_, _, e, _⟩ := h; rw [e]; rfl) | (obtain ⟨_, _, _, e, _⟩ := h; rw [e]; rfl) | (obtain ⟨_, _, _, _, e, _⟩ := h; rw [e]; rfl) | (obtain ⟨_, _, _, _, _, e, _⟩ := h; rw [e]; rfl) | (obtain ⟨_, _, _, _, _, _, e, _⟩ := h; rw [e]; rfl) | (obtain ⟨_, _, _, _, _, _, _, e, _⟩ := h; rw [e]; rfl) | (obtain ⟨_, _, _, _, _, _, _, _, e, _⟩ := h; rw [e]; rfl) | (obtain ⟨_, _, _, _, _, _, _, _, _, e, _⟩ := h; rw [e]; rfl)) (fun cdv A outer s H E hg hr => der_check_cells T (ok_check_size T) (ok_is_cell T) cdv A outer s H E hg hr) sem_check_cells
theorem ok_check_row (T : Txt K mg a) : FnG P w K mg base L2.CX0 5 a.f_check_row a.fd_check_row ["size", "cells", "row"] (spP K pr_check_row) :=
  fn_pure T.f_check_row.F sc_check_row (fun ds Q h => by
    unfold pr_check_row at h
    first | (obtain ⟨_, e, _⟩ := h; rw [e]; rfl) | (obtain ⟨_, _, e, _⟩ := h; rw [e]; rfl) | (obtain ⟨_, _, _, e, _⟩ := h; rw [e]; rfl) | (obtain ⟨_, _, _, _, e, _⟩ := h; rw [e]; rfl) | (obtain ⟨_, _, _, _, _, e, _⟩ := h; rw [e]; rfl) | (obtain ⟨_, _, _, _, _, _, e, _⟩ := h; rw [e]; rfl) | (obtain ⟨_, _, _, _, _, _, _, e, _⟩ := h; rw [e]; rfl) | (obtain ⟨_, _, _, _, _, _, _, _, e, _⟩ := h; rw [e]; rfl) | (obtain ⟨_, _, _, _, _, _, _, _, _, e, _⟩ := h; rw [e]; rfl)) (fun cdv A outer s H E hg hr => der_check_row T (ok_check_cells T) (ok_is_list_of T) (ok_is_slot_of T) cdv A outer s H E hg hr) sem_check_row
theorem ok_check_rhythm (T : Txt K mg a) : FnG P w K mg base L2.CX0 3 a.f_check_rhythm a.fd_check_rhythm ["rhythm"] (spP K pr_check_rhythm) :=
  fn_pure T.f_check_rhythm.F sc_check_rhythm (fun ds Q h => by
    unfold pr_check_rhythm at h
    first | (obtain ⟨_, e, _⟩ := h; rw [e]; rfl) | (obtain ⟨_, _, e, _⟩ := h; rw [e]; rfl) | (obtain ⟨_, _, _, e, _⟩ := h; rw [e]; rfl) | (obtain ⟨_, _, _, _, e, _⟩ := h; rw [e]; rfl) | (obtain ⟨_, _, _, _, _, e, _⟩ := h; rw [e]; rfl) | (obtain ⟨_, _, _, _, _, _, e, _⟩ := h; rw [e]; rfl) | (obtain ⟨_, _, _, _, _, _, _, e, _⟩ := h; rw [e]; rfl) | (obtain ⟨_, _, _, _, _, _, _, _, e, _⟩ := h; rw [e]; rfl) | (obtain ⟨_, _, _, _, _, _, _, _, _, e, _⟩ := h; rw [e]; rfl)) (fun cdv A outer s H E hg hr => der_check_rhythm T (ok_is_between T) cdv A outer s H E hg hr) sem_check_rhythm
theorem ok_pairings_ahead (T : Txt K mg a) : FnG P w K mg base L2.CX0 1 a.f_pairings_ahead a.fd_pairings_ahead ["rhythm", "slot"] (spP K pr_pairings_ahead) :=
  fn_pure T.f_pairings_ahead.F sc_pairings_ahead (fun ds Q h => by
    unfold pr_pairings_ahead at h
    first | (obtain ⟨_, e, _⟩ := h; rw [e]; rfl) | (obtain ⟨_, _, e, _⟩ := h; rw [e]; rfl) | (obtain ⟨_, _, _, e, _⟩ := h; rw [e]; rfl) | (obtain ⟨_, _, _, _, e, _⟩ := h; rw [e]; rfl) | (obtain ⟨_, _, _, _, _, e, _⟩ := h; rw [e]; rfl) | (obtain ⟨_, _, _, _, _, _, e, _⟩ := h; rw [e]; rfl) | (obtain ⟨_, _, _, _, _, _, _, e, _⟩ := h; rw [e]; rfl) | (obtain ⟨_, _, _, _, _, _, _, _, e, _⟩ := h; rw [e]; rfl) | (obtain ⟨_, _, _, _, _, _, _, _, _, e, _⟩ := h; rw [e]; rfl)) (fun cdv A outer s H E hg hr => der_pairings_ahead T cdv A outer s H E hg hr) sem_pairings_ahead
theorem ok_pairings_within (T : Txt K mg a) : FnG P w K mg base L2.CX0 2 a.f_pairings_within a.fd_pairings_within ["rhythm", "first", "last"] (spP K pr_pairings_within) :=
  fn_pure T.f_pairings_within.F sc_pairings_within (fun ds Q h => by
    unfold pr_pairings_within at h
    first | (obtain ⟨_, e, _⟩ := h; rw [e]; rfl) | (obtain ⟨_, _, e, _⟩ := h; rw [e]; rfl) | (obtain ⟨_, _, _, e, _⟩ := h; rw [e]; rfl) | (obtain ⟨_, _, _, _, e, _⟩ := h; rw [e]; rfl) | (obtain ⟨_, _, _, _, _, e, _⟩ := h; rw [e]; rfl) | (obtain ⟨_, _, _, _, _, _, e, _⟩ := h; rw [e]; rfl) | (obtain ⟨_, _, _, _, _, _, _, e, _⟩ := h; rw [e]; rfl) | (obtain ⟨_, _, _, _, _, _, _, _, e, _⟩ := h; rw [e]; rfl) | (obtain ⟨_, _, _, _, _, _, _, _, _, e, _⟩ := h; rw [e]; rfl)) (fun cdv A outer s H E hg hr => der_pairings_within T (ok_pairings_ahead T) cdv A outer s H E hg hr) sem_pairings_within
theorem ok_has_many (T : Txt K mg a) : FnG P w K mg base L2.CX0 3 a.f_has_many a.fd_has_many ["rhythm", "first", "last"] (spP K pr_has_many) :=
  fn_pure T.f_has_many.F sc_has_many (fun ds Q h => by
    unfold pr_has_many at h
    first | (obtain ⟨_, e, _⟩ := h; rw [e]; rfl) | (obtain ⟨_, _, e, _⟩ := h; rw [e]; rfl) | (obtain ⟨_, _, _, e, _⟩ := h; rw [e]; rfl) | (obtain ⟨_, _, _, _, e, _⟩ := h; rw [e]; rfl) | (obtain ⟨_, _, _, _, _, e, _⟩ := h; rw [e]; rfl) | (obtain ⟨_, _, _, _, _, _, e, _⟩ := h; rw [e]; rfl) | (obtain ⟨_, _, _, _, _, _, _, e, _⟩ := h; rw [e]; rfl) | (obtain ⟨_, _, _, _, _, _, _, _, e, _⟩ := h; rw [e]; rfl) | (obtain ⟨_, _, _, _, _, _, _, _, _, e, _⟩ := h; rw [e]; rfl)) (fun cdv A outer s H E hg hr => der_has_many T (ok_pairings_within T) cdv A outer s H E hg hr) sem_has_many
theorem ok_unsure (T : Txt K mg a) : FnG P w K mg base L2.CX0 6 a.f_unsure a.fd_unsure ["size", "cells", "row", "rhythm"] (spN K pr_unsure) :=
  fn_new T.f_unsure.F sc_unsure (fun ds Q h => by
    unfold pr_unsure at h
    first | (obtain ⟨_, e, _⟩ := h; rw [e]; rfl) | (obtain ⟨_, _, e, _⟩ := h; rw [e]; rfl) | (obtain ⟨_, _, _, e, _⟩ := h; rw [e]; rfl) | (obtain ⟨_, _, _, _, e, _⟩ := h; rw [e]; rfl) | (obtain ⟨_, _, _, _, _, e, _⟩ := h; rw [e]; rfl) | (obtain ⟨_, _, _, _, _, _, e, _⟩ := h; rw [e]; rfl) | (obtain ⟨_, _, _, _, _, _, _, e, _⟩ := h; rw [e]; rfl) | (obtain ⟨_, _, _, _, _, _, _, _, e, _⟩ := h; rw [e]; rfl) | (obtain ⟨_, _, _, _, _, _, _, _, _, e, _⟩ := h; rw [e]; rfl)) (fun cdv A outer s H E hg hr => der_unsure T (ok_has_many T) (ok_check_rhythm T) (ok_check_row T) cdv A outer s H E hg hr) sem_unsure
theorem ok_source (T : Txt K mg a) : FnG P w K mg base L2.CX0 1 a.f_source a.fd_source ["cell", "k"] (spN K pr_source) :=
  fn_new T.f_source.F sc_source (fun ds Q h => by
    unfold pr_source at h
    first | (obtain ⟨_, e, _⟩ := h; rw [e]; rfl) | (obtain ⟨_, _, e, _⟩ := h; rw [e]; rfl) | (obtain ⟨_, _, _, e, _⟩ := h; rw [e]; rfl) | (obtain ⟨_, _, _, _, e, _⟩ := h; rw [e]; rfl) | (obtain ⟨_, _, _, _, _, e, _⟩ := h; rw [e]; rfl) | (obtain ⟨_, _, _, _, _, _, e, _⟩ := h; rw [e]; rfl) | (obtain ⟨_, _, _, _, _, _, _, e, _⟩ := h; rw [e]; rfl) | (obtain ⟨_, _, _, _, _, _, _, _, e, _⟩ := h; rw [e]; rfl) | (obtain ⟨_, _, _, _, _, _, _, _, _, e, _⟩ := h; rw [e]; rfl)) (fun cdv A outer s H E hg hr => der_source T cdv A outer s H E hg hr) sem_source
theorem ok_draw (T : Txt K mg a) : FnG P w K mg base L2.CX0 1 a.f_draw a.fd_draw ["source", "count"] (spC K pr_draw) :=
  fn_cell T.f_draw.F sc_draw (fun cs ds Q h => by
    unfold pr_draw at h
    first | (obtain ⟨_, e, _⟩ := h; rw [e]; rfl) | (obtain ⟨_, _, e, _⟩ := h; rw [e]; rfl) | (obtain ⟨_, _, _, e, _⟩ := h; rw [e]; rfl) | (obtain ⟨_, _, _, _, e, _⟩ := h; rw [e]; rfl) | (obtain ⟨_, _, _, _, _, e, _⟩ := h; rw [e]; rfl) | (obtain ⟨_, _, _, _, _, _, e, _⟩ := h; rw [e]; rfl) | (obtain ⟨_, _, _, _, _, _, _, e, _⟩ := h; rw [e]; rfl) | (obtain ⟨_, _, _, _, _, _, _, _, e, _⟩ := h; rw [e]; rfl) | (obtain ⟨_, _, _, _, _, _, _, _, _, e, _⟩ := h; rw [e]; rfl)) (fun cdv A outer s H E hg hr => der_draw T cdv A outer s H E hg hr) sem_draw
theorem ok_lot (T : Txt K mg a) : FnG P w K mg base L2.CX0 2 a.f_lot a.fd_lot ["source", "wide", "span"] (spC K pr_lot) :=
  fn_cell T.f_lot.F sc_lot (fun cs ds Q h => by
    unfold pr_lot at h
    first | (obtain ⟨_, e, _⟩ := h; rw [e]; rfl) | (obtain ⟨_, _, e, _⟩ := h; rw [e]; rfl) | (obtain ⟨_, _, _, e, _⟩ := h; rw [e]; rfl) | (obtain ⟨_, _, _, _, e, _⟩ := h; rw [e]; rfl) | (obtain ⟨_, _, _, _, _, e, _⟩ := h; rw [e]; rfl) | (obtain ⟨_, _, _, _, _, _, e, _⟩ := h; rw [e]; rfl) | (obtain ⟨_, _, _, _, _, _, _, e, _⟩ := h; rw [e]; rfl) | (obtain ⟨_, _, _, _, _, _, _, _, e, _⟩ := h; rw [e]; rfl) | (obtain ⟨_, _, _, _, _, _, _, _, _, e, _⟩ := h; rw [e]; rfl)) (fun cdv A outer s H E hg hr => der_lot T (ok_draw T) cdv A outer s H E hg hr) sem_lot
theorem ok_line (T : Txt K mg a) : FnG P w K mg base L2.CX0 2 a.f_line a.fd_line ["source", "lot", "way"] (spC K pr_lineG) :=
  fn_cell T.f_line.F sc_line (fun cs ds Q h => by
    unfold pr_lineG at h
    first | (obtain ⟨_, e, _⟩ := h; rw [e]; rfl) | (obtain ⟨_, _, e, _⟩ := h; rw [e]; rfl) | (obtain ⟨_, _, _, e, _⟩ := h; rw [e]; rfl) | (obtain ⟨_, _, _, _, e, _⟩ := h; rw [e]; rfl) | (obtain ⟨_, _, _, _, _, e, _⟩ := h; rw [e]; rfl) | (obtain ⟨_, _, _, _, _, _, e, _⟩ := h; rw [e]; rfl) | (obtain ⟨_, _, _, _, _, _, _, e, _⟩ := h; rw [e]; rfl) | (obtain ⟨_, _, _, _, _, _, _, _, e, _⟩ := h; rw [e]; rfl) | (obtain ⟨_, _, _, _, _, _, _, _, _, e, _⟩ := h; rw [e]; rfl)) (fun cdv A outer s H E hg hr => der_line T (ok_draw T) cdv A outer s H E hg hr) sem_lineG
theorem ok_later (T : Txt K mg a) : FnG P w K mg base L2.CX0 1 a.f_later a.fd_later ["lot", "line", "base"] (spP K pr_later) :=
  fn_pure T.f_later.F sc_later (fun ds Q h => by
    unfold pr_later at h
    first | (obtain ⟨_, e, _⟩ := h; rw [e]; rfl) | (obtain ⟨_, _, e, _⟩ := h; rw [e]; rfl) | (obtain ⟨_, _, _, e, _⟩ := h; rw [e]; rfl) | (obtain ⟨_, _, _, _, e, _⟩ := h; rw [e]; rfl) | (obtain ⟨_, _, _, _, _, e, _⟩ := h; rw [e]; rfl) | (obtain ⟨_, _, _, _, _, _, e, _⟩ := h; rw [e]; rfl) | (obtain ⟨_, _, _, _, _, _, _, e, _⟩ := h; rw [e]; rfl) | (obtain ⟨_, _, _, _, _, _, _, _, e, _⟩ := h; rw [e]; rfl) | (obtain ⟨_, _, _, _, _, _, _, _, _, e, _⟩ := h; rw [e]; rfl)) (fun cdv A outer s H E hg hr => der_later T cdv A outer s H E hg hr) sem_later
theorem ok_beat (T : Txt K mg a) : FnG P w K mg base L2.CX0 2 a.f_beat a.fd_beat ["source", "top"] (spC K pr_beat) :=
  fn_cell T.f_beat.F sc_beat (fun cs ds Q h => by
    unfold pr_beat at h
    first | (obtain ⟨_, e, _⟩ := h; rw [e]; rfl) | (obtain ⟨_, _, e, _⟩ := h; rw [e]; rfl) | (obtain ⟨_, _, _, e, _⟩ := h; rw [e]; rfl) | (obtain ⟨_, _, _, _, e, _⟩ := h; rw [e]; rfl) | (obtain ⟨_, _, _, _, _, e, _⟩ := h; rw [e]; rfl) | (obtain ⟨_, _, _, _, _, _, e, _⟩ := h; rw [e]; rfl) | (obtain ⟨_, _, _, _, _, _, _, e, _⟩ := h; rw [e]; rfl) | (obtain ⟨_, _, _, _, _, _, _, _, e, _⟩ := h; rw [e]; rfl) | (obtain ⟨_, _, _, _, _, _, _, _, _, e, _⟩ := h; rw [e]; rfl)) (fun cdv A outer s H E hg hr => der_beat T (ok_draw T) cdv A outer s H E hg hr) sem_beat
theorem ok_right (T : Txt K mg a) : FnG P w K mg base L2.CX0 7 a.f_right a.fd_right ["wide", "lot", "line", "beat"] (spP K pr_right) :=
  fn_pure T.f_right.F sc_right (fun ds Q h => by
    unfold pr_right at h
    first | (obtain ⟨_, e, _⟩ := h; rw [e]; rfl) | (obtain ⟨_, _, e, _⟩ := h; rw [e]; rfl) | (obtain ⟨_, _, _, e, _⟩ := h; rw [e]; rfl) | (obtain ⟨_, _, _, _, e, _⟩ := h; rw [e]; rfl) | (obtain ⟨_, _, _, _, _, e, _⟩ := h; rw [e]; rfl) | (obtain ⟨_, _, _, _, _, _, e, _⟩ := h; rw [e]; rfl) | (obtain ⟨_, _, _, _, _, _, _, e, _⟩ := h; rw [e]; rfl) | (obtain ⟨_, _, _, _, _, _, _, _, e, _⟩ := h; rw [e]; rfl) | (obtain ⟨_, _, _, _, _, _, _, _, _, e, _⟩ := h; rw [e]; rfl)) (fun cdv A outer s H E hg hr => der_right T (ok_unsure T) cdv A outer s H E hg hr) sem_right
theorem ok_law (T : Txt K mg a) : FnG P w K mg base L2.CX0 8 a.f_law a.fd_law ["script"] (spP K pr_law) :=
  fn_pure T.f_law.F sc_law (fun ds Q h => by
    unfold pr_law at h
    first | (obtain ⟨_, e, _⟩ := h; rw [e]; rfl) | (obtain ⟨_, _, e, _⟩ := h; rw [e]; rfl) | (obtain ⟨_, _, _, e, _⟩ := h; rw [e]; rfl) | (obtain ⟨_, _, _, _, e, _⟩ := h; rw [e]; rfl) | (obtain ⟨_, _, _, _, _, e, _⟩ := h; rw [e]; rfl) | (obtain ⟨_, _, _, _, _, _, e, _⟩ := h; rw [e]; rfl) | (obtain ⟨_, _, _, _, _, _, _, e, _⟩ := h; rw [e]; rfl) | (obtain ⟨_, _, _, _, _, _, _, _, e, _⟩ := h; rw [e]; rfl) | (obtain ⟨_, _, _, _, _, _, _, _, _, e, _⟩ := h; rw [e]; rfl)) (fun cdv A outer s H E hg hr => der_law T (ok_beat T) (ok_draw T) (ok_later T) (ok_line T) (ok_lot T) (ok_right T) (ok_source T) (ok_unsure T) cdv A outer s H E hg hr) sem_law
theorem law_sp {H : Hp} {a : Addr} {ns : List Int} (hl : ns.length ≤ 63) (hS : SqL K H a (ns.map V.int)) : spP K pr_law [.ref a] H (fun v _ => v = .bl true) fun _ _ _ => False :=
  ⟨H, _, fun d => d = .bool true, Ex.refl H, .cons (.lst hS (Reps.ints ns)) .nil, ⟨ns, rfl, hl, rfl⟩, fun v d F' H' e r _ => by
    subst e
    exact r.bool_inv⟩
end
theorem all_mk {w : World} {K : PySem.W.Frag} {h : Heap} {mg : Str → Option Value} {fa f0 f1 f2 f3 f4 f5 f6 f7 f8 f9 f10 f11 f12 f13 f14 f15 f16 f17 f18 f19 f20 : Addr} (X : K.In h) (G : h.Ns mainGlobals mg) (hfa : mg "law" = some (.ref fa))
    {oc0 kV0 dc0 pm0 cd0 ct0 : Value} {od0 an0 : Option Addr} {sl0 : Array (Option Value)}
    {oc1 kV1 dc1 pm1 cd1 ct1 : Value} {od1 an1 : Option Addr} {sl1 : Array (Option Value)}
    {oc2 kV2 dc2 pm2 cd2 ct2 : Value} {od2 an2 : Option Addr} {sl2 : Array (Option Value)}
    {oc3 kV3 dc3 pm3 cd3 ct3 : Value} {od3 an3 : Option Addr} {sl3 : Array (Option Value)}
    {oc4 kV4 dc4 pm4 cd4 ct4 : Value} {od4 an4 : Option Addr} {sl4 : Array (Option Value)}
    {oc5 kV5 dc5 pm5 cd5 ct5 : Value} {od5 an5 : Option Addr} {sl5 : Array (Option Value)}
    {oc6 kV6 dc6 pm6 cd6 ct6 : Value} {od6 an6 : Option Addr} {sl6 : Array (Option Value)}
    {oc7 kV7 dc7 pm7 cd7 ct7 : Value} {od7 an7 : Option Addr} {sl7 : Array (Option Value)}
    {oc8 kV8 dc8 pm8 cd8 ct8 : Value} {od8 an8 : Option Addr} {sl8 : Array (Option Value)}
    {oc9 kV9 dc9 pm9 cd9 ct9 : Value} {od9 an9 : Option Addr} {sl9 : Array (Option Value)}
    {oc10 kV10 dc10 pm10 cd10 ct10 : Value} {od10 an10 : Option Addr} {sl10 : Array (Option Value)}
    {oc11 kV11 dc11 pm11 cd11 ct11 : Value} {od11 an11 : Option Addr} {sl11 : Array (Option Value)}
    {oc12 kV12 dc12 pm12 cd12 ct12 : Value} {od12 an12 : Option Addr} {sl12 : Array (Option Value)}
    {oc13 kV13 dc13 pm13 cd13 ct13 : Value} {od13 an13 : Option Addr} {sl13 : Array (Option Value)}
    {oc14 kV14 dc14 pm14 cd14 ct14 : Value} {od14 an14 : Option Addr} {sl14 : Array (Option Value)}
    {oc15 kV15 dc15 pm15 cd15 ct15 : Value} {od15 an15 : Option Addr} {sl15 : Array (Option Value)}
    {oc16 kV16 dc16 pm16 cd16 ct16 : Value} {od16 an16 : Option Addr} {sl16 : Array (Option Value)}
    {oc17 kV17 dc17 pm17 cd17 ct17 : Value} {od17 an17 : Option Addr} {sl17 : Array (Option Value)}
    {oc18 kV18 dc18 pm18 cd18 ct18 : Value} {od18 an18 : Option Addr} {sl18 : Array (Option Value)}
    {oc19 kV19 dc19 pm19 cd19 ct19 : Value} {od19 an19 : Option Addr} {sl19 : Array (Option Value)}
    {oc20 kV20 dc20 pm20 cd20 ct20 : Value} {od20 an20 : Option Addr} {sl20 : Array (Option Value)}
    {t_GREATEST_BEAT t_GREATEST_SIZE t_LAST_COMING t_LAST_SLOT t_LONGEST_RHYTHM t_MOST_CELLS : Tok}
    (a0 : PySem.W.nsIn K mainGlobals "is_integer" = some (some (.ref f0)))
    (l0 : K.lookup f0 = some ⟨oc0, od0, .func (PySem.W.fnOf "is_integer" "is_integer" (defArgs s_is_integer) (defBody s_is_integer) (defScope s_is_integer) .none kV0 dc0 pm0 an0 cd0 ct0), sl0⟩)
    (c0 : PySem.W.codeIn K cd0 "is_integer" = true)
    (k0 : PySem.W.keepIn K (.ref f0) = true)
    (a1 : PySem.W.nsIn K mainGlobals "is_between" = some (some (.ref f1)))
    (l1 : K.lookup f1 = some ⟨oc1, od1, .func (PySem.W.fnOf "is_between" "is_between" (defArgs s_is_between) (defBody s_is_between) (defScope s_is_between) .none kV1 dc1 pm1 an1 cd1 ct1), sl1⟩)
    (c1 : PySem.W.codeIn K cd1 "is_between" = true)
    (k1 : PySem.W.keepIn K (.ref f1) = true)
    (a2 : PySem.W.nsIn K mainGlobals "is_cell" = some (some (.ref f2)))
    (l2 : K.lookup f2 = some ⟨oc2, od2, .func (PySem.W.fnOf "is_cell" "is_cell" (defArgs s_is_cell) (defBody s_is_cell) (defScope s_is_cell) .none kV2 dc2 pm2 an2 cd2 ct2), sl2⟩)
    (c2 : PySem.W.codeIn K cd2 "is_cell" = true)
    (k2 : PySem.W.keepIn K (.ref f2) = true)
    (a3 : PySem.W.nsIn K mainGlobals "is_slot_of" = some (some (.ref f3)))
    (l3 : K.lookup f3 = some ⟨oc3, od3, .func (PySem.W.fnOf "is_slot_of" "is_slot_of" (defArgs s_is_slot_of) (defBody s_is_slot_of) (defScope s_is_slot_of) .none kV3 dc3 pm3 an3 cd3 ct3), sl3⟩)
    (c3 : PySem.W.codeIn K cd3 "is_slot_of" = true)
    (k3 : PySem.W.keepIn K (.ref f3) = true)
    (a4 : PySem.W.nsIn K mainGlobals "is_list_of" = some (some (.ref f4)))
    (l4 : K.lookup f4 = some ⟨oc4, od4, .func (PySem.W.fnOf "is_list_of" "is_list_of" (defArgs s_is_list_of) (defBody s_is_list_of) (defScope s_is_list_of) .none kV4 dc4 pm4 an4 cd4 ct4), sl4⟩)
    (c4 : PySem.W.codeIn K cd4 "is_list_of" = true)
    (k4 : PySem.W.keepIn K (.ref f4) = true)
    (a5 : PySem.W.nsIn K mainGlobals "check_size" = some (some (.ref f5)))
    (l5 : K.lookup f5 = some ⟨oc5, od5, .func (PySem.W.fnOf "check_size" "check_size" (defArgs s_check_size) (defBody s_check_size) (defScope s_check_size) .none kV5 dc5 pm5 an5 cd5 ct5), sl5⟩)
    (c5 : PySem.W.codeIn K cd5 "check_size" = true)
    (k5 : PySem.W.keepIn K (.ref f5) = true)
    (a6 : PySem.W.nsIn K mainGlobals "check_cells" = some (some (.ref f6)))
    (l6 : K.lookup f6 = some ⟨oc6, od6, .func (PySem.W.fnOf "check_cells" "check_cells" (defArgs s_check_cells) (defBody s_check_cells) (defScope s_check_cells) .none kV6 dc6 pm6 an6 cd6 ct6), sl6⟩)
    (c6 : PySem.W.codeIn K cd6 "check_cells" = true)
    (k6 : PySem.W.keepIn K (.ref f6) = true)
    (a7 : PySem.W.nsIn K mainGlobals "check_row" = some (some (.ref f7)))
    (l7 : K.lookup f7 = some ⟨oc7, od7, .func (PySem.W.fnOf "check_row" "check_row" (defArgs s_check_row) (defBody s_check_row) (defScope s_check_row) .none kV7 dc7 pm7 an7 cd7 ct7), sl7⟩)
    (c7 : PySem.W.codeIn K cd7 "check_row" = true)
    (k7 : PySem.W.keepIn K (.ref f7) = true)
    (a8 : PySem.W.nsIn K mainGlobals "check_rhythm" = some (some (.ref f8)))
    (l8 : K.lookup f8 = some ⟨oc8, od8, .func (PySem.W.fnOf "check_rhythm" "check_rhythm" (defArgs s_check_rhythm) (defBody s_check_rhythm) (defScope s_check_rhythm) .none kV8 dc8 pm8 an8 cd8 ct8), sl8⟩)
    (c8 : PySem.W.codeIn K cd8 "check_rhythm" = true)
    (k8 : PySem.W.keepIn K (.ref f8) = true)
    (a9 : PySem.W.nsIn K mainGlobals "pairings_within" = some (some (.ref f9)))
    (l9 : K.lookup f9 = some ⟨oc9, od9, .func (PySem.W.fnOf "pairings_within" "pairings_within" (defArgs s_pairings_within) (defBody s_pairings_within) (defScope s_pairings_within) .none kV9 dc9 pm9 an9 cd9 ct9), sl9⟩)
    (c9 : PySem.W.codeIn K cd9 "pairings_within" = true)
    (k9 : PySem.W.keepIn K (.ref f9) = true)
    (a10 : PySem.W.nsIn K mainGlobals "_pairings_ahead" = some (some (.ref f10)))
    (l10 : K.lookup f10 = some ⟨oc10, od10, .func (PySem.W.fnOf "_pairings_ahead" "_pairings_ahead" (defArgs s_pairings_ahead) (defBody s_pairings_ahead) (defScope s_pairings_ahead) .none kV10 dc10 pm10 an10 cd10 ct10), sl10⟩)
    (c10 : PySem.W.codeIn K cd10 "_pairings_ahead" = true)
    (k10 : PySem.W.keepIn K (.ref f10) = true)
    (a11 : PySem.W.nsIn K mainGlobals "unsure" = some (some (.ref f11)))
    (l11 : K.lookup f11 = some ⟨oc11, od11, .func (PySem.W.fnOf "unsure" "unsure" (defArgs s_unsure) (defBody s_unsure) (defScope s_unsure) .none kV11 dc11 pm11 an11 cd11 ct11), sl11⟩)
    (c11 : PySem.W.codeIn K cd11 "unsure" = true)
    (k11 : PySem.W.keepIn K (.ref f11) = true)
    (a12 : PySem.W.nsIn K mainGlobals "_has_many" = some (some (.ref f12)))
    (l12 : K.lookup f12 = some ⟨oc12, od12, .func (PySem.W.fnOf "_has_many" "_has_many" (defArgs s_has_many) (defBody s_has_many) (defScope s_has_many) .none kV12 dc12 pm12 an12 cd12 ct12), sl12⟩)
    (c12 : PySem.W.codeIn K cd12 "_has_many" = true)
    (k12 : PySem.W.keepIn K (.ref f12) = true)
    (a13 : PySem.W.nsIn K mainGlobals "_law_source" = some (some (.ref f13)))
    (l13 : K.lookup f13 = some ⟨oc13, od13, .func (PySem.W.fnOf "_law_source" "_law_source" (defArgs s_source) (defBody s_source) (defScope s_source) .none kV13 dc13 pm13 an13 cd13 ct13), sl13⟩)
    (c13 : PySem.W.codeIn K cd13 "_law_source" = true)
    (k13 : PySem.W.keepIn K (.ref f13) = true)
    (a14 : PySem.W.nsIn K mainGlobals "_law_draw" = some (some (.ref f14)))
    (l14 : K.lookup f14 = some ⟨oc14, od14, .func (PySem.W.fnOf "_law_draw" "_law_draw" (defArgs s_draw) (defBody s_draw) (defScope s_draw) .none kV14 dc14 pm14 an14 cd14 ct14), sl14⟩)
    (c14 : PySem.W.codeIn K cd14 "_law_draw" = true)
    (k14 : PySem.W.keepIn K (.ref f14) = true)
    (a15 : PySem.W.nsIn K mainGlobals "_law_lot" = some (some (.ref f15)))
    (l15 : K.lookup f15 = some ⟨oc15, od15, .func (PySem.W.fnOf "_law_lot" "_law_lot" (defArgs s_lot) (defBody s_lot) (defScope s_lot) .none kV15 dc15 pm15 an15 cd15 ct15), sl15⟩)
    (c15 : PySem.W.codeIn K cd15 "_law_lot" = true)
    (k15 : PySem.W.keepIn K (.ref f15) = true)
    (a16 : PySem.W.nsIn K mainGlobals "_law_line" = some (some (.ref f16)))
    (l16 : K.lookup f16 = some ⟨oc16, od16, .func (PySem.W.fnOf "_law_line" "_law_line" (defArgs s_line) (defBody s_line) (defScope s_line) .none kV16 dc16 pm16 an16 cd16 ct16), sl16⟩)
    (c16 : PySem.W.codeIn K cd16 "_law_line" = true)
    (k16 : PySem.W.keepIn K (.ref f16) = true)
    (a17 : PySem.W.nsIn K mainGlobals "_law_later" = some (some (.ref f17)))
    (l17 : K.lookup f17 = some ⟨oc17, od17, .func (PySem.W.fnOf "_law_later" "_law_later" (defArgs s_later) (defBody s_later) (defScope s_later) .none kV17 dc17 pm17 an17 cd17 ct17), sl17⟩)
    (c17 : PySem.W.codeIn K cd17 "_law_later" = true)
    (k17 : PySem.W.keepIn K (.ref f17) = true)
    (a18 : PySem.W.nsIn K mainGlobals "_law_beat" = some (some (.ref f18)))
    (l18 : K.lookup f18 = some ⟨oc18, od18, .func (PySem.W.fnOf "_law_beat" "_law_beat" (defArgs s_beat) (defBody s_beat) (defScope s_beat) .none kV18 dc18 pm18 an18 cd18 ct18), sl18⟩)
    (c18 : PySem.W.codeIn K cd18 "_law_beat" = true)
    (k18 : PySem.W.keepIn K (.ref f18) = true)
    (a19 : PySem.W.nsIn K mainGlobals "_law_right" = some (some (.ref f19)))
    (l19 : K.lookup f19 = some ⟨oc19, od19, .func (PySem.W.fnOf "_law_right" "_law_right" (defArgs s_right) (defBody s_right) (defScope s_right) .none kV19 dc19 pm19 an19 cd19 ct19), sl19⟩)
    (c19 : PySem.W.codeIn K cd19 "_law_right" = true)
    (k19 : PySem.W.keepIn K (.ref f19) = true)
    (a20 : PySem.W.nsIn K mainGlobals "law" = some (some (.ref f20)))
    (l20 : K.lookup f20 = some ⟨oc20, od20, .func (PySem.W.fnOf "law" "law" (defArgs s_law) (defBody s_law) (defScope s_law) .none kV20 dc20 pm20 an20 cd20 ct20), sl20⟩)
    (c20 : PySem.W.codeIn K cd20 "law" = true)
    (k20 : PySem.W.keepIn K (.ref f20) = true)
    (z_abs : PySem.W.nsIn K mainGlobals "abs" = some none)
    (z_bool : PySem.W.nsIn K mainGlobals "bool" = some none)
    (z_divmod : PySem.W.nsIn K mainGlobals "divmod" = some none)
    (z_enumerate : PySem.W.nsIn K mainGlobals "enumerate" = some none)
    (z_int : PySem.W.nsIn K mainGlobals "int" = some none)
    (z_isinstance : PySem.W.nsIn K mainGlobals "isinstance" = some none)
    (z_len : PySem.W.nsIn K mainGlobals "len" = some none)
    (z_list : PySem.W.nsIn K mainGlobals "list" = some none)
    (z_max : PySem.W.nsIn K mainGlobals "max" = some none)
    (z_min : PySem.W.nsIn K mainGlobals "min" = some none)
    (z_range : PySem.W.nsIn K mainGlobals "range" = some none)
    (z_repr : PySem.W.nsIn K mainGlobals "repr" = some none)
    (z_sum : PySem.W.nsIn K mainGlobals "sum" = some none)
    (z_tuple : PySem.W.nsIn K mainGlobals "tuple" = some none)
    (z_zip : PySem.W.nsIn K mainGlobals "zip" = some none)
    (v_GREATEST_BEAT : PySem.W.nsIn K mainGlobals "GREATEST_BEAT" = some (some (.int (9) t_GREATEST_BEAT)))
    (v_GREATEST_SIZE : PySem.W.nsIn K mainGlobals "GREATEST_SIZE" = some (some (.int (8) t_GREATEST_SIZE)))
    (v_LAST_COMING : PySem.W.nsIn K mainGlobals "LAST_COMING" = some (some (.int (999999999999999999999999999999) t_LAST_COMING)))
    (v_LAST_SLOT : PySem.W.nsIn K mainGlobals "LAST_SLOT" = some (some (.int (9999999999999999999999999999999) t_LAST_SLOT)))
    (v_LONGEST_RHYTHM : PySem.W.nsIn K mainGlobals "LONGEST_RHYTHM" = some (some (.int (40) t_LONGEST_RHYTHM)))
    (v_MOST_CELLS : PySem.W.nsIn K mainGlobals "MOST_CELLS" = some (some (.int (60) t_MOST_CELLS))) :
    ∃ (a : Ads), fa = a.f_law ∧ Txt K mg a ∧ ∀ (s : Shared) (v : Value), BindsTo s a.fd_law ⟨[v], []⟩ [("script", v)] := by
  have e := hfa.symm.trans (PySem.W.mg_of X G a20)
  cases e
  have F0 := fun_mk (st := s_is_integer) l0 c0 k0
  have b0 := F0.binds (ps := ["value"]) fun _ _ _ _ _ _ us hl => match us, hl with | [_], _ => rfl
  have F1 := fun_mk (st := s_is_between) l1 c1 k1
  have b1 := F1.binds (ps := ["value", "first", "last"]) fun _ _ _ _ _ _ us hl => match us, hl with | [_, _, _], _ => rfl
  have F2 := fun_mk (st := s_is_cell) l2 c2 k2
  have b2 := F2.binds (ps := ["size", "value"]) fun _ _ _ _ _ _ us hl => match us, hl with | [_, _], _ => rfl
  have F3 := fun_mk (st := s_is_slot_of) l3 c3 k3
  have b3 := F3.binds (ps := ["cell", "value"]) fun _ _ _ _ _ _ us hl => match us, hl with | [_, _], _ => rfl
  have F4 := fun_mk (st := s_is_list_of) l4 c4 k4
  have b4 := F4.binds (ps := ["value", "many"]) fun _ _ _ _ _ _ us hl => match us, hl with | [_, _], _ => rfl
  have F5 := fun_mk (st := s_check_size) l5 c5 k5
  have b5 := F5.binds (ps := ["size"]) fun _ _ _ _ _ _ us hl => match us, hl with | [_], _ => rfl
  have F6 := fun_mk (st := s_check_cells) l6 c6 k6
  have b6 := F6.binds (ps := ["size", "cells"]) fun _ _ _ _ _ _ us hl => match us, hl with | [_, _], _ => rfl
  have F7 := fun_mk (st := s_check_row) l7 c7 k7
  have b7 := F7.binds (ps := ["size", "cells", "row"]) fun _ _ _ _ _ _ us hl => match us, hl with | [_, _, _], _ => rfl
  have F8 := fun_mk (st := s_check_rhythm) l8 c8 k8
  have b8 := F8.binds (ps := ["rhythm"]) fun _ _ _ _ _ _ us hl => match us, hl with | [_], _ => rfl
  have F9 := fun_mk (st := s_pairings_within) l9 c9 k9
  have b9 := F9.binds (ps := ["rhythm", "first", "last"]) fun _ _ _ _ _ _ us hl => match us, hl with | [_, _, _], _ => rfl
  have F10 := fun_mk (st := s_pairings_ahead) l10 c10 k10
  have b10 := F10.binds (ps := ["rhythm", "slot"]) fun _ _ _ _ _ _ us hl => match us, hl with | [_, _], _ => rfl
  have F11 := fun_mk (st := s_unsure) l11 c11 k11
  have b11 := F11.binds (ps := ["size", "cells", "row", "rhythm"]) fun _ _ _ _ _ _ us hl => match us, hl with | [_, _, _, _], _ => rfl
  have F12 := fun_mk (st := s_has_many) l12 c12 k12
  have b12 := F12.binds (ps := ["rhythm", "first", "last"]) fun _ _ _ _ _ _ us hl => match us, hl with | [_, _, _], _ => rfl
  have F13 := fun_mk (st := s_source) l13 c13 k13
  have b13 := F13.binds (ps := ["cell", "k"]) fun _ _ _ _ _ _ us hl => match us, hl with | [_, _], _ => rfl
  have F14 := fun_mk (st := s_draw) l14 c14 k14
  have b14 := F14.binds (ps := ["source", "count"]) fun _ _ _ _ _ _ us hl => match us, hl with | [_, _], _ => rfl
  have F15 := fun_mk (st := s_lot) l15 c15 k15
  have b15 := F15.binds (ps := ["source", "wide", "span"]) fun _ _ _ _ _ _ us hl => match us, hl with | [_, _, _], _ => rfl
  have F16 := fun_mk (st := s_line) l16 c16 k16
  have b16 := F16.binds (ps := ["source", "lot", "way"]) fun _ _ _ _ _ _ us hl => match us, hl with | [_, _, _], _ => rfl
  have F17 := fun_mk (st := s_later) l17 c17 k17
  have b17 := F17.binds (ps := ["lot", "line", "base"]) fun _ _ _ _ _ _ us hl => match us, hl with | [_, _, _], _ => rfl
  have F18 := fun_mk (st := s_beat) l18 c18 k18
  have b18 := F18.binds (ps := ["source", "top"]) fun _ _ _ _ _ _ us hl => match us, hl with | [_, _], _ => rfl
  have F19 := fun_mk (st := s_right) l19 c19 k19
  have b19 := F19.binds (ps := ["wide", "lot", "line", "beat"]) fun _ _ _ _ _ _ us hl => match us, hl with | [_, _, _, _], _ => rfl
  have F20 := fun_mk (st := s_law) l20 c20 k20
  have b20 := F20.binds (ps := ["script"]) fun _ _ _ _ _ _ us hl => match us, hl with | [_], _ => rfl
  refine ⟨⟨f0, PySem.W.fnOf "is_integer" "is_integer" (defArgs s_is_integer) (defBody s_is_integer) (defScope s_is_integer) .none kV0 dc0 pm0 an0 cd0 ct0, f1, PySem.W.fnOf "is_between" "is_between" (defArgs s_is_between) (defBody s_is_between) (defScope s_is_between) .none kV1 dc1 pm1 an1 cd1 ct1, f2, PySem.W.fnOf "is_cell" "is_cell" (defArgs s_is_cell) (defBody s_is_cell) (defScope s_is_cell) .none kV2 dc2 pm2 an2 cd2 ct2, f3, PySem.W.fnOf "is_slot_of" "is_slot_of" (defArgs s_is_slot_of) (defBody s_is_slot_of) (defScope s_is_slot_of) .none kV3 dc3 pm3 an3 cd3 ct3, f4, PySem.W.fnOf "is_list_of" "is_list_of" (defArgs s_is_list_of) (defBody s_is_list_of) (defScope s_is_list_of) .none kV4 dc4 pm4 an4 cd4 ct4, f5, PySem.W.fnOf "check_size" "check_size" (defArgs s_check_size) (defBody s_check_size) (defScope s_check_size) .none kV5 dc5 pm5 an5 cd5 ct5, f6, PySem.W.fnOf "check_cells" "check_cells" (defArgs s_check_cells) (defBody s_check_cells) (defScope s_check_cells) .none kV6 dc6 pm6 an6 cd6 ct6, f7, PySem.W.fnOf "check_row" "check_row" (defArgs s_check_row) (defBody s_check_row) (defScope s_check_row) .none kV7 dc7 pm7 an7 cd7 ct7, f8, PySem.W.fnOf "check_rhythm" "check_rhythm" (defArgs s_check_rhythm) (defBody s_check_rhythm) (defScope s_check_rhythm) .none kV8 dc8 pm8 an8 cd8 ct8, f9, PySem.W.fnOf "pairings_within" "pairings_within" (defArgs s_pairings_within) (defBody s_pairings_within) (defScope s_pairings_within) .none kV9 dc9 pm9 an9 cd9 ct9, f10, PySem.W.fnOf "_pairings_ahead" "_pairings_ahead" (defArgs s_pairings_ahead) (defBody s_pairings_ahead) (defScope s_pairings_ahead) .none kV10 dc10 pm10 an10 cd10 ct10, f11, PySem.W.fnOf "unsure" "unsure" (defArgs s_unsure) (defBody s_unsure) (defScope s_unsure) .none kV11 dc11 pm11 an11 cd11 ct11, f12, PySem.W.fnOf "_has_many" "_has_many" (defArgs s_has_many) (defBody s_has_many) (defScope s_has_many) .none kV12 dc12 pm12 an12 cd12 ct12, f13, PySem.W.fnOf "_law_source" "_law_source" (defArgs s_source) (defBody s_source) (defScope s_source) .none kV13 dc13 pm13 an13 cd13 ct13, f14, PySem.W.fnOf "_law_draw" "_law_draw" (defArgs s_draw) (defBody s_draw) (defScope s_draw) .none kV14 dc14 pm14 an14 cd14 ct14, f15, PySem.W.fnOf "_law_lot" "_law_lot" (defArgs s_lot) (defBody s_lot) (defScope s_lot) .none kV15 dc15 pm15 an15 cd15 ct15, f16, PySem.W.fnOf "_law_line" "_law_line" (defArgs s_line) (defBody s_line) (defScope s_line) .none kV16 dc16 pm16 an16 cd16 ct16, f17, PySem.W.fnOf "_law_later" "_law_later" (defArgs s_later) (defBody s_later) (defScope s_later) .none kV17 dc17 pm17 an17 cd17 ct17, f18, PySem.W.fnOf "_law_beat" "_law_beat" (defArgs s_beat) (defBody s_beat) (defScope s_beat) .none kV18 dc18 pm18 an18 cd18 ct18, f19, PySem.W.fnOf "_law_right" "_law_right" (defArgs s_right) (defBody s_right) (defScope s_right) .none kV19 dc19 pm19 an19 cd19 ct19, fa, PySem.W.fnOf "law" "law" (defArgs s_law) (defBody s_law) (defScope s_law) .none kV20 dc20 pm20 an20 cd20 ct20⟩, rfl, ⟨⟨PySem.W.mg_of X G a0, F0, b0⟩, ⟨PySem.W.mg_of X G a1, F1, b1⟩, ⟨PySem.W.mg_of X G a2, F2, b2⟩, ⟨PySem.W.mg_of X G a3, F3, b3⟩, ⟨PySem.W.mg_of X G a4, F4, b4⟩, ⟨PySem.W.mg_of X G a5, F5, b5⟩, ⟨PySem.W.mg_of X G a6, F6, b6⟩, ⟨PySem.W.mg_of X G a7, F7, b7⟩, ⟨PySem.W.mg_of X G a8, F8, b8⟩, ⟨PySem.W.mg_of X G a9, F9, b9⟩, ⟨PySem.W.mg_of X G a10, F10, b10⟩, ⟨PySem.W.mg_of X G a11, F11, b11⟩, ⟨PySem.W.mg_of X G a12, F12, b12⟩, ⟨PySem.W.mg_of X G a13, F13, b13⟩, ⟨PySem.W.mg_of X G a14, F14, b14⟩, ⟨PySem.W.mg_of X G a15, F15, b15⟩, ⟨PySem.W.mg_of X G a16, F16, b16⟩, ⟨PySem.W.mg_of X G a17, F17, b17⟩, ⟨PySem.W.mg_of X G a18, F18, b18⟩, ⟨PySem.W.mg_of X G a19, F19, b19⟩, ⟨PySem.W.mg_of X G a20, F20, b20⟩, PySem.W.mg_none_of X G z_abs, PySem.W.mg_none_of X G z_bool, PySem.W.mg_none_of X G z_divmod, PySem.W.mg_none_of X G z_enumerate, PySem.W.mg_none_of X G z_int, PySem.W.mg_none_of X G z_isinstance, PySem.W.mg_none_of X G z_len, PySem.W.mg_none_of X G z_list, PySem.W.mg_none_of X G z_max, PySem.W.mg_none_of X G z_min, PySem.W.mg_none_of X G z_range, PySem.W.mg_none_of X G z_repr, PySem.W.mg_none_of X G z_sum, PySem.W.mg_none_of X G z_tuple, PySem.W.mg_none_of X G z_zip, ⟨_, PySem.W.mg_of X G v_GREATEST_BEAT⟩, ⟨_, PySem.W.mg_of X G v_GREATEST_SIZE⟩, ⟨_, PySem.W.mg_of X G v_LAST_COMING⟩, ⟨_, PySem.W.mg_of X G v_LAST_SLOT⟩, ⟨_, PySem.W.mg_of X G v_LONGEST_RHYTHM⟩, ⟨_, PySem.W.mg_of X G v_MOST_CELLS⟩⟩, fun s v => .of_eq rfl⟩
end Lw

open PySem PySem.W PyProof.Rows in
set_option maxRecDepth 100000 in
set_option maxHeartbeats 0 in
theorem PySem.Challenge.cw_idealtwin_k28_unsure_cells_holds : PySem.Challenge.rw_idealtwin_k28_unsure_cells.Holds := by
  w_on; o_law; k_head; (case hw => w_witness2)
  k_fill
  refine G.walk_G (l := PySem.Challenge.rw_idealtwin_k28_unsure_cells) (n := 63) (k := 8) (x := "script") (CX := fun _ => L2.CX0) (sp := fun K => Dl.spP K Lw.pr_law) rfl (by decide) rfl ⟨rfl, by decide, by decide⟩ (fun w h Y => PySem.W.kIn_of Y) ?F ?hsp ?hcx
  case hsp => exact fun K H a ns hl hS => Lw.law_sp hl hS
  case hcx => exact fun _ _ _ _ _ z => z
  case F =>
    intro w mg fa h KX G hmg
    obtain ⟨a, e, T, hb⟩ := (by
      refine' Lw.all_mk (w := w) KX G hmg ?a0 ?l0 ?c0 ?k0 ?a1 ?l1 ?c1 ?k1 ?a2 ?l2 ?c2 ?k2 ?a3 ?l3 ?c3 ?k3 ?a4 ?l4 ?c4 ?k4 ?a5 ?l5 ?c5 ?k5 ?a6 ?l6 ?c6 ?k6 ?a7 ?l7 ?c7 ?k7 ?a8 ?l8 ?c8 ?k8 ?a9 ?l9 ?c9 ?k9 ?a10 ?l10 ?c10 ?k10 ?a11 ?l11 ?c11 ?k11 ?a12 ?l12 ?c12 ?k12 ?a13 ?l13 ?c13 ?k13 ?a14 ?l14 ?c14 ?k14 ?a15 ?l15 ?c15 ?k15 ?a16 ?l16 ?c16 ?k16 ?a17 ?l17 ?c17 ?k17 ?a18 ?l18 ?c18 ?k18 ?a19 ?l19 ?c19 ?k19 ?a20 ?l20 ?c20 ?k20 ?z_abs ?z_bool ?z_divmod ?z_enumerate ?z_int ?z_isinstance ?z_len ?z_list ?z_max ?z_min ?z_range ?z_repr ?z_sum ?z_tuple ?z_zip ?v_GREATEST_BEAT ?v_GREATEST_SIZE ?v_LAST_COMING ?v_LAST_SLOT ?v_LONGEST_RHYTHM ?v_MOST_CELLS
      (case a0 => k_is)
      (case l0 => k_is)
      (case c0 => k_is)
      (case k0 => k_is)
      (case a1 => k_is)
      (case l1 => k_is)
      (case c1 => k_is)
      (case k1 => k_is)
      (case a2 => k_is)
      (case l2 => k_is)
      (case c2 => k_is)
      (case k2 => k_is)
      (case a3 => k_is)
      (case l3 => k_is)
      (case c3 => k_is)
      (case k3 => k_is)
      (case a4 => k_is)
      (case l4 => k_is)
      (case c4 => k_is)
      (case k4 => k_is)
      (case a5 => k_is)
      (case l5 => k_is)
      (case c5 => k_is)
      (case k5 => k_is)
      (case a6 => k_is)
      (case l6 => k_is)
      (case c6 => k_is)
      (case k6 => k_is)
      (case a7 => k_is)
      (case l7 => k_is)
      (case c7 => k_is)
      (case k7 => k_is)
      (case a8 => k_is)
      (case l8 => k_is)
      (case c8 => k_is)
      (case k8 => k_is)
      (case a9 => k_is)
      (case l9 => k_is)
      (case c9 => k_is)
      (case k9 => k_is)
      (case a10 => k_is)
      (case l10 => k_is)
      (case c10 => k_is)
      (case k10 => k_is)
      (case a11 => k_is)
      (case l11 => k_is)
      (case c11 => k_is)
      (case k11 => k_is)
      (case a12 => k_is)
      (case l12 => k_is)
      (case c12 => k_is)
      (case k12 => k_is)
      (case a13 => k_is)
      (case l13 => k_is)
      (case c13 => k_is)
      (case k13 => k_is)
      (case a14 => k_is)
      (case l14 => k_is)
      (case c14 => k_is)
      (case k14 => k_is)
      (case a15 => k_is)
      (case l15 => k_is)
      (case c15 => k_is)
      (case k15 => k_is)
      (case a16 => k_is)
      (case l16 => k_is)
      (case c16 => k_is)
      (case k16 => k_is)
      (case a17 => k_is)
      (case l17 => k_is)
      (case c17 => k_is)
      (case k17 => k_is)
      (case a18 => k_is)
      (case l18 => k_is)
      (case c18 => k_is)
      (case k18 => k_is)
      (case a19 => k_is)
      (case l19 => k_is)
      (case c19 => k_is)
      (case k19 => k_is)
      (case a20 => k_is)
      (case l20 => k_is)
      (case c20 => k_is)
      (case k20 => k_is)
      (case z_abs => k_is)
      (case z_bool => k_is)
      (case z_divmod => k_is)
      (case z_enumerate => k_is)
      (case z_int => k_is)
      (case z_isinstance => k_is)
      (case z_len => k_is)
      (case z_list => k_is)
      (case z_max => k_is)
      (case z_min => k_is)
      (case z_range => k_is)
      (case z_repr => k_is)
      (case z_sum => k_is)
      (case z_tuple => k_is)
      (case z_zip => k_is)
      (case v_GREATEST_BEAT => k_is)
      (case v_GREATEST_SIZE => k_is)
      (case v_LAST_COMING => k_is)
      (case v_LAST_SLOT => k_is)
      (case v_LONGEST_RHYTHM => k_is)
      (case v_MOST_CELLS => k_is)
      : ∃ (a : Lw.Ads), fa = a.f_law ∧ Lw.Txt _ mg a ∧ ∀ (s : Shared) (v : Value), BindsTo s a.fd_law ⟨[v], []⟩ [("script", v)])
    subst e
    exact ⟨_, hb, fun base _ _ => Lw.ok_law T⟩
