import PyProof.Rows.All
import Wide.All
import OpenK.AllK
import Wide.FinOn
import PyProof.EqAt
import PyProof.EqKinds
import PyProof.TupleCall
import PySem.Challenge.RW_keepwright_k03_pieces_by_names
import HandS.GenCall
import HandS.Comp
import HandS.Ends
import HandS.AnyAll
import HandS.GenList
import PyProof.TupleOfGen
import PyProof.ConsumeS
import HandS.Lambda
import HandS.TryMany
import HandS.ForMost
import HandS.RaiseMore
import HandS.FStr
import HandS.SetKeys
import HandS.DictComp
import HandS.WordsExc
import HandS.Words
import HandS.Set
import HandS.Strs
import HandS.SetFor
import HandS.SortKw
import HandS.FStrTup
import KE.DatumOrd
import HandS.Zip
import KE.KDictZip
import KE.KDictList
import KE.GoesEnumKw
import HandS.Sort
import HandS.More
import HandS.List
import HandS.TupSets
import KE.KSortTupG
import HandS.Style
import HandS.NoneIn
import HandS.TupAny
import HandS.Walk
import KE.KDictSum
import HandS.Defaults
import HandS.SetBool
import HandS.SetTxt0
import HandS.Head2
import HandS.HeadHook4
import HandS.HeadWalk
import HandS.EndTab
import HandS.HeadEnd
set_option Elab.async false
set_option linter.all false
set_option maxRecDepth 100000
set_option maxHeartbeats 4000000
/-! GX: generator expressions, walked by the judgements of the hand layer. -/
namespace GX
open PySem PySem.Spec PyProof.Rows L2 GenW

/-- the code of the one loop -/
abbrev gLoop (elt tg iter : Expr) (ifs : List Expr) (sc : Scope) (pos : Pos) (it : Addr) (env : Env) : Code :=
  .compLoop (.GeneratorExp elt [⟨tg, iter, ifs, 0⟩] sc pos) 0 (.ref it) .none env
abbrev gStart (elt tg iter : Expr) (ifs : List Expr) (sc : Scope) (pos : Pos) (it : Addr) (env : Env) : Code :=
  .compStart (.GeneratorExp elt [⟨tg, iter, ifs, 0⟩] sc pos) 0 (.ref it) .none env
section
variable {A : Around} {elt tg iter : Expr} {ifs : List Expr} {sc : Scope} {pos : Pos} {it : Addr} {env : Env}
theorem over_gl : A.over (gLoop elt tg iter ifs sc pos it env) [] = A.deeper env := by
  obtain ⟨hd, d, fr, gs, u⟩ := A
  first
    | rfl
    | simp [Around.over, Around.deeper, marksOver, frameCount, unitsOf, envsOf, guardsOf, pushEnvs, pushGuards, Code.envs, Code.env?, Code.isFrame, Code.guards, Code.isGuard, Code.weight, Code.frames, Code.isCreation, Code.isCaller, Code.cUnits]
theorem over_gs : A.over (gStart elt tg iter ifs sc pos it env) [] = A.deeper env := by
  obtain ⟨hd, d, fr, gs, u⟩ := A
  first
    | rfl
    | simp [Around.over, Around.deeper, marksOver, frameCount, unitsOf, envsOf, guardsOf, pushEnvs, pushGuards, Code.envs, Code.env?, Code.isFrame, Code.guards, Code.isGuard, Code.weight, Code.frames, Code.isCreation, Code.isCaller, Code.cUnits]
end

/-- what a consumer holds of the generator's state: pins of its own beside the generator's -/
structure Hold (X : Cx) (γ : Type) where
  ok : γ → List (Addr × Obj) → L2.St → Hp → Shared → Prop
  own : Addr → Prop
  unfold : ∀ {g ip σ H s}, ok g ip σ H s → ∃ ps : List (Addr × Obj), (∀ p ∈ ps, own p.1) ∧ Inv X (ps ++ ip) σ H s ∧ ∀ ip' σ' H' s', Inv X (ps ++ ip') σ' H' s' → ok g ip' σ' H' s'

/-- what the user says of the turns: J the walk, W by the turn and a measure, It what an item given out wants, fin the end -/
def Turns {γ : Type} (J : It) (W : Nat → Nat → γ → Hp → Prop) (gt : TG) (tt : TT) (te : TE) (σ0 : L2.St) (vs : List Nat) (Iw : γ → V → Hp → (γ → Hp → Prop) → Prop) (fin : γ → Hp → Prop) : Prop :=
  ∀ i m g H, W i m g H → (J.stop i H ∧ fin g H) ∨ (J.go i H ∧ ∃ Nx : γ → Hp → Prop, (∀ g' H', Nx g' H' → ∃ m', m' < m ∧ W (i + 1) m' g' H') ∧
    ∀ x H', J.yld i H x H' → gt x (wipe σ0 vs) H' fun σ2 H2 => wipe σ2 vs = wipe σ0 vs ∧ tt σ2 H2 fun b H3 => if b = true then te σ2 H3 fun y H4 => Iw g y H4 Nx else Nx g H3)

theorem seg_gx {X : Cx} {γ : Type} (Z : Hold X γ) {A : Around} {R : GenEnd} {Y : Protocol} {elt tg iter : Expr} {ifs : List Expr} {sc : Scope} {pos : Pos} {it : Addr} {fp : List Addr} {tn : Nat → Heap → Prop} {J : It}
    {gt : TG} {tt : TT} {te : TE} {σ0 : L2.St} {vs : List Nat} {W : Nat → Nat → γ → Hp → Prop} {Fu : γ → Nat → Nat → Prop} {Iw : γ → V → Hp → (γ → Hp → Prop) → Prop} {fin : γ → Hp → Prop} {Sn : Shared → γ → Prop}
    (hov : A.over (gLoop elt tg iter ifs sc pos it X.env) [] = X.A) (hex : X.ex = fp) (T : Turn X.prog X.w X.K tg J fp it tn) (hc : X.calm = true) (hpn : ∀ b ∈ fp, ∀ p ∈ X.pn, p.1 ≠ b)
    (pg : PG X tg gt) (pt : PTs X ifs tt) (pe : PE X elt te) (hco : X.env.scope.isCoroutine = false) (hxe : ∀ e s, ¬ X.xe e s)
    (turn : Turns J W gt tt te σ0 vs Iw fin) (hdown : ∀ {g n m m'}, Fu g n m → m' < m → Fu g n m')
    (hfp : ∀ b ∈ fp, ¬ Z.own b) (hSn : ∀ {g ip σ H s}, Z.ok g ip σ H s → Sn s g)
    (hY : ∀ {n s₀ m g y H v ip σ s Nx}, (∀ p ∈ ip, p.1 ∈ fp) → RelV y v → Z.ok g ip σ H s → Sn s₀ g → Fu g n m → Iw g y H Nx → ∃ n', n = n' + 1 ∧ ∀ kap : Resume → Shared → Prop,
      (∀ g' s', Nx g' H → Z.ok g' ip σ H s' → (∀ m', m' < m → Fu g' n' m') → kap (.send .none) s') → Y n' s₀ v s kap)
    (hR : ∀ {n s₀ m g ip σ H s}, Z.ok g ip σ H s → Sn s₀ g → fin g H → Fu g n m → R n s₀ (.ok .next) s) :
    ∀ (m n i : Nat) (s₀ s : Shared) (g : γ) (H : Hp), W i m g H → Fu g n m → Sn s₀ g → Z.ok g [] (wipe σ0 vs) H s → tn i s.heap → (∀ b ∈ fp, H b = none) →
      Seg (model X.prog X.w) A R Y n s₀ (gLoop elt tg iter ifs sc pos it X.env) ((model X.prog X.w).den (gLoop elt tg iter ifs sc pos it X.env)) [] s := by
  have stat : ∀ {ps : List (Addr × Obj)} {σ' : L2.St} {H' : Hp} {s' : Shared}, Inv X ps σ' H' s' → (∀ b ∈ fp, ∀ p ∈ ps, p.1 ≠ b) → (∀ b ∈ fp, H' b = none) → ∀ b ∈ fp, FpOk X ps H' b := fun {ps σ' H' s'} I hp hn b hb => by
    have hbx : b ∈ X.ex := by rw [hex]; exact hb
    refine ⟨hn b hb, (I.ok.exf b hbx).1, I.ok.exfs b hbx, .inl hbx, fun x c e => (I.ok.exf b hbx).2 x c e, fun p hp' => ?_⟩
    rcases List.mem_append.mp hp' with z | z
    · exact hpn b hb p z
    · exact hp b hb p z
  have hy : ∀ v, yieldOut X.env v = yieldValue v := fun v => by simp only [yieldOut, hco, Bool.false_eq_true, if_false]
  intro m
  induction m using Nat.strongRecOn with
  | ind m ih =>
    intro n i s₀ s g H hW hF hSs hZ hst hnf
    obtain ⟨ps, hown, I0, mk⟩ := Z.unfold hZ
    have hps : ∀ b ∈ fp, ∀ p ∈ ps, p.1 ≠ b := fun b hb p hp e => hfp b hb (by rw [← e]; exact hown p hp)
    have I : Inv X ps (wipe σ0 vs) H s := by rw [List.append_nil] at I0; exact I0
    show Seg _ A _ _ _ s₀ _ ((compTurn (.GeneratorExp elt [⟨tg, iter, ifs, 0⟩] sc pos) 0 (.ref it) .none X.env).onRaise (leaving X.env)) [] s
    rw [compTurn_gen, Sem.onRaise_eq_wrap]
    refine seg_bind_wrap (wpAny_standAt ?_)
    rcases turn i m g H hW with ⟨stop, hf⟩ | ⟨go, Nx, hNx, step⟩
    · refine seg_bind_wrap ?_
      rw [hov]
      refine wpAny_mono (T.done X rfl rfl rfl hc i ps s _ H (fun _ _ => False) I (stat I hps hnf) hst stop) (fun r s1 hr => ?_) fun _ _ z => z.elim
      obtain ⟨hr, I1⟩ := hr
      subst hr
      exact seg_end (.ok .next) (hR (mk [] _ _ _ (by rw [List.append_nil]; exact I1)) hSs hf hF)
    · refine seg_bind_wrap ?_
      rw [hov]
      refine wpAny_mono (T.item X rfl rfl rfl hc i ps s _ H (fun _ _ => False) I (stat I hps hnf) hst go) (fun r s1 hr => ?_) fun _ _ z => z.elim
      obtain ⟨u, hr, h6⟩ := hr
      subst hr
      refine seg_bind_wrap ?_
      rw [hov]
      refine wpAny_mono h6 (fun _ s2 h7 => ?_) fun _ _ z => z.elim
      obtain ⟨x, H2, I2, r2, y2, st2, n2⟩ := h7
      have I2' := I2.pinned (stat I2 hps n2) (T.obj _ _ st2)
      refine seg_bind_wrap ?_
      rw [hov]
      refine wpAny_mono (pg.run _ s2 _ H2 x u _ I2' r2 (step x H2 y2)) (fun _ s3 h8 => ?_) fun _ _ z => (hxe _ _ z).elim
      obtain ⟨σ3, H3, I3, hw3, q3⟩ := h8
      refine seg_bind_wrap ?_
      rw [hov]
      refine wpAny_mono (pt.run _ s3 σ3 H3 _ I3 q3) (fun b s4 h9 => ?_) fun _ _ z => (hxe _ _ z).elim
      obtain ⟨H4, I4, q4⟩ := h9
      -- the next turn
      have goOn : ∀ {g' : γ} {H' : Hp} {s' : Shared} {n' m' : Nat} {s₀' : Shared}, Z.ok g' (pinsAt fp s2.heap) σ3 H' s' → m' < m → Fu g' n' m' → Sn s₀' g' → W (i + 1) m' g' H' →
          Seg (model X.prog X.w) A R Y n' s₀' (gLoop elt tg iter ifs sc pos it X.env) ((model X.prog X.w).den (gLoop elt tg iter ifs sc pos it X.env)) [] s' := by
        intro g' H' s' n' m' s₀' hz hlt hfu hsn hw
        obtain ⟨ps', _, J', mk'⟩ := Z.unfold hz
        have pin' : ∀ b ∈ fp, ∀ o, s2.heap.get? b = some o → s'.heap.get? b = some o ∧ H' b = none := fun b hb o e =>
          let z := J'.pin (b, o) (List.mem_append_right _ (List.mem_append_right _ (mem_pinsAt hb e)))
          ⟨z.1, z.2.1⟩
        have hl : (wipe σ0 vs).length = σ3.length := by rw [← hw3, wipe_length]
        refine ih m' hlt n' (i + 1) s₀' s' g' H' hw hfu hsn (mk' [] _ _ _ ?_) (T.keep _ _ _ st2 fun b hb o e => (pin' b hb o e).1) fun b hb => ?_
        · rw [List.append_nil]
          exact (J'.unpinned (pins := ps')).weak hl fun j v e => by
            rw [← hw3] at e
            exact (wipe_some e).1
        · obtain ⟨o, e, _⟩ := T.obj _ _ st2 b hb
          exact (pin' b hb o e).2
      cases b with
      | false =>
        simp only [Bool.false_eq_true, if_false] at q4 ⊢
        obtain ⟨m', hm, hw⟩ := hNx g H4 q4
        exact seg_again rfl (goOn (mk _ _ _ _ I4) hm (hdown hF hm) hSs hw)
      | true =>
        simp only [if_true] at q4 ⊢
        simp only [hy]
        rw [Sem.bind_eq_wrap', Sem.bind_eq_wrap', Sem.wrap_wrap, Sem.wrap_wrap]
        refine seg_wrap ?_
        rw [hov]
        refine wpAny_mono (pe.run _ s4 σ3 H4 _ I4 q4) (fun v s5 h10 => ?_) fun _ _ z => (hxe _ _ z).elim
        obtain ⟨yv, H5, I5, r5, q5⟩ := h10
        obtain ⟨n', hn, hYY⟩ := hY (s₀ := s₀) (fun p hp => (of_pinsAt hp).1) r5 (mk _ _ _ _ I5) hSs hF q5
        subst hn
        refine seg_at (seg_yield rfl rfl rfl (hYY _ fun g' s' hnx hz hfu => ?_))
        obtain ⟨m', hm, hw⟩ := hNx g' H5 hnx
        exact seg_again rfl (goOn hz hm (hfu m' hm) (hSn hz) hw)
end GX

set_option maxRecDepth 100000
set_option maxHeartbeats 4000000
namespace GX
open PySem PySem.Spec PyProof.Rows L2 GenW

theorem seg_gxs {X : Cx} {A : Around} {R : GenEnd} {Y : Protocol} {elt tg iter : Expr} {ifs : List Expr} {sc : Scope} {pos : Pos} {it : Addr} {fp : List Addr} {tn : Nat → Heap → Prop} {J : It} {n i : Nat} {s₀ s : Shared}
    (T : Turn X.prog X.w X.K tg J fp it tn) (hst : tn i s.heap)
    (loop : Seg (model X.prog X.w) A R Y n s₀ (gLoop elt tg iter ifs sc pos it X.env) ((model X.prog X.w).den (gLoop elt tg iter ifs sc pos it X.env)) [] s) :
    Seg (model X.prog X.w) A R Y n s₀ (gStart elt tg iter ifs sc pos it X.env) ((model X.prog X.w).den (gStart elt tg iter ifs sc pos it X.env)) [] s := by
  show Seg _ A _ _ _ s₀ _ ((compStart (.GeneratorExp elt [⟨tg, iter, ifs, 0⟩] sc pos) 0 (.ref it) .none X.env).onRaise (leaving X.env)) [] s
  unfold compStart
  rw [Sem.onRaise_eq_wrap]
  show Seg _ A _ _ _ s₀ _ ((ask >>= _).wrap _ _ _ _) [] s
  refine seg_bind_wrap (wpAny_askSetting ?_)
  split
  · exact seg_again rfl loop
  · refine seg_bind_wrap (wpAny_rule ?_)
    first
      | exact seg_bind_wrap (wpAny_standAt (seg_bind_wrap (T.self _ i s _ _ hst (seg_again rfl loop))))
      | (show Seg _ A _ _ _ s₀ _ ((standAt iter.pos >>= _).wrap _ _ _ _) [] s
         exact seg_bind_wrap (wpAny_standAt (seg_bind_wrap (T.self _ i s _ _ hst (seg_again rfl loop)))))

/-! ### the generator's own names -/
/-- ix: for each of the generator's names the maker's slot that it captures, or none -/
structure GScp (N : List Str) (esc scope : Scope) (Ng : List Str) (ix : List (Option Nat)) : Prop where
  kind : scope.kind = .function
  co : scope.isCoroutine = false
  cell : ∀ y ∈ scope.names, y.2 ≠ .cell
  dot : scope.names.lookup (".0" : Str) = some NameKind.local
  free : ∀ y ∈ scope.names, y.2 = .free → esc.names.lookup y.1 = some .cell ∨ esc.names.lookup y.1 = some .free
  len : ix.length = Ng.length
  cap : ∀ j i : Nat, ix[j]? = some (some i) → ∃ x, Ng[j]? = some x ∧ N[i]? = some x ∧ scope.names.lookup x = some .free
  nd : Ng.Nodup
def gscB (N : List Str) (esc scope : Scope) (Ng : List Str) (ix : List (Option Nat)) : Bool :=
  decide (scope.kind = .function) && !scope.isCoroutine && (scope.names.all fun y => !decide (y.2 = .cell) && (!decide (y.2 = .free) || decide (esc.names.lookup y.1 = some .cell) || decide (esc.names.lookup y.1 = some .free))) &&
  decide (scope.names.lookup (".0" : Str) = some NameKind.local) && decide (ix.length = Ng.length) && decide Ng.Nodup &&
  ((List.range ix.length).all fun j => match ix[j]? with
    | some (some i) => (match Ng[j]?, N[i]? with
      | some x, some y => decide (x = y) && decide (scope.names.lookup x = some .free)
      | _, _ => false)
    | _ => true)
theorem gsc_by {N : List Str} {esc scope : Scope} {Ng : List Str} {ix : List (Option Nat)} (h : gscB N esc scope Ng ix = true) : GScp N esc scope Ng ix := by
  unfold gscB at h
  simp only [Bool.and_eq_true, Bool.or_eq_true, Bool.not_eq_true', decide_eq_true_eq, decide_eq_false_iff_not, List.all_eq_true] at h
  obtain ⟨⟨⟨⟨⟨⟨h1, h2⟩, h3⟩, h4⟩, h5⟩, h6⟩, h7⟩ := h
  refine ⟨h1, h2, fun y hy => (h3 y hy).1, h4, fun y hy e => ?_, h5, fun j i e => ?_, h6⟩
  · rcases (h3 y hy).2 with (z | z) | z
    · exact absurd e z
    · exact .inl z
    · exact .inr z
  · have hj : j < ix.length := (List.getElem?_eq_some_iff.mp e).1
    have q := h7 j (List.mem_range.mpr hj)
    rw [e] at q
    simp only at q
    split at q
    · rename_i x y e1 e2
      rw [Bool.and_eq_true, decide_eq_true_eq, decide_eq_true_eq] at q
      exact ⟨x, e1, by rw [q.1]; exact e2, q.2⟩
    · cases q

/-- the values that the generator sees -/
def capt (ix : List (Option Nat)) (σ : L2.St) : L2.St := ix.map fun o => match o with
  | none => none
  | some i => (σ[i]?).getD none
theorem capt_some {ix : List (Option Nat)} {σ : L2.St} {j : Nat} {v : V} (h : (capt ix σ)[j]? = some (some v)) : ∃ i, ix[j]? = some (some i) ∧ σ[i]? = some (some v) := by
  unfold capt at h
  rw [List.getElem?_map] at h
  cases e : ix[j]? with
  | none => rw [e] at h; cases h
  | some o =>
    rw [e] at h
    cases o with
    | none => cases h
    | some i =>
      have h' : (σ[i]?).getD none = some v := Option.some.inj h
      refine ⟨i, rfl, ?_⟩
      cases q : σ[i]? with
      | none => rw [q] at h'; cases h'
      | some w => rw [q] at h'; exact congrArg some h'

/-- the context of the generator's code: made at s4, H4 by X's def, woken in A -/
def gcx (X : Cx) (A : Around) (s4 : Shared) (H4 : Hp) (Ng : List Str) (genv : Env) (fp : List Addr) : Cx where
  prog := X.prog
  w := X.w
  K := X.K
  mg := X.mg
  base := X.base
  A := A.deeper genv
  N := Ng
  s_0 := s4
  H_0 := H4
  env := genv
  outer := X.stack
  stack := genv :: X.stack
  ex := fp
  fn := fun _ => false
  calm := true
  pn := []
  xe := fun _ _ => False

section
variable {X : Cx} {pins : List (Addr × Obj)} {σ : L2.St} {H : Hp} {s4 : Shared}
theorem gx_inv {A : Around} {s2 : Shared} {scope : Scope} {Ng : List Str} {ix : List (Option Nat)} {fp : List Addr} {code : Value} {m : Str → Option Value} {ps : List (Addr × Obj)} (I : Inv X pins σ H s4) (S : GScp X.N X.env.scope scope Ng ix)
    (hA : A.frames = some X.stack) (hh : A.handled = none) (hfp : ∀ b ∈ fp, FpOk X pins H b ∧ b < s4.heap.objs.size)
    (kp : ∀ b o, s4.heap.get? b = some o → s2.heap.get? b = some o) (os : s2.os = s4.os) (bare : AllBare s2.gens) (hns : s2.heap.Ns s4.heap.objs.size m)
    (hps : ∀ p ∈ ps, s2.heap.get? p.1 = some p.2 ∧ s4.heap.objs.size < p.1 ∧ ∀ v, p.2.data ≠ .cell v) :
    Inv (gcx X A s4 H Ng (genEnv scope (cloFrom X.env.cells scope.names []) s4.heap.objs.size code builtinsNs X.env) fp) ps (capt ix σ) H s2 := by
  have hfree : ∀ y ∈ scope.names, y.2 = .free → ∃ c, X.env.cells.lookup y.1 = some c := fun y hy e => (S.free y hy e).elim (fun z => I.ok.has _ (.inl z)) fun z => I.ok.has _ (.inr z)
  have cm : ∀ {y c}, (cloFrom X.env.cells scope.names []).lookup y = some c → X.env.cells.lookup y = some c := fun {y c} e => by
    rcases cloFrom_mem (PySem.mem_of_lookup e) with hm | ⟨h1, h2⟩
    · cases hm
    · obtain ⟨c1, hc⟩ := hfree _ h1 rfl
      have hc : X.env.cells.lookup y = some c1 := hc
      have e2 : c = c1 := by rw [h2, hc] <;> rfl
      rw [e2]; exact hc
  have look : ∀ {y}, scope.names.lookup y = some .free → ∃ c, (cloFrom X.env.cells scope.names []).lookup y = some c := fun {y} hl =>
    mem_lookup (cloFrom_has (cells := X.env.cells) (acc := []) (PySem.mem_of_lookup hl))
  have young : ∀ b, s4.heap.objs.size ≤ b → H b = none ∧ b ∉ frs X.stack := fun b hb => by
    refine ⟨I.hok.fresh hb, fun z => ?_⟩
    rcases List.mem_cons.mp (I.stkSub b z) with e | e
    · have h1 := I.lt
      rw [← e] at h1
      exact Nat.lt_irrefl _ (Nat.lt_of_lt_of_le h1 hb)
    · exact I.nofs hb e
  have cellK : ∀ {c : Addr} {v : Option Value}, s4.heap.IsCell c v → s2.heap.IsCell c v := fun {c v} ⟨o, ho, hd⟩ => ⟨o, kp _ _ ho, hd⟩
  refine ⟨⟨I.ok.mod, S.kind, I.ok.glob, rfl, Nat.le_refl _, fun y z c e1 e2 => I.ok.inj y z c (cm e1) (cm e2), fun y hy => ?_, fun y c z _ => ?_, fun _ => hh, Around.frames_deeper hA, .inr ⟨rfl, rfl⟩,
      fun b hb => ⟨Nat.ne_of_lt (hfp b hb).2, fun y c e z => (hfp b hb).1.2.2.2.2.1 y c (cm e) z⟩, I.bs, Nat.le_trans I.ok.bsz I.sz, fun b o e hb => ?_, fun b hb z => ?_, I.stack, I.stkFree⟩,
    os, bare, Un.kept kp, ⟨m, hns, fun j y v e1 e2 e3 => ?_⟩, fun y c e => ?_, I.hok.fresh (Nat.le_refl _), fun y c e => I.freeC y c (cm e), fun p hp => ?_, I.hok.kept kp, by unfold capt; rw [List.length_map]; exact S.len⟩
  · have hy : scope.names.lookup y = some .cell ∨ scope.names.lookup y = some .free := hy
    rcases hy with hy | hy
    · exact absurd rfl (S.cell _ (PySem.mem_of_lookup hy))
    · exact look hy
  · have z : false = true := z
    cases z
  · rcases (hfp b hb).1.2.2.2.1 with z | z
    · exact I.ok.noex b o e z
    · exact absurd (Nat.lt_of_lt_of_le (Heap.lt_size e) (Nat.le_trans I.ok.bsz z)) (Nat.lt_irrefl _)
  · rcases List.mem_cons.mp (I.stkSub b z) with z | z
    · exact (hfp b hb).1.2.1 z
    · exact (hfp b hb).1.2.2.1 z
  · obtain ⟨i, ei, es⟩ := capt_some e2
    obtain ⟨x, x1, x2, x3⟩ := S.cap j i ei
    have e1 : Ng[j]? = some y := e1
    rw [x1] at e1
    obtain rfl := Option.some.inj e1
    obtain ⟨m', hn, hl⟩ := I.loc
    have hvis : Vis X.env.scope x := (S.free _ (PySem.mem_of_lookup x3) rfl).elim (fun k => .inr (.inl k)) fun k => .inr (.inr k)
    obtain ⟨u, r, q⟩ := hl i x v x2 es hvis
    obtain ⟨c2, h2⟩ := look x3
    have c1 := cm h2
    refine ⟨u, r, .inr ⟨.inr x3, c2, h2, ?_⟩⟩
    rcases q with ⟨k', _⟩ | ⟨_, c3, e', z⟩
    · have k' : X.env.scope.names.lookup x = some .local := k'
      rcases S.free _ (PySem.mem_of_lookup x3) rfl with k2 | k2 <;> rw [show X.env.scope.names.lookup x = _ from k2] at k' <;> cases k'
    · rw [c1] at e'
      cases e'
      exact cellK z
  · obtain ⟨v, z⟩ := I.cell y c (cm e)
    exact ⟨v, cellK z⟩
  · have hp : p ∈ [] ++ ps := hp
    rw [List.nil_append] at hp
    obtain ⟨h1, h2, h3⟩ := hps p hp
    obtain ⟨y1, y2⟩ := young p.1 (Nat.le_of_lt h2)
    exact ⟨h1, y1, Nat.ne_of_gt h2, y2, h3⟩
end
end GX

set_option maxRecDepth 100000
set_option maxHeartbeats 4000000
namespace GX
open PySem PySem.Spec PyProof.Rows L2 GenW GxR

/-- a generator expression's object just made: the walk J begun, nothing given out yet -/
structure Made (X : Cx) (pins : List (Addr × Obj)) (σ : L2.St) (elt tg iter : Expr) (ifs : List Expr) (scope : Scope) (gpos : Pos) (J : It) (H2 : Hp) (a g it : Addr) (fp : List Addr) (tn : Nat → Heap → Prop) (code : Value) (s4 s5 : Shared) : Prop where
  inv : Inv X pins σ H2 s4
  turn : Turn X.prog X.w X.K tg J fp it tn
  st : tn 0 s4.heap
  fp : ∀ b ∈ fp, FpOk X pins H2 b ∧ b < s4.heap.objs.size
  gs : s5.gens[g]? = some (.fresh (gStart elt tg iter ifs scope gpos it (genEnv scope (cloFrom X.env.cells scope.names []) s4.heap.objs.size code builtinsNs X.env)))
  gen : s5.heap.IsGen a g
  lt : s4.heap.objs.size < a
  ltA : a < s5.heap.objs.size
  os : s5.os = s4.os
  bare : AllBare s5.gens
  lim : s5.heap.NoLimit
  keep : ∀ b o, s4.heap.get? b = some o → s5.heap.get? b = some o
  ns : s5.heap.Ns s4.heap.objs.size fun y => if y = (".0" : Str) then some (.ref it) else none

section
variable {X : Cx} {pins : List (Addr × Obj)} {σ : L2.St} {H : Hp} {s : Shared}
theorem gx_make {c P : Addr} {elt tg iter : Expr} {ifs : List Expr} {gpos : Pos} {scope : Scope} {Ng : List Str} {ix : List (Option Nat)} {wi : TI} {k : Nat} {Q' : Value → Shared → Prop} {R : It → Hp → Prop}
    (hr : Room k X.A) (TB : TabB X.base X.mg c P) (hcode : X.env.code = .ref c) (S : GScp X.N X.env.scope scope Ng ix) (hi : PI X tg iter wi) (hs : ∀ v, genFold iter X.env v = pure v)
    (I : Inv X pins σ H s) (h : wi σ H fun J H1 => TabG H1 P ∧ ∀ H2, Tabbed P H1 H2 → R J H2)
    (hQ : ∀ J H2 a g it fp tn code s4 s5, R J H2 → Made X pins σ elt tg iter ifs scope gpos J H2 a g it fp tn code s4 s5 → Q' (.ref a) s5) :
    wpAny (model X.prog X.w) X.A (eval (.GeneratorExp elt [⟨tg, iter, ifs, 0⟩] scope gpos) X.env) Q' X.xe s := by
  refine wpAny_GeneratorExp_make S.co (closure_ok fun y hy e => (S.free y hy e).elim (fun z => I.ok.has _ (.inl z)) fun z => I.ok.has _ (.inr z)) S.cell S.dot S.kind (by have := hr.dp; omega) ?_ hs
  refine thn (hi.run pins s σ H _ I h) fun xv s1 hx => thn hx fun itv s2 h2 => ?_
  obtain ⟨it, fp, tn, J, H1, rfl, I1, T, st1, f1, ⟨ps, hP, ht⟩, hR⟩ := h2
  refine ⟨I1.nolimit, ?_⟩
  have hP2 : s2.heap.get? P = some { cls := .none, data := .fields ps } := I1.hok P _ hP
  have cd : PySem.W.CodeHd s2.heap c P := TB.code.keeps I1.bk
  -- behind the code object: H3, s3
  have cont : ∀ (code : Value) (h3 : Heap) (tk : Nat) (ps' : Array Value), Heap.ExtBut P s2.heap h3 → s2.heap.objs.size ≤ h3.objs.size → h3.get? P = some { cls := .none, data := .fields ps' } → (∃ more, ps' = ps ++ more) → TriplesOk ps'.toList →
      wpAny (model X.prog X.w) X.A (builtinsFor X.env.globals X.env.builtins) (fun bi s₄ =>
        ∀ h', h'.Ns s₄.heap.objs.size (fun y => if y = ".0" then some (.ref it) else none) → Heap.SameBut s₄.heap.objs.size (s₄.heap.push { cls := .type "frame", data := .dict #[] }) h' →
          Q' (.ref h'.objs.size) { s₄ with
            gens := s₄.gens.push (.fresh (.compStart (.GeneratorExp elt [⟨tg, iter, ifs, 0⟩] scope gpos) 0 (.ref it) .none (genEnv scope (cloFrom X.env.cells scope.names []) s₄.heap.objs.size code bi X.env))),
            toks := s₄.toks + 1 + 1 + 1,
            heap := h'.push { cls := .type "generator", data := .fields #[.int s₄.gens.size 0, .str "<genexpr>" (s₄.toks + 1), .str (X.env.qual ++ "<genexpr>") (s₄.toks + 1 + 1)] } }) X.xe { s2 with heap := h3, toks := tk } := by
    intro code h3 tk ps' hx hsz hP3 hmore ht3
    obtain ⟨bm, ob, e1, e2, e3, e4, e5, e6, e7, e8⟩ := TB.bm
    have keep3 : ∀ b u, b ≠ P → s2.heap.get? b = some u → h3.get? b = some u := fun b u hb e => hx b u hb e
    obtain ⟨more, em⟩ := hmore
    have I3 := inv_tab (more := more) (h' := h3) (g' := s2.gens) (d' := s2.drawn) (t' := tk) I1 hP (fun b u hb e => keep3 b u hb e) (by rw [← em]; exact hP3) I1.bare
    have hTb : Tabbed P H1 (upd H1 P (.tbl (ps ++ more))) := ⟨⟨ps ++ more, upd_same, by rw [← em]; exact ht3⟩, fun b hb => upd_ne hb⟩
    refine wpAny_builtinsFor (m := X.mg) (by rw [I1.ok.glob]; exact ((I1.mod.glob.keeps I1.bk)).extBut hx TB.gP) e1 e2 (keep3 _ _ e4 (I1.bk _ _ e5)) e6 e7 e8 ?_
    intro h' hn' hs'
    have sz' : h'.objs.size = h3.objs.size + 1 := by rw [hs'.1, Heap.size_push]
    have keep' : ∀ b o, h3.get? b = some o → h'.get? b = some o := fun b o e => hs'.extBut b o (Nat.ne_of_lt (Heap.lt_size e)) (Heap.get?_push_of_some _ e)
    have nP : ∀ b, H1 b = none → b ≠ P := fun b e z => by
      rw [z, hP] at e
      cases e
    have stk : tn 0 h3 := T.keep _ _ _ st1 fun b hb o e => keep3 b o (nP b (f1 b hb).1) e
    have fp3 : ∀ b ∈ fp, FpOk X pins (upd H1 P (.tbl (ps ++ more))) b ∧ b < h3.objs.size := fun b hb => by
      obtain ⟨o, e, _⟩ := T.obj _ _ st1 b hb
      refine ⟨⟨?_, (f1 b hb).2⟩, Nat.lt_of_lt_of_le (Heap.lt_size e) hsz⟩
      rw [upd_ne (nP b (f1 b hb).1)]
      exact (f1 b hb).1
    refine hQ J _ _ s2.gens.size it fp tn code { s2 with heap := h3, toks := tk } _ (hR _ hTb)
      ⟨I3, T, stk, fp3, Array.getElem?_push_size .., ⟨_, _, _, Heap.get?_push_size _ rfl, rfl, rfl, rfl⟩, ?_, ?_, rfl, AllBare.push I1.bare rfl, ?_, fun b o e => Heap.get?_push_of_some _ (keep' b o e), hn'.push _⟩
    · show h3.objs.size < h'.objs.size
      omega
    · show h'.objs.size < (h'.push _).objs.size
      rw [Heap.size_push]
      exact Nat.lt_succ_self _
    · exact I3.nolimit.keeps fun b o e => Heap.get?_push_of_some _ (keep' b o e)
  cases hf : codeAmong gpos ps.toList with
  | none =>
    refine wpAny_genexprCodeX hcode (cd.code hP2 ht) (cd.tab hP2) hf fun c' h' tk hx hge hlt hco' _ htab' _ => ?_
    obtain ⟨o1, vs, f1', tf, fl, tg', inF, tx, tt, op, _, _, _, _, _, _, _, _, _, htr, _⟩ := hco'
    exact cont _ h' tk _ hx (Nat.le_trans hge (Nat.le_of_lt hlt)) htab'.2 ⟨_, rfl⟩ htr
  | some cv =>
    refine wpAny_genexprCode_hit hcode (cd.code hP2 ht) hf ?_
    exact cont cv s2.heap s2.toks ps (Heap.ExtBut.refl _ _) (Nat.le_refl _) hP2 ⟨#[], by simp⟩ ht
end
end GX

set_option maxRecDepth 100000
set_option maxHeartbeats 4000000
namespace GX
open PySem PySem.Spec PyProof.Rows L2 GenW GxR

/-- the generator's context -/
abbrev gX (X : Cx) (A : Around) (s4 : Shared) (H4 : Hp) (Ng : List Str) (scope : Scope) (cl : List (Str × Addr)) (C : Addr) (code : Value) (fp : List Addr) : Cx :=
  gcx X A s4 H4 Ng (genEnv scope cl C code builtinsNs X.env) fp

section
variable {X : Cx} {pins : List (Addr × Obj)} {σ : L2.St}
variable {elt tg iter : Expr} {ifs : List Expr} {scope : Scope} {gpos : Pos} {J : It} {H2 : Hp} {a g it : Addr} {fp : List Addr} {tn : Nat → Heap → Prop} {code : Value} {s4 s5 : Shared}
/-- back in the maker's context -/
theorem Made.back {A : Around} {Ng : List Str} {genv : Env} {ps : List (Addr × Obj)} {σ' : L2.St} {H' : Hp} {s' : Shared} (M : Made X pins σ elt tg iter ifs scope gpos J H2 a g it fp tn code s4 s5)
    (I' : Inv (gcx X A s4 H2 Ng genv fp) ps σ' H' s') {s'' : Shared} (hk : ∀ b o, s'.heap.get? b = some o → s''.heap.get? b = some o) (ho : s''.os = s'.os) (hb : AllBare s''.gens) : Inv X pins σ H' s'' :=
  M.inv.call' (ch := fp) (ho.trans I'.os) (I'.base.trans (Un.kept hk)) (I'.hok.kept hk) hb fun b hb => ⟨(M.fp b hb).1.2.2.2.1, (M.fp b hb).1.2.1, (M.fp b hb).1.2.2.2.2.1, (M.fp b hb).1.2.2.2.2.2⟩

/-- what the consumers any and all hold: the generator's own object -/
def Hold.one (X : Cx) (p : Addr × Obj) : Hold X Unit where
  ok := fun _ ip σ H s => Inv X ([p] ++ ip) σ H s
  own := fun b => b = p.1
  unfold := fun {g ip σ H s} h => ⟨[p], fun q hq => by rw [List.mem_singleton.mp hq], h, fun _ _ _ _ h' => h'⟩

end
/-- the protocol: t: the truth value at which the consumer goes on -/
def YAny (t : Bool) (a g : Nat) (Out : Shared → Prop) : Protocol := fun _ _ v s1 kap =>
  ∃ k, v = .bool k ∧ s1.heap.IsGen a g ∧ s1.heap.NoLimit ∧ ∀ s' : Shared, s'.heap = s1.heap → s'.os = s1.os → (AllBare s1.gens → AllBare s'.gens) → if k = t then kap (.send .none) s' else Out s'
def FAny (Fin : Shared → Prop) (_ : Nat) (_ s1 : Shared) : Prop := ∀ s' : Shared, (∀ b o, s1.heap.get? b = some o → s'.heap.get? b = some o) → s'.os = s1.os → (AllBare s1.gens → AllBare s'.gens) → Fin s'
def NoE (_ : Value) (_ : Shared) : Prop := False
/-- the end of a run that raises nothing -/
def RAny (Fin : Shared → Prop) : GenEnd := fun n s₀ r s1 => ((r = .ok (.ret .none) ∨ r = .ok .next) ∧ FAny Fin n s₀ s1) ∨ ∃ e, r = .error e ∧ NoE e s1

section
variable {P : Program} {w : World} {A : Around} {a g : Nat} {R : Result → Shared → Prop} {Out Fin : Shared → Prop}
theorem setGen_same {s : Shared} {g : Nat} {x : GenState} (hx : x.bare = true) : AllBare s.gens → AllBare (s.setGen g x).gens := fun h => allBare_setGen h hx
theorem setGen_here {s : Shared} {g : Nat} {x : GenState} (h : g < s.gens.size) : (s.setGen g x).gens[g]? = some x := setGen_at h
/-- one step of a generator whose run ends or gives out, no exception -/
theorem next_one {t : Bool} {n : Nat} {s : Shared} {gs : GenState} {Q : Option Value → Shared → Prop} {E : Value → Shared → Prop} (hh : A.handled = none) (hd : A.depth < recursionLimit) (hg : s.heap.IsGen a g) (hl : s.heap.NoLimit) (hgs : s.gens[g]? = some gs)
    (hgo : gs.Goes (model P w) A.in1 (RAny Fin) (YAny t a g Out) n (.send .none) (s.setGen g .running))
    (hY : ∀ k s', s'.heap.IsGen a g → s'.heap.NoLimit → (k ≠ t → Out s') → (k = t → ∃ m, n = m + 1 ∧ ∃ gs', s'.gens[g]? = some gs' ∧ gs'.Goes (model P w) A.in1 (RAny Fin) (YAny t a g Out) m (.send .none) (s'.setGen g .running)) → Q (some (.bool k)) s')
    (hP : ∀ s', Fin s' → Q none s') : wpAny (model P w) A (pyNext (.ref a)) Q E s := by
  have hgl : g < s.gens.size := (Array.getElem?_eq_some_iff.mp hgs).1
  refine wpAny_gsz (n := g + 1) hgl (next_genG (A := A) (F := FAny Fin) (Er := NoE) hh hl hd hg hgs hgo (fun v s₁ gs' hbare hv => ?_) (fun s₁ hp h' hk => ?_) fun e s₁ he => he.elim)
  · intro hsz
    obtain ⟨k, rfl, hg1, hl1, hq⟩ := hv
    have hsz1 : g < s₁.gens.size := by
      have q : (s₁.setGen g gs').gens.size = s₁.gens.size := setGen_size _ _ _
      have hsz' : g + 1 ≤ (s₁.setGen g gs').gens.size := hsz
      omega
    refine hY k _ hg1 hl1 (fun hk => ?_) fun hk => ?_
    · have q := hq (s₁.setGen g gs') rfl rfl (setGen_same hbare)
      rw [if_neg hk] at q
      exact q
    · have q := hq ((s₁.setGen g gs').setGen g .running) rfl rfl fun z => setGen_same rfl (setGen_same hbare z)
      rw [if_pos hk] at q
      cases n with
      | zero => exact q.elim
      | succ m => exact ⟨m, rfl, gs', setGen_here hsz1, q⟩
  · intro _
    exact hP _ (hp _ (fun b o e => hk b o e) rfl fun z => setGen_same rfl z)
/-- any: the loop -/
theorem any_loop (hh : A.handled = none) (hd : A.depth < recursionLimit) (hO : ∀ s, Out s → R (.ok (.ret (.bool true))) s) (hF : ∀ s, Fin s → R (.ok (.ret (.bool false))) s) : ∀ (n : Nat) (s : Shared), s.heap.IsGen a g → s.heap.NoLimit →
    (∃ gs, s.gens[g]? = some gs ∧ gs.Goes (model P w) A.in1.in1 (RAny Fin) (YAny false a g Out) n (.send .none) (s.setGen g .running)) → codeAny (model P w) A (.builtin "any.loop" ⟨[.ref a], []⟩) R s := by
  intro n
  induction n using Nat.strongRecOn with
  | ind n ih =>
    intro s hg hl ⟨gs, hgs, hgo⟩
    refine codeAny_builtin F.entry_any_loop ?_
    rw [Around.under_plainId F.plain_any_loop _]
    show wpAny _ A.in1 (pyNext (.ref a) >>= _) _ _ s
    refine wpAny_bind (next_one (A := A.in1) hh hd hg hl hgs hgo (fun k s' hg1 hl1 h1 h2 => ?_) fun s' hf => ?_)
    · refine wpAny_bind (wpAny_holding (wpAny_truthy_bool (wpAny_bind (wpAny_letGo ?_))))
      cases k with
      | true =>
        rw [if_pos rfl]
        exact wpAny_bind (wpAny_rule (wpAny_pure (hO s' (h1 (by decide)))))
      | false =>
        rw [if_neg Bool.false_ne_true]
        obtain ⟨m, hm, gs', e1, e2⟩ := h2 rfl
        exact wpAny_pure ⟨plainId_quiet F.plain_any_loop _, ih m (by omega) s' hg1 hl1 ⟨gs', e1, e2⟩⟩
    · exact wpAny_bind (wpAny_rule (wpAny_pure (hF s' hf)))
theorem all_loop (hh : A.handled = none) (hd : A.depth < recursionLimit) (hO : ∀ s, Out s → R (.ok (.ret (.bool false))) s) (hF : ∀ s, Fin s → R (.ok (.ret (.bool true))) s) : ∀ (n : Nat) (s : Shared), s.heap.IsGen a g → s.heap.NoLimit →
    (∃ gs, s.gens[g]? = some gs ∧ gs.Goes (model P w) A.in1.in1 (RAny Fin) (YAny true a g Out) n (.send .none) (s.setGen g .running)) → codeAny (model P w) A (.builtin "all.loop" ⟨[.ref a], []⟩) R s := by
  intro n
  induction n using Nat.strongRecOn with
  | ind n ih =>
    intro s hg hl ⟨gs, hgs, hgo⟩
    refine codeAny_builtin F.entry_all_loop ?_
    rw [Around.under_plainId F.plain_all_loop _]
    show wpAny _ A.in1 (pyNext (.ref a) >>= _) _ _ s
    refine wpAny_bind (next_one (A := A.in1) hh hd hg hl hgs hgo (fun k s' hg1 hl1 h1 h2 => ?_) fun s' hf => ?_)
    · refine wpAny_bind (wpAny_holding (wpAny_truthy_bool (wpAny_bind (wpAny_letGo ?_))))
      cases k with
      | true =>
        rw [if_pos rfl]
        obtain ⟨m, hm, gs', e1, e2⟩ := h2 rfl
        exact wpAny_pure ⟨plainId_quiet F.plain_all_loop _, ih m (by omega) s' hg1 hl1 ⟨gs', e1, e2⟩⟩
      | false =>
        rw [if_neg Bool.false_ne_true]
        exact wpAny_bind (wpAny_rule (wpAny_pure (hO s' (h1 (by decide)))))
    · exact wpAny_bind (wpAny_rule (wpAny_pure (hF s' hf)))
end
end GX

set_option maxRecDepth 100000
set_option maxHeartbeats 4000000
namespace GX
open PySem PySem.Spec PyProof.Rows L2 GenW GxR

/-- the turns of any (t = false) and all (t = true) -/
def QTurn (t : Bool) (J : It) (gt : TG) (tt : TT) (te : TE) (σ0 : L2.St) (vs : List Nat) (Q : VK) (W : Nat → Nat → Hp → Prop) : Prop :=
  ∀ i m H, W i m H → (J.stop i H ∧ Q (.bl t) H) ∨ (J.go i H ∧ ∃ Nx : Hp → Prop, (∀ H', Nx H' → ∃ m', m' < m ∧ W (i + 1) m' H') ∧
    ∀ x H', J.yld i H x H' → gt x (wipe σ0 vs) H' fun σ2 H2 => wipe σ2 vs = wipe σ0 vs ∧ tt σ2 H2 fun b H3 => if b = true then te σ2 H3 fun y H4 => ∃ k, y = .bl k ∧ (if k = t then Nx H4 else Q (.bl (!t)) H4) else Nx H3)
def tQuant (t : Bool) (P : Addr) (wi : TI) (gt : TG) (tt : TT) (te : TE) (ix : List (Option Nat)) (vs : List Nat) : TE := fun σ H Q => wi σ H fun J H1 => TabG H1 P ∧ ∀ H2, Tabbed P H1 H2 →
  ∃ W : Nat → Nat → Hp → Prop, (∃ m, W 0 m H2) ∧ QTurn t J gt tt te (capt ix σ) vs Q W

section
variable {X : Cx} {pins : List (Addr × Obj)} {σ : L2.St}
variable {elt tg iter : Expr} {ifs : List Expr} {scope : Scope} {gpos : Pos} {J : It} {H2 : Hp} {a g it : Addr} {fp : List Addr} {tn : Nat → Heap → Prop} {code : Value} {s4 s5 : Shared}
theorem ready_quant {t : Bool} {A : Around} {Ng : List Str} {ix : List (Option Nat)} {vs : List Nat} {gt : TG} {tt : TT} {te : TE} {Q : VK} {W : Nat → Nat → Hp → Prop} {m0 : Nat} (M : Made X pins σ elt tg iter ifs scope gpos J H2 a g it fp tn code s4 s5) (S : GScp X.N X.env.scope scope Ng ix)
    (hA : A.frames = some X.stack) (hh : A.handled = none)
    (pg : PG (gX X A s4 H2 Ng scope (cloFrom X.env.cells scope.names []) s4.heap.objs.size code fp) tg gt) (pt : PTs (gX X A s4 H2 Ng scope (cloFrom X.env.cells scope.names []) s4.heap.objs.size code fp) ifs tt) (pe : PE (gX X A s4 H2 Ng scope (cloFrom X.env.cells scope.names []) s4.heap.objs.size code fp) elt te)
    (hW : W 0 m0 H2) (turn : QTurn t J gt tt te (capt ix σ) vs Q W) :
    ∃ n, ∃ gs, s5.gens[g]? = some gs ∧ gs.Goes (model X.prog X.w) A (RAny (EP X pins σ Q (.bool t))) (YAny t a g (EP X pins σ Q (.bool (!t)))) n (.send .none) (s5.setGen g .running) := by
  obtain ⟨go, nm, qn, ego, egc, egd, egs⟩ := M.gen
  have gen' : ∀ {h : Heap}, h.get? a = some go → h.IsGen a g := fun {h} e => ⟨go, nm, qn, e, egc, egd, egs⟩
  have hcell : ∀ v, go.data ≠ .cell v := fun v q => by rw [egd] at q; cases q
  have lt4 : ∀ b ∈ fp, b < s4.heap.objs.size := fun b hb => (M.fp b hb).2
  have bare5 : AllBare (s5.setGen g .running).gens := allBare_setGen M.bare rfl
  have I0 := gx_inv (A := A) (s2 := s5.setGen g .running) (code := code) (ps := [(a, go)]) M.inv S hA hh M.fp (fun b o e => M.keep b o e) M.os bare5 M.ns fun p hp => by
    rw [List.mem_singleton.mp hp]
    exact ⟨ego, M.lt, hcell⟩
  have I1 : Inv (gX X A s4 H2 Ng scope (cloFrom X.env.cells scope.names []) s4.heap.objs.size code fp) ([(a, go)] ++ []) (wipe (capt ix σ) vs) H2 (s5.setGen g .running) :=
    I0.weak (wipe_length _ _) fun j v e => (wipe_some e).1
  refine ⟨m0 + 1, _, M.gs, rfl, ?_⟩
  have st5 : tn 0 (s5.setGen g .running).heap := M.turn.keep _ _ _ M.st fun b _ o e => M.keep b o e
  refine seg_gxs (X := gX X A s4 H2 Ng scope (cloFrom X.env.cells scope.names []) s4.heap.objs.size code fp) (i := 0) M.turn st5 ?_
  refine seg_gx (X := gX X A s4 H2 Ng scope (cloFrom X.env.cells scope.names []) s4.heap.objs.size code fp) (γ := Unit) (Hold.one _ (a, go)) (J := J) (gt := gt) (tt := tt) (te := te) (σ0 := capt ix σ) (vs := vs) (W := fun i m _ H => W i m H) (Fu := fun _ n m => m < n)
    (Iw := fun _ y H Nx => ∃ k, y = .bl k ∧ (if k = t then Nx () H else Q (.bl (!t)) H)) (fin := fun _ H => Q (.bl t) H) (Sn := fun _ _ => True) over_gl rfl M.turn rfl (fun b _ p hp => by cases hp) pg pt pe S.co (fun _ _ z => z)
    (fun i m _ H hw => ?_) (fun h1 h2 => Nat.lt_trans h2 h1) (fun b hb e => ?_) (fun _ => trivial) (fun {n s₀ m _ y H v ip σ' s Nx} _ rv hz _ hf hi => ?_) (fun {n s₀ m _ ip σ' H s} hz _ hf hfu => ?_) m0 (m0 + 1) 0 _ _ () H2 hW (Nat.lt_succ_self _) trivial I1 st5 fun b hb => (M.fp b hb).1.1
  · rcases turn i m H hw with ⟨h1, h2⟩ | ⟨h1, Nx, h2, h3⟩
    · exact .inl ⟨h1, h2⟩
    · exact .inr ⟨h1, fun _ H' => Nx H', fun _ H' z => h2 H' z, h3⟩
  · have hb' := lt4 b hb
    rw [e] at hb'
    exact absurd (Nat.lt_trans M.lt hb') (Nat.lt_irrefl _)
  · obtain ⟨k, rfl, hi⟩ := hi
    obtain rfl : v = Value.bool k := rv
    obtain ⟨n', rfl⟩ : ∃ n', n = n' + 1 := ⟨n - 1, by omega⟩
    refine ⟨n', rfl, fun kap hk => ⟨k, rfl, ?_, hz.nolimit, fun s' h1 h2 h3 => ?_⟩⟩
    · exact gen' (hz.pin (a, go) (List.mem_append_right _ (List.mem_append_left _ (List.mem_singleton.mpr rfl)))).1
    · have bare' : AllBare s'.gens := h3 hz.bare
      split at hi
      · rename_i hkt
        rw [if_pos hkt]
        refine hk () s' hi ?_ fun m' hm => by omega
        have J2 := hz.call' (s' := s') (H' := H) (ch := []) h2 (by rw [h1]; exact Un.refl) (by rw [h1]; exact hz.hok) bare' fun b z => by simp at z
        exact J2
      · rename_i hkt
        rw [if_neg hkt]
        have hkn : k = !t := by cases k <;> cases t <;> first | rfl | exact (hkt rfl).elim
        exact ⟨.bl (!t), H, M.back hz (fun b o e => by rw [h1]; exact e) h2 bare', rfl, hi⟩
  · exact .inl ⟨.inr rfl, fun s' h1 h2 h3 => ⟨.bl t, H, M.back hz h1 h2 (h3 hz.bare), rfl, hf⟩⟩
end

section
variable {X : Cx} {c P : Addr} {elt tg iter : Expr} {ifs : List Expr} {p pos gpos : Pos} {scope : Scope} {Ng : List Str} {ix : List (Option Nat)} {vs : List Nat} {wi : TI} {gt : TG} {tt : TT} {te : TE} {k : Nat}
theorem pe_anyG (hr : Room (k + 1) X.A) (hg : Gl X "any") (hm : X.mg "any" = none) (TB : TabB X.base X.mg c P) (hcode : X.env.code = .ref c) (S : GScp X.N X.env.scope scope Ng ix) (hi : PI X tg iter wi)
    (pg : ∀ (A : Around) (s4 : Shared) (H4 : Hp) (cl : List (Str × Addr)) (C : Addr) (code : Value) (fp : List Addr), PG (gX X A s4 H4 Ng scope cl C code fp) tg gt) (pt : ∀ (A : Around) (s4 : Shared) (H4 : Hp) (cl : List (Str × Addr)) (C : Addr) (code : Value) (fp : List Addr), (∀ env, Room k (A.deeper env)) → PTs (gX X A s4 H4 Ng scope cl C code fp) ifs tt)
    (pe : ∀ (A : Around) (s4 : Shared) (H4 : Hp) (cl : List (Str × Addr)) (C : Addr) (code : Value) (fp : List Addr), (∀ env, Room k (A.deeper env)) → PE (gX X A s4 H4 Ng scope cl C code fp) elt te) (hs : ∀ v, genFold iter X.env v = pure v := by intro _; rfl)
    (he : starEach [.GeneratorExp elt [⟨tg, iter, ifs, 0⟩] scope gpos] X.env = (false, eval (.GeneratorExp elt [⟨tg, iter, ifs, 0⟩] scope gpos) X.env) :: starEach [] X.env := by rfl) :
    PE X (.Call (.Name "any" p) [.GeneratorExp elt [⟨tg, iter, ifs, 0⟩] scope gpos] [] pos) (tQuant false P wi gt tt te ix vs) := by
  refine ⟨fun pins s σ H Q I h => ?_⟩
  refine wpAny_Call_Name_kw (ld_blt I hg hm boot_any ?_)
  refine PyProof.Rows.callWith_builtin1 ?_ he (by rfl)
  rw [he]
  show wpAny _ _ (spliced ((false, eval (.GeneratorExp elt [⟨tg, iter, ifs, 0⟩] scope gpos) X.env) :: backTo pos (starEach [] X.env))) _ _ s
  refine Calls.spliced_cons (gx_make (R := fun J H2 => ∃ W : Nat → Nat → Hp → Prop, (∃ m, W 0 m H2) ∧ QTurn false J gt tt te (capt ix σ) vs Q W) hr TB hcode S hi hs I h fun J H2 a g it fp tn code s4 s5 hR M => ?_)
  obtain ⟨W, ⟨m0, hW⟩, turn⟩ := hR
  refine Calls.spliced_nil ?_
  have hr2 : ∀ env, Room k (X.A.in1.in1.deeper env) := fun env => ⟨hr.hd, by have := hr.dp; show X.A.depth + 1 + 3 * k + 5 < _; omega, by have := hr.un; show X.A.units + 1 + 1 + 3 + 16 * k + 200 < _; omega⟩
  obtain ⟨n, hgo⟩ := ready_quant (A := X.A.in1.in1) M S M.inv.ok.frames hr.hd (pg _ _ _ _ _ _ _) (pt _ _ _ _ _ _ _ hr2) (pe _ _ _ _ _ _ _ hr2) hW turn
  refine call_function_tree F.kind_any F.plain_any F.entry_any (F.args_any1 _) ?_
  unfold Builtin.«any»
  refine wpAny_bind (m := oneArg "any" _) (wpAny_pure (wpAny_bind (wpAny_pyIter_gen M.gen ?_)))
  refine wpAny_pure ⟨plainId_quiet F.plain_any_loop _, any_loop hr.hd (by have := hr.dp; omega) (fun s' h => h) (fun s' h => h) n s5 M.gen M.lim hgo⟩
theorem pe_allG (hr : Room (k + 1) X.A) (hg : Gl X "all") (hm : X.mg "all" = none) (hb : bootBuiltins "all" = some (.builtin "all")) (TB : TabB X.base X.mg c P) (hcode : X.env.code = .ref c) (S : GScp X.N X.env.scope scope Ng ix) (hi : PI X tg iter wi)
    (pg : ∀ (A : Around) (s4 : Shared) (H4 : Hp) (cl : List (Str × Addr)) (C : Addr) (code : Value) (fp : List Addr), PG (gX X A s4 H4 Ng scope cl C code fp) tg gt) (pt : ∀ (A : Around) (s4 : Shared) (H4 : Hp) (cl : List (Str × Addr)) (C : Addr) (code : Value) (fp : List Addr), (∀ env, Room k (A.deeper env)) → PTs (gX X A s4 H4 Ng scope cl C code fp) ifs tt)
    (pe : ∀ (A : Around) (s4 : Shared) (H4 : Hp) (cl : List (Str × Addr)) (C : Addr) (code : Value) (fp : List Addr), (∀ env, Room k (A.deeper env)) → PE (gX X A s4 H4 Ng scope cl C code fp) elt te) (hs : ∀ v, genFold iter X.env v = pure v := by intro _; rfl)
    (he : starEach [.GeneratorExp elt [⟨tg, iter, ifs, 0⟩] scope gpos] X.env = (false, eval (.GeneratorExp elt [⟨tg, iter, ifs, 0⟩] scope gpos) X.env) :: starEach [] X.env := by rfl) :
    PE X (.Call (.Name "all" p) [.GeneratorExp elt [⟨tg, iter, ifs, 0⟩] scope gpos] [] pos) (tQuant true P wi gt tt te ix vs) := by
  refine ⟨fun pins s σ H Q I h => ?_⟩
  refine wpAny_Call_Name_kw (ld_blt I hg hm hb ?_)
  refine PyProof.Rows.callWith_builtin1 ?_ he (by rfl)
  rw [he]
  show wpAny _ _ (spliced ((false, eval (.GeneratorExp elt [⟨tg, iter, ifs, 0⟩] scope gpos) X.env) :: backTo pos (starEach [] X.env))) _ _ s
  refine Calls.spliced_cons (gx_make (R := fun J H2 => ∃ W : Nat → Nat → Hp → Prop, (∃ m, W 0 m H2) ∧ QTurn true J gt tt te (capt ix σ) vs Q W) hr TB hcode S hi hs I h fun J H2 a g it fp tn code s4 s5 hR M => ?_)
  obtain ⟨W, ⟨m0, hW⟩, turn⟩ := hR
  refine Calls.spliced_nil ?_
  have hr2 : ∀ env, Room k (X.A.in1.in1.deeper env) := fun env => ⟨hr.hd, by have := hr.dp; show X.A.depth + 1 + 3 * k + 5 < _; omega, by have := hr.un; show X.A.units + 1 + 1 + 3 + 16 * k + 200 < _; omega⟩
  obtain ⟨n, hgo⟩ := ready_quant (A := X.A.in1.in1) M S M.inv.ok.frames hr.hd (pg _ _ _ _ _ _ _) (pt _ _ _ _ _ _ _ hr2) (pe _ _ _ _ _ _ _ hr2) hW turn
  refine call_function_tree F.kind_all F.plain_all F.entry_all (F.args_all1 _) ?_
  unfold Builtin.«all»
  refine wpAny_bind (m := oneArg "all" _) (wpAny_pure (wpAny_bind (wpAny_pyIter_gen M.gen ?_)))
  refine wpAny_pure ⟨plainId_quiet F.plain_all_loop _, all_loop hr.hd (by have := hr.dp; omega) (fun s' h => h) (fun s' h => h) n s5 M.gen M.lim hgo⟩
end
end GX

set_option maxRecDepth 100000
set_option maxHeartbeats 4000000
namespace GX
open PySem PySem.Spec PyProof.Rows L2 GenW GxR

/-- what a consumer holds that fills a list at S -/
def Hold.fill (X : Cx) (S : Addr) (q : Addr × Obj) : Hold X (List V) where
  ok := fun ys ip σ H s => ∃ (acc : Array Value) (c : Nat), Vals ys acc.toList ∧ Inv X ([(S, lstObj acc c), q] ++ ip) σ H s
  own := fun b => b = S ∨ b = q.1
  unfold := fun {ys ip σ H s} h => by
    obtain ⟨acc, c, r, I⟩ := h
    refine ⟨[(S, lstObj acc c), q], fun p hp => ?_, I, fun _ _ _ _ h' => ⟨acc, c, r, h'⟩⟩
    rcases List.mem_cons.mp hp with z | z
    · exact .inl (by rw [z])
    · exact .inr (by rw [List.mem_singleton.mp z])

def LTurn (J : It) (gt : TG) (tt : TT) (te : TE) (σ0 : L2.St) (vs : List Nat) (cont : List V → Hp → Prop) (W : Nat → Nat → List V → Hp → Prop) : Prop :=
  ∀ i m ys H, W i m ys H → (J.stop i H ∧ cont ys H) ∨ (J.go i H ∧ ∃ Nx : List V → Hp → Prop, (∀ ys' H', Nx ys' H' → ∃ m', m' < m ∧ W (i + 1) m' ys' H') ∧
    ∀ x H', J.yld i H x H' → gt x (wipe σ0 vs) H' fun σ2 H2 => wipe σ2 vs = wipe σ0 vs ∧ tt σ2 H2 fun b H3 => if b = true then te σ2 H3 fun y H4 => ys.length < sizeLine ∧ Nx (ys ++ [y]) H4 else Nx ys H3)
/-- (elt for .. in ..), drained: all that comes, in order -/
def tGenL (P : Addr) (wi : TI) (gt : TG) (tt : TT) (te : TE) (ix : List (Option Nat)) (vs : List Nat) : TGen := fun σ H cont => wi σ H fun J H1 => TabG H1 P ∧ ∀ H2, Tabbed P H1 H2 →
  ∃ W : Nat → Nat → List V → Hp → Prop, (∃ m, W 0 m [] H2) ∧ LTurn J gt tt te (capt ix σ) vs cont W

section
variable {X : Cx} {c P : Addr} {elt tg iter : Expr} {ifs : List Expr} {gpos : Pos} {scope : Scope} {Ng : List Str} {ix : List (Option Nat)} {vs : List Nat} {wi : TI} {gt : TG} {tt : TT} {te : TE} {k : Nat} {E : XK}
theorem pgen_exp (hr : Room k X.A) (TB : TabB X.base X.mg c P) (hcode : X.env.code = .ref c) (S : GScp X.N X.env.scope scope Ng ix) (hi : PI X tg iter wi)
    (pg : ∀ (A : Around) (s4 : Shared) (H4 : Hp) (cl : List (Str × Addr)) (C : Addr) (code : Value) (fp : List Addr), PG (gX X A s4 H4 Ng scope cl C code fp) tg gt) (pt : ∀ (A : Around) (s4 : Shared) (H4 : Hp) (cl : List (Str × Addr)) (C : Addr) (code : Value) (fp : List Addr), (∀ env, Room k (A.deeper env)) → PTs (gX X A s4 H4 Ng scope cl C code fp) ifs tt)
    (pe : ∀ (A : Around) (s4 : Shared) (H4 : Hp) (cl : List (Str × Addr)) (C : Addr) (code : Value) (fp : List Addr), (∀ env, Room k (A.deeper env)) → PE (gX X A s4 H4 Ng scope cl C code fp) elt te) (hs : ∀ v, genFold iter X.env v = pure v := by intro _; rfl) :
    PGen X (k + 1) (.GeneratorExp elt [⟨tg, iter, ifs, 0⟩] scope gpos) (tGenL P wi gt tt te ix vs) E := by
  refine ⟨fun pins s σ H cont I h => ?_⟩
  refine gx_make (R := fun J H2 => ∃ W : Nat → Nat → List V → Hp → Prop, (∃ m, W 0 m [] H2) ∧ LTurn J gt tt te (capt ix σ) vs cont W) hr TB hcode S hi hs I h fun J H2 a g it fp tn code s4 s5 hR M => ?_
  obtain ⟨W, ⟨m0, hW⟩, turn⟩ := hR
  refine ⟨H2, s4, fp, M.inv, fun b hb => ⟨(M.fp b hb).1.2.2.2.1, (M.fp b hb).1.2.1, (M.fp b hb).1.2.2.2.2.1, (M.fp b hb).1.2.2.2.2.2⟩, a, g, _, rfl, Nat.le_of_lt M.lt, M.ltA, M.gen, M.gs, M.os, M.bare, M.lim, M.keep, fun A Sx s2 hra hfr hSx hk2 hSo hos hba => ?_⟩
  obtain ⟨go, nm, qn, ego, egc, egd, egs⟩ := M.gen
  obtain ⟨c0, eS⟩ := hSo
  have gen' : ∀ {h : Heap}, h.get? a = some go → h.IsGen a g := fun {h} e => ⟨go, nm, qn, e, egc, egd, egs⟩
  have hcell : ∀ v, go.data ≠ .cell v := fun v q => by rw [egd] at q; cases q
  have lt4 : ∀ b ∈ fp, b < s4.heap.objs.size := fun b hb => (M.fp b hb).2
  have ltS : a < Sx := Nat.lt_of_lt_of_le M.ltA hSx
  have kp2 : ∀ b o, s4.heap.get? b = some o → s2.heap.get? b = some o := fun b o e => hk2 b o (M.keep b o e)
  have I0 := gx_inv (A := A) (s2 := s2) (code := code) (ps := [(Sx, lstObj #[] c0), (a, go)]) M.inv S hfr hra.hd M.fp kp2 hos hba (M.ns.at' fun o e => hk2 _ o e) fun p hp => by
    rcases List.mem_cons.mp hp with z | z
    · rw [z]
      exact ⟨eS, Nat.lt_trans M.lt ltS, fun v q => by cases q⟩
    · rw [List.mem_singleton.mp z]
      exact ⟨hk2 _ _ ego, M.lt, hcell⟩
  have I1 : Inv (gX X A s4 H2 Ng scope (cloFrom X.env.cells scope.names []) s4.heap.objs.size code fp) ([(Sx, lstObj #[] c0), (a, go)] ++ []) (wipe (capt ix σ) vs) H2 s2 :=
    I0.weak (wipe_length _ _) fun j v e => (wipe_some e).1
  have st2 : tn 0 s2.heap := M.turn.keep _ _ _ M.st fun b _ o e => kp2 b o e
  have hro : ∀ env, Room k (A.deeper env) := fun env => hra.deeper env
  refine seg_gxs (X := gX X A s4 H2 Ng scope (cloFrom X.env.cells scope.names []) s4.heap.objs.size code fp) (i := 0) M.turn st2 ?_
  refine seg_gx (X := gX X A s4 H2 Ng scope (cloFrom X.env.cells scope.names []) s4.heap.objs.size code fp) (γ := List V) (Hold.fill _ Sx (a, go)) (J := J) (gt := gt) (tt := tt) (te := te) (σ0 := capt ix σ) (vs := vs) (W := W) (Fu := fun ys n m => n + ys.length = sizeLine)
    (Iw := fun ys y H Nx => ys.length < sizeLine ∧ Nx (ys ++ [y]) H) (fin := cont) (Sn := fun _ _ => True) over_gl rfl M.turn rfl (fun b _ p hp => by cases hp) (pg _ _ _ _ _ _ _) (pt _ _ _ _ _ _ _ hro) (pe _ _ _ _ _ _ _ hro) S.co (fun _ _ z => z)
    turn (fun h1 _ => h1) (fun b hb e => ?_) (fun _ => trivial) (fun {n s₀ m ys y H v ip σ' s Nx} hip rv hz _ hf hi => ?_) (fun {n s₀ m ys ip σ' H s} hz _ hf hfu => ?_) m0 sizeLine 0 _ _ [] H2 hW (Nat.add_zero _) trivial ⟨#[], c0, .nil, I1⟩ st2 fun b hb => (M.fp b hb).1.1
  · have hb' := lt4 b hb
    rcases e with e | e
    · rw [e] at hb'
      exact absurd (Nat.lt_trans (Nat.lt_trans M.lt ltS) hb') (Nat.lt_irrefl _)
    · rw [e] at hb'
      exact absurd (Nat.lt_trans M.lt hb') (Nat.lt_irrefl _)
  · obtain ⟨acc, cc, rvs, Iz⟩ := hz
    obtain ⟨hlt, hnx⟩ := hi
    obtain ⟨n', rfl⟩ : ∃ n', n = n' + 1 := ⟨n - 1, by omega⟩
    have eS' : s.heap.get? Sx = some (lstObj acc cc) := (Iz.pin (Sx, lstObj acc cc) (List.mem_append_right _ (List.mem_append_left _ List.mem_cons_self))).1
    have hSp := Iz.pin (Sx, lstObj acc cc) (List.mem_append_right _ (List.mem_append_left _ List.mem_cons_self))
    have hap := Iz.pin (a, go) (List.mem_append_right _ (List.mem_append_left _ (List.mem_cons_of_mem _ (List.mem_singleton.mpr rfl))))
    have hasz : acc.size = ys.length := by
      have e1 := rvs.length
      have e2 : acc.toList.length = acc.size := by simp
      omega
    refine ⟨n', rfl, fun kap hk => ⟨Iz.os, Iz.bare, Iz.nolimit, gen' hap.1, ⟨acc, cc, eS', by omega⟩, fun s' z => ?_⟩⟩
    have hG : GI (gX X A s4 H2 Ng scope (cloFrom X.env.cells scope.names []) s4.heap.objs.size code fp) Sx ((a, go) :: ip) ys σ' H s := ⟨acc, cc, rvs, Iz⟩
    have nip : ∀ p ∈ (a, go) :: ip, p.1 ≠ Sx := fun p hp e => by
      rcases List.mem_cons.mp hp with q | q
      · rw [q] at e
        exact Nat.ne_of_lt ltS e
      · have hb := lt4 p.1 (hip p q)
        rw [e] at hb
        exact absurd (Nat.lt_trans (Nat.lt_trans M.lt ltS) hb) (Nat.lt_irrefl _)
    have ncell : ∀ x cl, (gX X A s4 H2 Ng scope (cloFrom X.env.cells scope.names []) s4.heap.objs.size code fp).env.cells.lookup x = some cl → cl ≠ Sx := fun x cl e z => by
      obtain ⟨vc, o, ho, hd⟩ := Iz.cell x cl e
      rw [z, eS'] at ho
      cases ho
      cases hd
    obtain ⟨acc', cc', rvs', Iz'⟩ := hG.woken (x := y) (v := v) (fun p hp => by cases hp) nip ⟨Nat.le_of_lt (Nat.lt_trans M.lt ltS), hSp.2.2.1, ncell⟩ rv z
    exact hk (ys ++ [y]) s' hnx ⟨acc', cc', rvs', Iz'⟩ fun m' _ => by
      rw [List.length_append, List.length_singleton]
      omega
  · obtain ⟨acc, cc, rvs, Iz⟩ := hz
    have hSp := Iz.pin (Sx, lstObj acc cc) (List.mem_append_right _ (List.mem_append_left _ List.mem_cons_self))
    exact .inl ⟨.inr rfl, H, ys, acc, cc, Iz.os, Iz.bare, Iz.base, Iz.hok, hSp.2.1, hSp.1, rvs, by omega, hf⟩
end
end GX

set_option maxRecDepth 100000
set_option maxHeartbeats 4000000
namespace GX
open PySem PySem.Spec PyProof.Rows L2 GenW GxR
open AutoSeq1 (wpAny_loadPart')

section
variable {P : Program} {w : World} {outer : List Env} {H : Hp} {sc s : Shared} {ex : List Addr} {cont : List V → Hp → Prop} {A : Around} {k : Nat} {u : Value} {E : Value → Shared → Prop}
/-- what stands behind a generator's draining -/
def Drained (P : Program) (w : World) (outer : List Env) (H : Hp) (sc : Shared) (ex : List Addr) (cont : List V → Hp → Prop) (us : List Value) (s' : Shared) : Prop :=
  ∃ H' ys, Vals ys us ∧ ys.length ≤ sizeLine ∧ s'.os = sc.os ∧ AllBare s'.gens ∧ Un (frs outer) ex H H' sc.heap s'.heap ∧ HOk P w H' s'.heap ∧ cont ys H'
/-- the items of a generator, all at once -/
theorem collect_new {Q : List Value → Shared → Prop} (hr : Room (k + 3) A) (hfr : A.frames = some outer) (h : GMade P w k outer H sc ex cont (fun _ _ _ => False) u s)
    (hQ : ∀ us s', Drained P w outer H sc ex cont us s' → Q us s') : wpAny (model P w) A (collect u) Q E s := by
  obtain ⟨a, g, c, rfl, ha1, ha2, hg, hgs, hos, hb, hl, hkp, wake⟩ := h
  have hSa : s.heap.objs.size ≠ a := Nat.ne_of_gt ha2
  have hcl : cStatics < s.heap.objs.size := let ⟨_, hn, _⟩ := hl; hn.lt
  have hSc : s.heap.objs.size ≠ cStatics := Nat.ne_of_gt hcl
  unfold collect
  refine wpAny_bind (wpAny_runValue (codeAny_builtin F.entry_proto_collect ?_))
  rw [Around.under_plainId F.plain_proto_collect _]
  show wpAny _ A.in1 (newList [] >>= fun l => again (.builtin "list.__iadd__" ⟨[l, .ref a], []⟩)) _ _ s
  refine wpAny_bind (wpAny_newObj_type ?_)
  refine wpAny_pure ⟨plainId_quiet F.plain_list_iadd _, codeAny_builtin F.entry_list_iadd ?_⟩
  rw [Around.under_plainId F.plain_list_iadd _]
  generalize hS : s.heap.objs.size = S at *
  have eS : (s.heap.push { cls := .type "list", data := .seq ([] : List Value).toArray }).get? S = some { cls := .type "list", data := .seq ([] : List Value).toArray } := by
    rw [← hS]
    exact Heap.get?_push_size _ rfl
  have k1 : ∀ b o, s.heap.get? b = some o → (s.heap.push { cls := .type "list", data := .seq ([] : List Value).toArray }).get? b = some o := fun b o e => Heap.get?_push_of_some _ e
  have neS : ∀ b o, s.heap.get? b = some o → b ≠ S := fun b o e => by
    rw [← hS]
    exact Nat.ne_of_lt (Heap.lt_size e)
  have up : ∀ (h : Heap) (f : Obj → Obj), (∀ b o, s.heap.get? b = some o → h.get? b = some o) → ∀ b o, s.heap.get? b = some o → (h.update S f).get? b = some o := fun h f q b o e =>
    (Heap.get?_update_other _ _ (Ne.symm (neS b o e))).trans (q b o e)
  have gty : ∀ {h : Heap}, (∀ b o, s.heap.get? b = some o → h.get? b = some o) → h.IsGen a g := fun {h} q => hg.keeps q
  show wpAny _ A.in1 (Builtin.List.listExtendWith (.ref S) (.ref a) (.ref S)) _ _ _
  unfold Builtin.List.listExtendWith
  refine wpAny_bind (wpAny_typeOf (Heap.IsGen.typeIs (s := { s with heap := _ }) (gty k1)) ?_)
  have h1 : Builtin.List.listSameRef (.ref S) (.ref a) = false := by simp [Builtin.List.listSameRef, hSa]
  have h2 : (Value.type "generator" == Value.type "list") = false := by decide
  have h3 : (Value.type "generator" == Value.type "tuple") = false := by decide
  simp only [h1, h2, h3, Bool.or_false, Bool.false_eq_true, if_false]
  refine wpAny_bind (wpAny_pyIter_gen (s := { s with heap := _ }) (gty k1) (wpAny_bind (wpAny_holding ?_)))
  unfold Builtin.List.listLengthHint
  refine wpAny_bind (wpAny_specialOf (Heap.IsGen.typeIs (s := { s with heap := _ }) (gty k1)) F.gen_no_len ?_)
  show wpAny _ A.in1 (specialOf (Value.ref a) (Str.ofString "__length_hint__") >>= _) _ _ _
  refine wpAny_bind (wpAny_specialOf (Heap.IsGen.typeIs (s := { s with heap := _ }) (gty k1)) F.gen_no_hint (wpAny_pure ?_))
  show wpAny _ A.in1 (rule "list.extend.makes-room" >>= fun _ => Builtin.List.listTouch (.ref S) >>= fun _ => again (.builtin "list.extend.loop" ⟨[.ref S, .ref a, .ref S], []⟩)) _ _ _
  refine wpAny_bind (wpAny_rule (wpAny_bind ?_))
  show wpAny _ A.in1 (updateSeq S (·.push .none) >>= fun _ => updateSeq S (·.pop)) _ _ _
  refine wpAny_bind (wpAny_updateSeq eS rfl ?_)
  have e2 := Heap.get?_update_self (Obj.mapSeq (·.push Value.none)) eS rfl
  refine wpAny_updateSeq (hz := by seq_fits) e2 rfl ?_
  have e3 := Heap.get?_update_self (Obj.mapSeq (·.pop)) e2 rfl
  have k3 := up _ (Obj.mapSeq (·.pop)) (up _ (Obj.mapSeq (·.push Value.none)) k1)
  refine wpAny_pure ⟨plainId_quiet F.plain_extend_loop _, ?_⟩
  have hd : A.depth < recursionLimit := by
    have := hr.dp
    omega
  refine drain (P := P) (w := w) (outer := outer) (H := H) (sc := sc) (ex := ex) (Q := cont) (EX := fun _ _ _ => False) (A := A) (g := g) hr.hd hd hSa hSc
    (fun s' acc c H' ys q1 q2 q3 q4 q5 q6 q7 q8 q9 => ?_) (fun e s' hc => ?_) sizeLine _ (gty k3) (hl.keeps k3) ⟨_, hgs, rfl, ?_⟩
  · show wpAny _ A (load S >>= _) _ _ s'
    exact wpAny_bind (wpAny_load q1 (wpAny_pure (hQ _ s' ⟨H', ys, q2, q3, q4, q5, q6, q7, q9⟩)))
  · obtain ⟨_, _, _, _, _, _, _, _, _, _, _, _, z⟩ := hc
    exact z.elim
  · refine wake _ _ _ ⟨hr.hd, ?_, ?_⟩ hfr ?_ k3 ⟨_, e3⟩ hos (allBare_setGen (s := { s with heap := _ }) hb rfl)
    · have := hr.dp
      show A.depth + 3 * k + 5 < _
      omega
    · have := hr.un
      show A.units + 1 + 1 + 16 * k + 200 < _
      omega
    · exact Nat.le_refl _
/-- tuple(g) -/
theorem call_tuple_new {Q : Value → Shared → Prop} (hr : Room (k + 5) A) (hfr : A.frames = some outer) (h : GMade P w k outer H sc ex cont (fun _ _ _ => False) u s)
    (hQ : ∀ us s', Drained P w outer H sc ex cont us s' → Q (.ref s'.heap.objs.size) { s' with heap := s'.heap.push { cls := .type "tuple", data := .seq us.toArray } }) : wpAny (model P w) A (call (.type "tuple") [u]) Q E s := by
  have hTI : s.TypeIs u "generator" := by
    obtain ⟨a, g, c, rfl, _, _, hg, _⟩ := h
    exact hg.typeIs
  refine callType_codes (Q₁ := fun obj s₁ => s₁.TypeIs obj "tuple" ∧ Q obj s₁) F.called_tuple (F.typeCall_tuple_1 _) F.entry_object_init ?_ fun obj s₁ h₁ =>
    ⟨h₁.1, F.args_object_init_2 obj _, object_init_meets F.called_tuple.init.lookup F.called_tuple.made (by decide) P w A.in1 _ s₁ ⟨h₁.1, rfl, h₁.2⟩⟩
  refine codeAny_of_tree ?_
  show wpAny _ A.in1.in1 (do checkBuiltinCall "tuple.__new__" ⟨[.type "tuple", u], []⟩; again (.builtin "tuple.__new__" ⟨[.type "tuple", u], []⟩)) _ _ s
  refine wpAny_bind (wpAny_of_eq (F.newCall_tuple_1 _) (wpAny_pure ⟨plainId_quiet F.plain_tuple_new _, codeAny_builtin F.entry_tuple_new ?_⟩))
  rw [Around.under_plainId F.plain_tuple_new _]
  have hsub := sub_tuple_self
  have hinit := init_tuple_lookup
  have hmh := madeHere_tuple
  have hroom : Room (k + 3) A.in1.in1 := ⟨hr.hd, by have := hr.dp; show A.depth + 3 * (k + 3) + 5 < _; omega, by have := hr.un; show A.units + 1 + 1 + 16 * (k + 3) + 200 < _; omega⟩
  have hfr2 : A.in1.in1.frames = some outer := hfr
  wp_walk using wpAny_typeOf hTI, collect_new hroom hfr2 h
  intro us s' hD
  have hlen : us.toArray.size ≤ sizeLine := by
    obtain ⟨H', ys, r, hl, _⟩ := hD
    rw [List.size_toArray, ← r.length]
    exact hl
  show wpAny _ _ (Builtin.Tuple.tupleExact us.toArray >>= fun v => ret v) _ _ _
  unfold Builtin.Tuple.tupleExact
  exact wpAny_bind (wpAny_newObj_type (wpAny_pure ⟨⟨_, Heap.get?_push_size _ rfl, rfl⟩, hQ us s' hD⟩) hlen)
end

section
variable {X : Cx} {k : Nat} {p pos : Pos}
def tTupG (tg : TGen) : TE := fun σ H Q => tg σ H fun out H2 => ∀ p, H2 p = none → Q (.ref p) (upd H2 p (.tup out))
/-- behind the draining, in the def's context -/
theorem Drained.inv {pins : List (Addr × Obj)} {σ : L2.St} {H1 : Hp} {sc s' : Shared} {ex : List Addr} {cont : List V → Hp → Prop} {us : List Value} (I : Inv X pins σ H1 sc) (hex : ExOk X pins ex) (h : Drained X.prog X.w X.stack H1 sc ex cont us s') :
    ∃ H' ys, Vals ys us ∧ ys.length ≤ sizeLine ∧ Inv X pins σ H' s' ∧ cont ys H' := by
  obtain ⟨H', ys, r, hl, os, hb, un, hok, hc⟩ := h
  exact ⟨H', ys, r, hl, I.call' (ch := ex) os un hok hb hex, hc⟩
theorem pe_tupG {e : Expr} {tg : TGen} {nm : Str} (h : PGen X k e tg (fun _ _ _ => False)) (hr : Room (k + 5) X.A) (hg : Gl X nm) (hmg : X.mg nm = none) (hv : bootBuiltins nm = some (.type "tuple")) (hnm : nm ≠ "__name__" := by decide) (hdb : (nm == ("__debug__" : Str)) = false := by decide)
    (he : starEach [e] X.env = (false, eval e X.env) :: starEach [] X.env := by rfl) : PE X (.Call (.Name nm p) [e] [] pos) (tTupG tg) := by
  refine ⟨fun pins s σ H Q I hq => ?_⟩
  refine wpAny_Call_Name_kw (ld_blt I hg hmg hv ?_ hnm hdb)
  refine PyProof.Rows.callWith_type1 ?_ he rfl
  rw [he]
  show wpAny _ _ (spliced ((false, eval e X.env) :: backTo pos (starEach [] X.env))) _ _ s
  refine Calls.spliced_cons (thn (h.run pins s σ H _ I hq) fun u s1 ⟨H1, sc, ex, I1, hex, hG⟩ => ?_)
  refine Calls.spliced_nil (call_tuple_new hr I1.ok.frames hG fun us s' hD => ?_)
  obtain ⟨H', ys, r, hl, I2, hc⟩ := hD.inv I1 hex
  refine ⟨.ref s'.heap.objs.size, upd H' s'.heap.objs.size (.tup ys), I2.laid (t' := s'.toks) (fun b o e => Heap.get?_push_of_some _ e) (Nat.le_refl _) ⟨hl, us, r, ?_⟩, rfl, hc _ (I2.hok.fresh (Nat.le_refl _))⟩
  exact ⟨_, Heap.get?_push_size _ rfl, rfl, _, rfl⟩
end
end GX

set_option maxRecDepth 100000
set_option maxHeartbeats 4000000
namespace GX
open PySem PySem.Spec PyProof.Rows L2 GenW GxR

/-- the running sum stands in the list at S; the letter: the very list -/
structure Tly where
  t : Int
  tk : Tok
  c : Nat
abbrev Tly.obj (x : Tly) : Obj := lstObj #[.int x.t x.tk] x.c
def Hold.tally (X : Cx) (S : Addr) (q : Addr × Obj) : Hold X Tly where
  ok := fun x ip σ H s => Inv X ([(S, x.obj), q] ++ ip) σ H s
  own := fun b => b = S ∨ b = q.1
  unfold := fun {x ip σ H s} I => by
    refine ⟨[(S, x.obj), q], fun p hp => ?_, I, fun _ _ _ _ h' => h'⟩
    rcases List.mem_cons.mp hp with z | z
    · exact .inl (by rw [z])
    · exact .inr (by rw [List.mem_singleton.mp z])
/-- the protocol of sum -/
def YSum (a g S : Nat) : Protocol := fun _ s₀ v s1 kap =>
  ∃ (j : Int) (tj : Tok) (x : Tly), v = .int j tj ∧ s1.heap.IsGen a g ∧ s1.heap.NoLimit ∧ s₀.heap.get? S = some x.obj ∧ s1.heap.get? S = some x.obj ∧ InLong j ∧ InLong (x.t + j) ∧
    ∀ s' : Shared, (∀ b o, b ≠ S → s1.heap.get? b = some o → s'.heap.get? b = some o) → (∃ tk' c', s'.heap.get? S = some (lstObj #[.int (x.t + j) tk'] c')) → s'.os = s1.os → (AllBare s1.gens → AllBare s'.gens) → kap (.send .none) s'
def FSum (S : Nat) (Fin : Int → Shared → Prop) (_ : Nat) (s₀ s1 : Shared) : Prop := ∃ x : Tly, s₀.heap.get? S = some x.obj ∧ ∀ s' : Shared, (∀ b o, s1.heap.get? b = some o → s'.heap.get? b = some o) → s'.os = s1.os → (AllBare s1.gens → AllBare s'.gens) → Fin x.t s'
def RSum (S : Nat) (Fin : Int → Shared → Prop) : GenEnd := fun n s₀ r s1 => ((r = .ok (.ret .none) ∨ r = .ok .next) ∧ FSum S Fin n s₀ s1) ∨ ∃ e, r = .error e ∧ NoE e s1

section
variable {P : Program} {w : World} {A : Around} {a g S : Nat} {R : Result → Shared → Prop} {Fin : Int → Shared → Prop}
theorem tly_eq {x y : Tly} {o : Option Obj} (h1 : o = some x.obj) (h2 : o = some y.obj) : x.t = y.t := by
  rw [h1] at h2
  have e := Option.some.inj h2
  have e2 : Data.seq #[.int x.t x.tk] x.c = Data.seq #[.int y.t y.tk] y.c := congrArg Obj.data e
  injection e2 with e3 _
  have e4 := congrArg (·[0]?) e3
  simp only [List.getElem?_toArray, List.getElem?_cons_zero] at e4
  injection (Option.some.inj e4)
theorem sum_loop (hh : A.handled = none) (hd : A.depth < recursionLimit) (hSa : S ≠ a) (hSc : S ≠ cStatics) (hF : ∀ t tk s, Fin t s → R (.ok (.ret (.int t tk))) s) : ∀ (n : Nat) (s : Shared), s.heap.IsGen a g → s.heap.NoLimit → (∃ x : Tly, s.heap.get? S = some x.obj) →
    (∃ gs, s.gens[g]? = some gs ∧ gs.Goes (model P w) A.in1.in1 (RSum S Fin) (YSum a g S) n (.send .none) (s.setGen g .running)) →
    codeAny (model P w) A (.builtin "sum.loop" ⟨[.ref a, .ref S, rawInt 0, rawInt 0], []⟩) R s := by
  intro n
  induction n using Nat.strongRecOn with
  | ind n ih =>
    intro s hg hl ⟨x0, hS⟩ ⟨gs, hgs, hgo⟩
    have hgl : g < s.gens.size := (Array.getElem?_eq_some_iff.mp hgs).1
    refine codeAny_builtin F.entry_sum_loop ?_
    rw [Around.under_plainId F.plain_sum_loop _]
    show wpAny _ A.in1 (seqItems? (.ref S) >>= _) _ _ s
    refine wpAny_bind (wpAny_seqItems hS rfl ?_)
    show wpAny _ A.in1 (tryCatch (pyNext (.ref a)) _ >>= _) _ _ s
    refine wpAny_bind (wpAny_tryCatch (wpAny_gsz (n := g + 1) hgl (next_genG (A := A.in1) (F := FSum S Fin) (Er := NoE) hh hl hd hg hgs hgo (fun v s₁ gs' hbare hv => ?_) (fun s₁ hp h' hk => ?_) fun e s₁ he => he.elim)))
    · intro hsz
      obtain ⟨j, tj, x, rfl, hg1, hl1, q0, q1, f1, f2, hq⟩ := hv
      have et : x.t = x0.t := tly_eq q0 hS
      rw [et] at f2 hq
      obtain ⟨f11, f12⟩ := f1
      obtain ⟨f21, f22⟩ := f2
      have hc : ((decide (-(2 ^ 63) ≤ j) && decide (j < 2 ^ 63)) && (decide (-(2 ^ 63) ≤ x0.t + j) && decide (x0.t + j < 2 ^ 63))) = true := by
        simp only [Bool.and_eq_true, decide_eq_true_eq]
        exact ⟨⟨f11, f12⟩, f21, f22⟩
      show wpAny _ A.in1 (if (_ : Bool) = true then (mkInt (x0.t + j) >>= _) else _) _ _ _
      split
      · refine wpAny_bind (wpAny_mkInt ?_)
        show wpAny _ A.in1 (updateSeq S (fun _ => #[.int (x0.t + j) (s₁.setGen g gs').toks]) >>= _) _ _ _
        refine wpAny_bind ?_
        have q1' : (s₁.setGen g gs').heap.get? S = some x.obj := q1
        have hsz1 : g < s₁.gens.size := by
          have q : (s₁.setGen g gs').gens.size = s₁.gens.size := setGen_size _ _ _
          have hsz' : g + 1 ≤ (s₁.setGen g gs').gens.size := hsz
          omega
        have oth : ∀ b o, b ≠ S → s₁.heap.get? b = some o → (s₁.heap.update S (Obj.mapSeq (fun _ => #[.int (x0.t + j) (s₁.setGen g gs').toks]))).get? b = some o := fun b o hb e => (Heap.get?_update_other _ _ (Ne.symm hb)).trans e
        have newS := Heap.get?_update_self (Obj.mapSeq (fun _ => (#[.int (x0.t + j) (s₁.setGen g gs').toks] : Array Value))) q1 rfl
        cases n with
        | zero => exact (hq { s₁ with heap := s₁.heap.update S (Obj.mapSeq (fun _ => #[.int (x0.t + j) (s₁.setGen g gs').toks])) } oth ⟨_, _, newS⟩ rfl (fun z => z)).elim
        | succ m =>
          refine wpAny_updateSeq q1' rfl (wpAny_pure ⟨plainId_quiet F.plain_sum_loop _, ih m (Nat.lt_succ_self _) _ ?_ ?_ ⟨⟨_, _, _⟩, newS⟩ ⟨gs', setGen_here hsz1, ?_⟩⟩)
          · obtain ⟨o, nm, qn, ho, r⟩ := hg1
            exact ⟨o, nm, qn, oth a o (Ne.symm hSa) ho, r⟩
          · obtain ⟨mc, hns, hnn⟩ := hl1
            exact ⟨mc, hns.at' fun o e => oth _ o (Ne.symm hSc) e, hnn⟩
          · exact hq _ oth ⟨_, _, newS⟩ rfl fun z => setGen_same rfl (setGen_same hbare z)
      · rename_i hneg
        exact absurd hc hneg
    · intro _
      obtain ⟨x, q0, hfin⟩ := hp
      have et : x.t = x0.t := tly_eq q0 hS
      rw [et] at hfin
      exact wpAny_pure (hF _ _ _ (hfin _ (fun b o e => hk b o e) rfl fun z => setGen_same rfl z))
end

def STurn (J : It) (gt : TG) (tt : TT) (te : TE) (σ0 : L2.St) (vs : List Nat) (Q : VK) (W : Nat → Nat → Int → Hp → Prop) : Prop :=
  ∀ i m t H, W i m t H → (J.stop i H ∧ Q (.int t) H) ∨ (J.go i H ∧ ∃ Nx : Int → Hp → Prop, (∀ t' H', Nx t' H' → ∃ m', m' < m ∧ W (i + 1) m' t' H') ∧
    ∀ x H', J.yld i H x H' → gt x (wipe σ0 vs) H' fun σ2 H2 => wipe σ2 vs = wipe σ0 vs ∧ tt σ2 H2 fun b H3 => if b = true then te σ2 H3 fun y H4 => ∃ j, y = .int j ∧ InLong j ∧ InLong (t + j) ∧ Nx (t + j) H4 else Nx t H3)
def tSumG (P : Addr) (wi : TI) (gt : TG) (tt : TT) (te : TE) (ix : List (Option Nat)) (vs : List Nat) : TE := fun σ H Q => wi σ H fun J H1 => TabG H1 P ∧ ∀ H2, Tabbed P H1 H2 →
  ∃ W : Nat → Nat → Int → Hp → Prop, (∃ m, W 0 m 0 H2) ∧ STurn J gt tt te (capt ix σ) vs Q W

section
variable {X : Cx} {pins : List (Addr × Obj)} {σ : L2.St}
variable {elt tg iter : Expr} {ifs : List Expr} {scope : Scope} {gpos : Pos} {J : It} {H2 : Hp} {a g it : Addr} {fp : List Addr} {tn : Nat → Heap → Prop} {code : Value} {s4 s5 : Shared}
theorem ready_sum {A : Around} {Ng : List Str} {ix : List (Option Nat)} {vs : List Nat} {gt : TG} {tt : TT} {te : TE} {Q : VK} {W : Nat → Nat → Int → Hp → Prop} {m0 : Nat} {Sx : Addr} {x0 : Tly} {s2 : Shared} (M : Made X pins σ elt tg iter ifs scope gpos J H2 a g it fp tn code s4 s5) (S : GScp X.N X.env.scope scope Ng ix)
    (hfr : A.frames = some X.stack) (hh : A.handled = none) (hSx : s5.heap.objs.size ≤ Sx) (hk2 : ∀ b o, s5.heap.get? b = some o → s2.heap.get? b = some o) (eS : s2.heap.get? Sx = some x0.obj) (hx0 : x0.t = 0) (hos : s2.os = s5.os) (hba : AllBare s2.gens)
    (pg : PG (gX X A s4 H2 Ng scope (cloFrom X.env.cells scope.names []) s4.heap.objs.size code fp) tg gt) (pt : PTs (gX X A s4 H2 Ng scope (cloFrom X.env.cells scope.names []) s4.heap.objs.size code fp) ifs tt) (pe : PE (gX X A s4 H2 Ng scope (cloFrom X.env.cells scope.names []) s4.heap.objs.size code fp) elt te)
    (hW : W 0 m0 0 H2) (turn : STurn J gt tt te (capt ix σ) vs Q W) :
    ∃ n, (GenState.fresh (gStart elt tg iter ifs scope gpos it (genEnv scope (cloFrom X.env.cells scope.names []) s4.heap.objs.size code builtinsNs X.env))).Goes (model X.prog X.w) A (RSum Sx fun t s' => ∃ H', Inv X pins σ H' s' ∧ Q (.int t) H') (YSum a g Sx) n (.send .none) s2 := by
  obtain ⟨go, nm, qn, ego, egc, egd, egs⟩ := M.gen
  have gen' : ∀ {h : Heap}, h.get? a = some go → h.IsGen a g := fun {h} e => ⟨go, nm, qn, e, egc, egd, egs⟩
  have hcell : ∀ v, go.data ≠ .cell v := fun v q => by rw [egd] at q; cases q
  have lt4 : ∀ b ∈ fp, b < s4.heap.objs.size := fun b hb => (M.fp b hb).2
  have ltS : a < Sx := Nat.lt_of_lt_of_le M.ltA hSx
  have kp2 : ∀ b o, s4.heap.get? b = some o → s2.heap.get? b = some o := fun b o e => hk2 b o (M.keep b o e)
  have I0 := gx_inv (A := A) (s2 := s2) (code := code) (ps := [(Sx, x0.obj), (a, go)]) M.inv S hfr hh M.fp kp2 (hos.trans M.os) hba (M.ns.at' fun o e => hk2 _ o e) fun p hp => by
    rcases List.mem_cons.mp hp with z | z
    · rw [z]
      exact ⟨eS, Nat.lt_trans M.lt ltS, fun v q => by cases q⟩
    · rw [List.mem_singleton.mp z]
      exact ⟨hk2 _ _ ego, M.lt, hcell⟩
  have I1 : Inv (gX X A s4 H2 Ng scope (cloFrom X.env.cells scope.names []) s4.heap.objs.size code fp) ([(Sx, x0.obj), (a, go)] ++ []) (wipe (capt ix σ) vs) H2 s2 :=
    I0.weak (wipe_length _ _) fun j v e => (wipe_some e).1
  have st2 : tn 0 s2.heap := M.turn.keep _ _ _ M.st fun b _ o e => kp2 b o e
  refine ⟨m0 + 1, rfl, ?_⟩
  refine seg_gxs (X := gX X A s4 H2 Ng scope (cloFrom X.env.cells scope.names []) s4.heap.objs.size code fp) (i := 0) M.turn st2 ?_
  refine seg_gx (X := gX X A s4 H2 Ng scope (cloFrom X.env.cells scope.names []) s4.heap.objs.size code fp) (γ := Tly) (Hold.tally _ Sx (a, go)) (J := J) (gt := gt) (tt := tt) (te := te) (σ0 := capt ix σ) (vs := vs) (W := fun i m x H => W i m x.t H) (Fu := fun _ n m => m < n)
    (Iw := fun x y H Nx => ∃ j, y = .int j ∧ InLong j ∧ InLong (x.t + j) ∧ ∀ tk c, Nx ⟨x.t + j, tk, c⟩ H) (fin := fun x H => Q (.int x.t) H) (Sn := fun s x => s.heap.get? Sx = some x.obj) over_gl rfl M.turn rfl (fun b _ p hp => by cases hp) pg pt pe S.co (fun _ _ z => z)
    (fun i m x H hw => ?_) (fun h1 h2 => Nat.lt_trans h2 h1) (fun b hb e => ?_) (fun {x ip σ H s} hz => (hz.pin (Sx, x.obj) (List.mem_append_right _ (List.mem_append_left _ List.mem_cons_self))).1) (fun {n s₀ m x y H v ip σ' s Nx} hip rv hz hsn hf hi => ?_) (fun {n s₀ m x ip σ' H s} hz hsn hf hfu => ?_) m0 (m0 + 1) 0 _ _ x0 H2 (by rw [hx0]; exact hW) (Nat.lt_succ_self _) eS I1 st2 fun b hb => (M.fp b hb).1.1
  · rcases turn i m x.t H hw with ⟨h1, h2⟩ | ⟨h1, Nx, h2, h3⟩
    · exact .inl ⟨h1, h2⟩
    · refine .inr ⟨h1, fun x' H' => Nx x'.t H', fun x' H' z => h2 x'.t H' z, ?_⟩
      have e : (fun (y : V) (H4 : Hp) => ∃ j, y = V.int j ∧ InLong j ∧ InLong (x.t + j) ∧ ∀ (tk : Tok) (c : Nat), Nx (Tly.mk (x.t + j) tk c).t H4) = fun y H4 => ∃ j, y = V.int j ∧ InLong j ∧ InLong (x.t + j) ∧ Nx (x.t + j) H4 := by
        funext y H4
        refine propext ⟨fun ⟨j, e1, e2, e3, e4⟩ => ⟨j, e1, e2, e3, e4 0 0⟩, fun ⟨j, e1, e2, e3, e4⟩ => ⟨j, e1, e2, e3, fun _ _ => e4⟩⟩
      rw [e]
      exact h3
  · have hb' := lt4 b hb
    rcases e with e | e
    · rw [e] at hb'
      exact absurd (Nat.lt_trans (Nat.lt_trans M.lt ltS) hb') (Nat.lt_irrefl _)
    · rw [e] at hb'
      exact absurd (Nat.lt_trans M.lt hb') (Nat.lt_irrefl _)
  · obtain ⟨j, rfl, f1, f2, hnx⟩ := hi
    obtain ⟨tj, rfl⟩ : ∃ tj, v = Value.int j tj := rv
    obtain ⟨n', rfl⟩ : ∃ n', n = n' + 1 := ⟨n - 1, by omega⟩
    have hSp := hz.pin (Sx, x.obj) (List.mem_append_right _ (List.mem_append_left _ List.mem_cons_self))
    have hap := hz.pin (a, go) (List.mem_append_right _ (List.mem_append_left _ (List.mem_cons_of_mem _ (List.mem_singleton.mpr rfl))))
    refine ⟨n', rfl, fun kap hk => ⟨j, tj, x, rfl, gen' hap.1, hz.nolimit, hsn, hSp.1, f1, f2, fun s' h1 h2 h3 h4 => ?_⟩⟩
    obtain ⟨tk', c', eS'⟩ := h2
    refine hk ⟨x.t + j, tk', c'⟩ s' (hnx tk' c') ?_ fun m' hm => by omega
    have nip : ∀ p ∈ (a, go) :: ip, p.1 ≠ Sx := fun p hp e => by
      rcases List.mem_cons.mp hp with q | q
      · rw [q] at e
        exact Nat.ne_of_lt ltS e
      · have hb := lt4 p.1 (hip p q)
        rw [e] at hb
        exact absurd (Nat.lt_trans (Nat.lt_trans M.lt ltS) hb) (Nat.lt_irrefl _)
    have ncell : ∀ y cl, (gX X A s4 H2 Ng scope (cloFrom X.env.cells scope.names []) s4.heap.objs.size code fp).env.cells.lookup y = some cl → cl ≠ Sx := fun y cl e z => by
      obtain ⟨vc, o, ho, hd⟩ := hz.cell y cl e
      rw [z, hSp.1] at ho
      cases ho
      cases hd
    have nt : ∀ b u, H b = some u → b ≠ Sx := fun b u q e => by
      rw [e, hSp.2.1] at q
      cases q
    -- the list at Sx has turned
    have Ia : Inv (gX X A s4 H2 Ng scope (cloFrom X.env.cells scope.names []) s4.heap.objs.size code fp) ((a, go) :: ip) σ' H s := hz.pins_of fun p hp => hz.pin p (List.mem_append_right _ (by
      rcases List.mem_cons.mp hp with q | q
      · exact List.mem_append_left _ (by rw [q]; exact List.mem_cons_of_mem _ (List.mem_singleton.mpr rfl))
      · exact List.mem_append_right _ q))
    have Ib : Inv (gX X A s4 H2 Ng scope (cloFrom X.env.cells scope.names []) s4.heap.objs.size code fp) ((a, go) :: ip) σ' H s' := by
      refine Ia.call' (ch := [Sx]) h3 ⟨fun b o e n _ hc => h1 b o (fun z => hc (by rw [z]; exact List.mem_singleton.mpr rfl)) e, fun b o e n _ hc => ⟨o.slots, h1 b o (fun z => hc (by rw [z]; exact List.mem_singleton.mpr rfl)) e⟩, fun _ _ _ n _ => n,
        fun b o e hc => ⟨o, h1 b o (fun z => hc (by rw [z]; exact List.mem_singleton.mpr rfl)) e⟩, fun _ _ q => q, fun _ _ _ q => q, fun b ps q => ⟨#[], by rw [q]; simp⟩⟩ (fun b u q => ?_) (h4 hz.bare) fun b hb => ?_
      · refine (Ia.hok b u q).stay (fun c v hc y => h1 c v ?_ y) (fun _ y => y) fun _ _ y => y
        rcases hc with y | y
        · rw [y]
          exact nt b u q
        · exact nt c _ y
      · rw [List.mem_singleton.mp hb]
        exact ⟨.inr (Nat.le_of_lt (Nat.lt_trans M.lt ltS)), hSp.2.2.1.symm.symm, fun y cl e => ncell y cl e, fun p hp => nip p (by
          rcases List.mem_append.mp hp with q | q
          · cases q
          · exact q)⟩
    refine Ib.pins_of fun p hp => ?_
    rcases List.mem_append.mp hp with q | q
    · rcases List.mem_cons.mp q with q | q
      · rw [q]
        exact ⟨eS', hSp.2.1, hSp.2.2.1, hSp.2.2.2.1, fun v z => by cases z⟩
      · rw [List.mem_singleton.mp q]
        exact Ib.pin (a, go) (List.mem_append_right _ List.mem_cons_self)
    · exact Ib.pin p (List.mem_append_right _ (List.mem_cons_of_mem _ q))
  · exact .inl ⟨.inr rfl, x, hsn, fun s' h1 h2 h3 => ⟨H, M.back hz h1 h2 (h3 hz.bare), hf⟩⟩
end
end GX

set_option maxRecDepth 100000
set_option maxHeartbeats 4000000
namespace GX
open PySem PySem.Spec PyProof.Rows L2 GenW GxR
section
variable {X : Cx} {c P : Addr} {elt tg iter : Expr} {ifs : List Expr} {p pos gpos : Pos} {scope : Scope} {Ng : List Str} {ix : List (Option Nat)} {vs : List Nat} {wi : TI} {gt : TG} {tt : TT} {te : TE} {k : Nat}
theorem pe_sumG (hr : Room (k + 1) X.A) (hg : Gl X "sum") (hm : X.mg "sum" = none) (hb : bootBuiltins "sum" = some (.builtin "sum")) (TB : TabB X.base X.mg c P) (hcode : X.env.code = .ref c) (S : GScp X.N X.env.scope scope Ng ix) (hi : PI X tg iter wi)
    (pg : ∀ (A : Around) (s4 : Shared) (H4 : Hp) (cl : List (Str × Addr)) (C : Addr) (code : Value) (fp : List Addr), PG (gX X A s4 H4 Ng scope cl C code fp) tg gt) (pt : ∀ (A : Around) (s4 : Shared) (H4 : Hp) (cl : List (Str × Addr)) (C : Addr) (code : Value) (fp : List Addr), (∀ env, Room k (A.deeper env)) → PTs (gX X A s4 H4 Ng scope cl C code fp) ifs tt)
    (pe : ∀ (A : Around) (s4 : Shared) (H4 : Hp) (cl : List (Str × Addr)) (C : Addr) (code : Value) (fp : List Addr), (∀ env, Room k (A.deeper env)) → PE (gX X A s4 H4 Ng scope cl C code fp) elt te) (hs : ∀ v, genFold iter X.env v = pure v := by intro _; rfl)
    (he : starEach [.GeneratorExp elt [⟨tg, iter, ifs, 0⟩] scope gpos] X.env = (false, eval (.GeneratorExp elt [⟨tg, iter, ifs, 0⟩] scope gpos) X.env) :: starEach [] X.env := by rfl) :
    PE X (.Call (.Name "sum" p) [.GeneratorExp elt [⟨tg, iter, ifs, 0⟩] scope gpos] [] pos) (tSumG P wi gt tt te ix vs) := by
  refine ⟨fun pins s σ H Q I h => ?_⟩
  refine wpAny_Call_Name_kw (ld_blt I hg hm hb ?_)
  refine PyProof.Rows.callWith_builtin1 ?_ he (by rfl)
  rw [he]
  show wpAny _ _ (spliced ((false, eval (.GeneratorExp elt [⟨tg, iter, ifs, 0⟩] scope gpos) X.env) :: backTo pos (starEach [] X.env))) _ _ s
  refine Calls.spliced_cons (gx_make (R := fun J H2 => ∃ W : Nat → Nat → Int → Hp → Prop, (∃ m, W 0 m 0 H2) ∧ STurn J gt tt te (capt ix σ) vs Q W) hr TB hcode S hi hs I h fun J H2 a g it fp tn code s4 s5 hR M => ?_)
  obtain ⟨W, ⟨m0, hW⟩, turn⟩ := hR
  have hr2 : ∀ env, Room k (X.A.in1.in1.deeper env) := fun env => ⟨hr.hd, by have := hr.dp; show X.A.depth + 1 + 3 * k + 5 < _; omega, by have := hr.un; show X.A.units + 1 + 1 + 3 + 16 * k + 200 < _; omega⟩
  refine Calls.spliced_nil (call_function_tree F.kind_sum F.plain_sum F.entry_sum (F.args_sum1 _) ?_)
  unfold Builtin.«sum»
  simp only [List.length_cons, List.length_nil]
  rw [if_neg (by decide)]
  refine wpAny_bind (wpAny_of_eq (show Builtin.Builtins.bindParams "sum" ["start"] 0 { } = pure [none] from rfl) (wpAny_bind (wpAny_pyIter_gen M.gen ?_)))
  refine wpAny_bind (wpAny_mkInt (wpAny_bind (wpAny_pure ?_)))
  simp only [List.forIn_cons, List.forIn_nil]
  refine wpAny_bind (wpAny_bind (wpAny_bind (wpAny_isInstance (T := "int") (b := false) (typeIs_int _ _ _) PySem.sub_int_str ?_)))
  simp only [Bool.false_eq_true, if_false]
  refine wpAny_pure (wpAny_bind (wpAny_bind (wpAny_isInstance (T := "int") (b := false) (typeIs_int _ _ _) PySem.sub_int_bytes ?_)))
  simp only [Bool.false_eq_true, if_false]
  refine wpAny_pure (wpAny_bind (wpAny_bind (wpAny_isInstance (T := "int") (b := false) (typeIs_int _ _ _) PySem.sub_int_bytearray ?_)))
  simp only [Bool.false_eq_true, if_false]
  refine wpAny_pure (wpAny_pure (wpAny_bind (wpAny_newObj_type ?_)))
  have ltS : s5.heap.objs.size ≠ a := Nat.ne_of_gt M.ltA
  have hcl : cStatics < s5.heap.objs.size := let ⟨_, hn, _⟩ := M.lim; hn.lt
  have kp : ∀ b o, s5.heap.get? b = some o → (s5.heap.push { cls := .type "list", data := .seq ([Value.int 0 s5.toks] : List Value).toArray }).get? b = some o := fun b o e => Heap.get?_push_of_some _ e
  have eS : (s5.heap.push { cls := .type "list", data := .seq ([Value.int 0 s5.toks] : List Value).toArray }).get? s5.heap.objs.size = some (Tly.obj ⟨0, s5.toks, 0⟩) := Heap.get?_push_size _ rfl
  refine wpAny_pure ⟨plainId_quiet F.plain_sum_loop _, ?_⟩
  obtain ⟨n, hgo⟩ := ready_sum (A := X.A.in1.in1) (Sx := s5.heap.objs.size) (x0 := ⟨0, s5.toks, 0⟩) (s2 := ({ s5 with heap := s5.heap.push { cls := .type "list", data := .seq ([Value.int 0 s5.toks] : List Value).toArray }, toks := s5.toks + 1 } : Shared).setGen g .running) M S M.inv.ok.frames hr.hd (Nat.le_refl _) kp eS rfl rfl (allBare_setGen (s := { s5 with heap := _ }) M.bare rfl)
    (pg _ _ _ _ _ _ _) (pt _ _ _ _ _ _ _ hr2) (pe _ _ _ _ _ _ _ hr2) hW turn
  refine sum_loop (A := X.A) (Fin := fun t s' => ∃ H', Inv X pins σ H' s' ∧ Q (.int t) H') hr.hd (by have := hr.dp; omega) ltS (Nat.ne_of_gt hcl) (fun t tk s' h => ?_) n _ (M.gen.keeps kp) (M.lim.keeps kp) ⟨_, eS⟩ ⟨_, M.gs, hgo⟩
  obtain ⟨H', I', q⟩ := h
  exact ⟨.int t, H', I', ⟨tk, rfl⟩, q⟩
end
end GX

set_option maxRecDepth 100000
set_option maxHeartbeats 4000000
/-! LX: lambdas without parameters as values; the def that calls one and tells its errors by words. -/
namespace LX
open PySem PySem.Spec PyProof.Rows L2
open LamX (CodeO TabS Tabs ExtN inv_table codeO_ne among_app LamS)

/-- a lambda's own words -/
structure LF where
  params : Arguments
  body : Expr
  scope : Scope
  cl : List (Str × Addr)
  c : Addr
  qual : Str
def LamO (f : Addr) (L : LF) : HO := .ext fun h => ∃ pm ctv, h.get? f = some (PySem.W.kla_obj "<lambda>" L.qual L.params L.body L.scope L.cl pm L.c ctv)
theorem lamO_at {P : Program} {w : World} {H : Hp} {h : Heap} {f : Addr} {L : LF} (hok : HOk P w H h) (e : H f = some (LamO f L)) : ∃ pm ctv, h.get? f = some (PySem.W.kla_obj "<lambda>" L.qual L.params L.body L.scope L.cl pm L.c ctv) := by
  obtain ⟨z, _, _⟩ := hok f _ e
  exact z
section
variable {X : Cx} {pins : List (Addr × Obj)} {σ : L2.St} {H : Hp} {s : Shared}
theorem inv_lam {L : LF} {pm ctv : Value} {t' : Nat} (I : Inv X pins σ H s) :
    Inv X pins σ (upd H s.heap.objs.size (LamO s.heap.objs.size L)) { s with heap := s.heap.push (PySem.W.kla_obj "<lambda>" L.qual L.params L.body L.scope L.cl pm L.c ctv), toks := t' } := by
  refine I.laid (a := s.heap.objs.size) (fun b u e => Heap.get?_push_of_some _ e) (Nat.le_refl _) ?_
  have e : (s.heap.push (PySem.W.kla_obj "<lambda>" L.qual L.params L.body L.scope L.cl pm L.c ctv)).get? s.heap.objs.size = some (PySem.W.kla_obj "<lambda>" L.qual L.params L.body L.scope L.cl pm L.c ctv) := Heap.get?_push_size _ rfl
  exact ⟨⟨pm, ctv, e⟩, ⟨_, e⟩, fun h1 h2 ⟨p, t, z⟩ st => ⟨p, t, st _ z⟩⟩
/-- the lambda is made, and known from now on -/
theorem lam_new {T : List (Addr × Str)} {c P : Addr} {params : Arguments} {body : Expr} {scope : Scope} {pos : Pos} {E : Value → Shared → Prop} {Q : Value → Shared → Prop} (I : Inv X pins σ H s) (TB : LamX.TabB X.base X.mg c P) (hcode : X.env.code = .ref c)
    (hm : (P, X.env.qual ++ "<lambda>") ∈ T) (hu : ∀ p ∈ T, p.1 = P → p.2 = X.env.qual ++ "<lambda>") (hT : Tabs T H) (hdef : defaultsOf params X.env = ([], [])) (hfree : ∀ y ∈ scope.names, y.2 = .free → ∃ c, X.env.cells.lookup y.1 = some c)
    (h : ∀ (f c' : Addr) (H1 : Hp) (s' : Shared), Inv X pins σ H1 s' → ExtN H H1 → Tabs T H1 → H f = none → H1 f = some (LamO f ⟨params, body, scope, cloFrom X.env.cells scope.names [], c', X.env.qual ++ "<lambda>"⟩) → H1 c' = some (CodeO c' (X.env.qual ++ "<lambda>")) →
      (∀ b, H1 b = none → H b = none) → (∀ b o, b ≠ P → H b = some o → H1 b = some o) → Q (.ref f) s') :
    wpAny (model X.prog X.w) X.A (eval (.Lambda params body scope pos) X.env) Q E s := by
  obtain ⟨ps, hP, ht, ha⟩ := hT _ hm
  refine PySem.W.kla_eval hdef ?_
  have bP : s.heap.BuiltinsAt X.mg P := TB.bm.keeps I.bk
  have hP' : s.heap.get? P = some { cls := .none, data := .fields ps } := I.hok P _ hP
  have back : ∀ {H : Hp} {a b : Addr} {o : HO}, upd H a o b = none → H b = none := fun {H a b o} e => by
    unfold upd at e
    split at e
    · cases e
    · exact e
  cases hc : codeAmong pos ps.toList with
  | none =>
    refine PySem.W.kla_makeFunction (mg := X.mg) (c := c) (P := P) (ps := ps) (closure_ok hfree) I.ok.glob (I.mod.glob.keeps I.bk) hcode (TB.code.keeps I.bk) hP' ht hc TB.gP bP fun c' ctv h' tk hx hge hlt hrec htb => ?_
    obtain ⟨c2, oc, vs, t, e2, hoc, hd, hv⟩ := hrec
    cases e2
    have nC : H c' = none := I.hok.fresh hge
    have I1 := inv_table (t' := tk) (more := #[rawInt pos.line, rawInt pos.col, .ref c']) (h' := h') I hP (fun b o hb e => hx b o hb e) htb hge ⟨oc, vs, t, hoc, hd, hv⟩
    have eL : (ps ++ #[rawInt pos.line, rawInt pos.col, .ref c']).toList = ps.toList ++ [rawInt pos.line, rawInt pos.col, .ref c'] := by simp
    have hE : ExtN H (upd (upd H P (.tbl (ps ++ #[rawInt pos.line, rawInt pos.col, .ref c']))) c' (CodeO c' (X.env.qual ++ "<lambda>"))) := fun b o e n => by
      rw [upd_ne (ne_of_none e nC), upd_ne (fun z => n ps (Option.some.inj (e.symm.trans (by rw [z]; exact hP))))]
      exact e
    have T1 : Tabs T (upd (upd H P (.tbl (ps ++ #[rawInt pos.line, rawInt pos.col, .ref c']))) c' (CodeO c' (X.env.qual ++ "<lambda>"))) := fun p hp => by
      by_cases hb : p.1 = P
      · rw [hu p hp hb, hb]
        refine ⟨_, by rw [upd_ne (ne_of_none hP nC), upd_same], by rw [eL]; exact PySem.TriplesOk_snoc _ _ _ _ ht, fun p' cv hcv => ?_⟩
        rw [eL] at hcv
        rcases among_app _ ht hcv with z | z
        · obtain ⟨c0, e1, e2⟩ := ha p' cv z
          exact ⟨c0, e1, hE _ _ e2 codeO_ne⟩
        · exact ⟨c', z, upd_same⟩
      · obtain ⟨ps', a1, a2, a3⟩ := hT p hp
        refine ⟨ps', by rw [upd_ne (ne_of_none a1 nC), upd_ne hb]; exact a1, a2, fun p' cv hcv => ?_⟩
        obtain ⟨c0, e1, e2⟩ := a3 p' cv hcv
        exact ⟨c0, e1, hE _ _ e2 codeO_ne⟩
    have nF := I1.hok.fresh (Nat.le_refl _)
    have I2 := inv_lam (L := ⟨params, body, scope, cloFrom X.env.cells scope.names [], c', X.env.qual ++ "<lambda>"⟩) (pm := (X.mg "__name__").getD .none) (ctv := ctv) (t' := tk) I1
    refine h h'.objs.size c' _ _ I2 (fun b o e n => ?_) (T1.ext fun b o e => ?_) (I.hok.fresh (Nat.le_trans hge (Nat.le_of_lt hlt))) upd_same ((upd_ne (Nat.ne_of_lt hlt)).trans upd_same) (fun b e => back (back (back e))) (fun b o nb e => by
      have e2 : upd (upd H P (.tbl (ps ++ #[rawInt pos.line, rawInt pos.col, .ref c']))) c' (CodeO c' (X.env.qual ++ "<lambda>")) b = some o := by
        rw [upd_ne (ne_of_none e nC), upd_ne nb]
        exact e
      exact (upd_ne (ne_of_none e2 nF)).trans e2)
    · exact (upd_ne (ne_of_none (hE b o e n) nF)).trans (hE b o e n)
    · exact (upd_ne (ne_of_none e nF)).trans e
  | some cv =>
    obtain ⟨c', e, hco⟩ := ha pos cv hc
    subst e
    refine PySem.W.kla_makeFunctionHit (mg := X.mg) (c := c) (P := P) (ps := ps) (closure_ok hfree) I.ok.glob (I.mod.glob.keeps I.bk) hcode (TB.code.keeps I.bk) hP' ht hc bP fun ctv h' tk hx hsz => ?_
    have I1 : Inv X pins σ H { s with heap := h', toks := tk } := I.kept hx
    have nF : H h'.objs.size = none := I1.hok.fresh (Nat.le_refl _)
    have I2 := inv_lam (L := ⟨params, body, scope, cloFrom X.env.cells scope.names [], c', X.env.qual ++ "<lambda>"⟩) (pm := (X.mg "__name__").getD .none) (ctv := ctv) (t' := tk) I1
    refine h h'.objs.size c' _ _ I2 (fun b o e n => ?_) (hT.ext fun b o e => ?_) nF upd_same ((upd_ne (ne_of_none hco nF)).trans hco) (fun b e => back e) (fun b o _ e => (upd_ne (ne_of_none e nF)).trans e)
    · exact (upd_ne (ne_of_none e nF)).trans e
    · exact (upd_ne (ne_of_none e nF)).trans e
end
/-- the lambda as a value -/
def tLamV (T : List (Addr × Str)) (P : Addr) (mk : Addr → LF) : TE := fun σ H Q => Tabs T H ∧ ∀ (f c' : Addr) (H1 : Hp), ExtN H H1 → Tabs T H1 → H f = none → H1 f = some (LamO f (mk c')) → H1 c' = some (CodeO c' (mk c').qual) → (∀ b, H1 b = none → H b = none) → (∀ b o, b ≠ P → H b = some o → H1 b = some o) → Q (.ref f) H1
section
variable {X : Cx}
theorem pe_lam {T : List (Addr × Str)} {c P : Addr} {params : Arguments} {body : Expr} {scope : Scope} {pos : Pos} (TB : LamX.TabB X.base X.mg c P) (hcode : X.env.code = .ref c) (hm : (P, X.env.qual ++ "<lambda>") ∈ T) (hu : ∀ p ∈ T, p.1 = P → p.2 = X.env.qual ++ "<lambda>")
    (L : LamS X.env.scope scope) (hdef : defaultsOf params X.env = ([], []) := by rfl) :
    PE X (.Lambda params body scope pos) (tLamV T P fun c' => ⟨params, body, scope, cloFrom X.env.cells scope.names [], c', X.env.qual ++ "<lambda>"⟩) := by
  refine ⟨fun pins s σ H Q I h => ?_⟩
  obtain ⟨hT, h⟩ := h
  exact lam_new I TB hcode hm hu hT hdef (L.has I.ok) fun f c' H1 s' I1 eN T1 f0 f1 c1 nn kp => ⟨.ref f, H1, I1, rfl, h f c' H1 eN T1 f0 f1 c1 nn kp⟩
end
end LX

set_option maxRecDepth 100000
set_option maxHeartbeats 4000000
namespace LX
open PySem PySem.Spec PyProof.Rows L2
open LamX (CodeO TabS Tabs ExtN inv_table codeO_ne among_app LamS)

abbrev lamE (L : LF) (n f : Addr) : Env := PySem.W.envX L.qual L.scope n f (.ref L.c) L.cl
/-- the context of a lambda's body that captures nothing -/
def lamC (P : Program) (w : World) (K : PySem.W.Frag) (mg : Str → Option Value) (base : Heap) (A : Around) (outer : List Env) (s : Shared) (H : Hp) (E : XK) (L : LF) (f : Addr) : Cx where
  prog := P
  w := w
  K := K
  mg := mg
  base := base
  A := A.deeper (lamE L s.heap.objs.size f)
  N := []
  s_0 := s
  H_0 := H
  env := lamE L s.heap.objs.size f
  outer := outer
  stack := lamE L s.heap.objs.size f :: outer
  ex := []
  fn := fun _ => false
  calm := true
  pn := []
  xe := fun e s' => wpAny (model P w) (A.deeper (lamE L s.heap.objs.size f)) (leaving (lamE L s.heap.objs.size f) e) (fun _ s'' => L2.CX P w outer H s E e s'') (fun e' s'' => L2.CX P w outer H s E e' s'') s'
/-- a lambda that captures nothing: tl is what its body is worth -/
structure LamOk (P : Program) (w : World) (K : PySem.W.Frag) (mg : Str → Option Value) (base : Heap) (k : Nat) (L : LF) (tl : XK → Hp → VK → Prop) : Prop where
  kind : L.scope.kind = .function
  co : L.scope.isCoroutine = false
  gen : L.scope.isGenerator = false
  own : ∀ y ∈ L.scope.names, y.2 ≠ .local ∧ y.2 ≠ .cell ∧ y.2 ≠ .free
  cl : L.cl = []
  bind : ∀ pm ctv : Value, bindArgs (PySem.W.kla_fn "<lambda>" L.qual L.params L.body L.scope L.cl pm (.ref L.c) ctv) ⟨[], []⟩ = pure []
  body : ∀ (A : Around) (outer : List Env) (s : Shared) (H : Hp) (E : XK) (f : Addr), Room k (A.deeper (lamE L s.heap.objs.size f)) → PE (lamC P w K mg base A outer s H E L f) L.body (fun _ H' Q => tl E H' Q)

section
variable {P : Program} {w : World} {K : PySem.W.Frag} {mg : Str → Option Value} {base : Heap}
theorem lam_begin {A : Around} {outer : List Env} {s1 : Shared} {HZ : Hp} {E : XK} {L : LF} {f : Addr} {h₁ : Heap} {tk : Nat} (kind : L.scope.kind = .function) (own : ∀ y ∈ L.scope.names, y.2 ≠ .local ∧ y.2 ≠ .cell ∧ y.2 ≠ .free) (hcl : L.cl = []) (e0 : Env0 P w K mg base A outer s1 HZ) (hd : A.handled = none)
    (hns : h₁.Ns s1.heap.objs.size fun y => ([] : List (Str × Value)).reverse.lookup y) (kp : ∀ b o, s1.heap.get? b = some o → h₁.get? b = some o) :
    Inv (lamC P w K mg base A outer s1 HZ E L f) [] [] HZ { s1 with heap := h₁, toks := tk } := by
  have nocl : ∀ {y : Str} {c : Addr}, (lamE L s1.heap.objs.size f).cells.lookup y = some c → False := fun {y c} e => by
    have e : L.cl.lookup y = some c := e
    rw [hcl] at e
    cases e
  have noA : ∀ b : Addr, b ∉ (lamC P w K mg base A outer s1 HZ E L f).ex := fun b z => absurd (show b ∈ ([] : List Addr) from z) (by simp)
  refine ⟨⟨e0.mod, kind, rfl, rfl, Nat.le_refl _, fun y z c e1 e2 => (nocl e1).elim, fun y hy => ?_, fun y c z _ => ?_, fun _ => hd, Around.frames_deeper e0.frames, .inr ⟨rfl, rfl⟩, fun b z => absurd z (noA b), e0.bs, e0.bsz, fun b _ _ => noA b,
      fun b z => absurd z (noA b), e0.funs, e0.frf⟩,
    rfl, e0.bare, Un.kept kp, ⟨_, hns, fun i y v e1 e2 e3 => ?_⟩, fun y c e => (nocl e).elim, e0.hok.fresh (Nat.le_refl _), fun y c e => (nocl e).elim, fun q hq => absurd (show q ∈ ([] : List (Addr × Obj)) ++ [] from hq) (by simp), e0.hok.kept kp, rfl⟩
  · have hy : L.scope.names.lookup y = some .cell ∨ L.scope.names.lookup y = some .free := hy
    rcases hy with hy | hy
    · exact absurd rfl (own _ (PySem.mem_of_lookup hy)).2.1
    · exact absurd rfl (own _ (PySem.mem_of_lookup hy)).2.2
  · have z : false = true := z
    cases z
  · have e1 : ([] : List Str)[i]? = some y := e1
    simp at e1
end
/-- what()  -/
def tAct (P : Program) (w : World) (K : PySem.W.Frag) (mg : Str → Option Value) (base : Heap) (k i : Nat) (E : XK) : TE := fun σ H Q => ∃ f L tl, σ[i]? = some (some (.ref f)) ∧ H f = some (LamO f L) ∧ H L.c = some (CodeO L.c L.qual) ∧ LamOk P w K mg base k L tl ∧ tl E H Q
section
variable {Z : Cx}
theorem pe_act {k i : Nat} {a : Str} {E : XK} {p1 p2 : Pos} (hx : Passes (L2.CX Z.prog Z.w) Z E) (hr : Room (k + 1) Z.A) (hN : Z.N[i]? = some a) (hv : Vis Z.env.scope a) (hd : (a == ("__debug__" : Str)) = false := by decide) (hcd : (a == ("__classdict__" : Str)) = false := by decide) :
    PE Z (.Call (.Name a p1) [] [] p2) (tAct Z.prog Z.w Z.K Z.mg Z.base k i E) := by
  refine ⟨fun pinsZ sZ σZ HZ Q IZ h => ?_⟩
  obtain ⟨f, L, tl, hs, hf, hc, ok, ht⟩ := h
  refine wpAny_Call_Name_kw (thn ((pe_var (pos := p1) (i := i) hN hv hd hcd).run pinsZ sZ σZ HZ (fun v H1 => v = .ref f ∧ H1 = HZ) IZ ⟨.ref f, hs, rfl, rfl⟩) fun u s1 ⟨v, H1, I1, r1, ev, eH⟩ => ?_)
  subst ev
  rw [eH] at I1
  obtain rfl : u = Value.ref f := r1
  obtain ⟨pm, ctv, of1⟩ := lamO_at I1.hok hf
  refine PySem.W.callWith_F0 ⟨_, _, _, _, of1⟩ ?_
  obtain ⟨⟨oc, vs, t, hoc, hdc, hvc⟩, _, _⟩ := I1.hok L.c _ hc
  have rc : codeAny (model Z.prog Z.w) Z.A (.call (.ref f) ⟨[], []⟩) (CR (L2.CX Z.prog Z.w) Z.stack Z.prog Z.w HZ s1 Q E) s1 := by
    refine PySem.W.kla_callFunE hr.depth of1 rfl ok.co ok.gen rfl ⟨L.c, oc, vs, t, rfl, hoc, hdc, hvc⟩ ?_
    rw [ok.bind]
    refine wpAny_pure (wpAny_newFunctionEnv (fun y hy => (ok.own y hy).2.1) (fun y hy => absurd hy (by simp)) (fun h₁ hns hsb => ⟨I1.nolimit.fresh _ hsb, ?_⟩) ok.kind)
    have kp : ∀ b o, s1.heap.get? b = some o → h₁.get? b = some o := fun b o e => hsb.extBut b o (Nat.ne_of_lt (Heap.lt_size e)) (Heap.get?_push_of_some _ e)
    have J : Inv (lamC Z.prog Z.w Z.K Z.mg Z.base Z.A Z.stack s1 HZ E L f) [] [] HZ { s1 with heap := h₁, toks := s1.toks + ([] : List (Str × Value)).length } :=
      lam_begin ok.kind ok.own ok.cl I1.env0 hr.hd hns kp
    refine PySem.W.kla_codeExpr (wpAny_mono ((ok.body _ _ s1 HZ E f (hr.deeper _)).run [] _ _ HZ Q J ht) (fun v s' hq => ?_) fun e s' hq => hq)
    obtain ⟨w', H', J', rv, q⟩ := hq
    exact ⟨w', H', J'.os, J'.bare, J'.base, J'.hok, rv, q⟩
  refine wpAny_call (codeAny_mono rc fun r s' hq => ?_)
  cases r with
  | error e => exact hx pinsZ σZ HZ s1 e s' I1 hq
  | ok fl =>
    cases fl with
    | ret u => exact I1.after hq
    | next => exact False.elim hq
    | brk => exact False.elim hq
    | cont => exact False.elim hq
end
end LX

set_option maxRecDepth 100000
set_option maxHeartbeats 4000000
namespace XT
open PySem PySem.Spec PyProof.Rows L2
section
variable {X : Cx} {a b c d : Expr} {ta tb tc td : TE} {pos : Pos}
/-- a op1 b op2 c op3 d as a test -/
def tChain3 (r r' r'' : R2) (ta tb tc td : TE) : TT := fun σ H Q => ta σ H fun x H1 => tb σ H1 fun y H2 => r x y H2 fun z H3 => ∃ k, z = .bl k ∧
  (if k = true then tc σ H3 fun u H4 => r' y u H4 fun z' H5 => ∃ k', z' = .bl k' ∧ (if k' = true then td σ H5 fun w' H6 => r'' u w' H6 fun z'' H7 => ∃ k'', z'' = .bl k'' ∧ Q k'' H7 else Q false H5) else Q false H3)
theorem pt_chain3 {op op' op'' : CmpOp} {r r' r'' : R2} (ho : OpR X (compareOp op) r) (ho' : OpR X (compareOp op') r') (ho'' : OpR X (compareOp op'') r'') (ha : PE X a ta) (hb : PE X b tb) (hc : PE X c tc) (hd : PE X d td)
    (hm : lastMarks [op, op', op''] [b, c, d] = false := by with_unfolding_all rfl) : PT X (.Compare a [op, op', op''] [b, c, d] pos) (tChain3 r r' r'' ta tb tc td) := by
  refine ⟨fun pins s σ H Q I h => ?_⟩
  refine isTrue_chain (thn (ha.run pins s σ H _ I h) fun v s1 ⟨x, H1, I1, r1, q1⟩ => test_link (thn (hb.run pins s1 σ H1 _ I1 q1) fun u s2 ⟨y, H2, I2, r2, q2⟩ =>
    thn (ho pins s2 σ H2 x y v u _ I2 r1 r2 q2) fun e s3 ⟨z, H3, I3, r3, k, ez, q3⟩ => ?_)) hm
  subst ez
  cases r3
  refine wpAny_truthy_bool ?_
  cases k with
  | false => exact ite_ff ⟨H3, I3, q3⟩
  | true =>
    refine ite_tt (test_link (thn (hc.run pins s3 σ H3 _ I3 q3) fun u2 s4 ⟨y2, H4, I4, r4, q4⟩ => thn (ho' pins s4 σ H4 y y2 u u2 _ I4 r2 r4 q4) fun e2 s5 ⟨z2, H5, I5, r5, k2, ez2, q5⟩ => ?_))
    subst ez2
    cases r5
    refine wpAny_truthy_bool ?_
    cases k2 with
    | false => exact ite_ff ⟨H5, I5, q5⟩
    | true =>
      refine ite_tt (test_last (thn (hd.run pins s5 σ H5 _ I5 q5) fun u3 s6 ⟨y3, H6, I6, r6, q6⟩ => thn (ho'' pins s6 σ H6 y2 y3 u2 u3 _ I6 r4 r6 q6) fun e3 s7 ⟨z3, H7, I7, r7, k3, ez3, q7⟩ => ?_))
      subst ez3
      cases r7
      exact wpAny_truthy_bool ⟨H7, I7, q7⟩
end
end XT

set_option maxRecDepth 100000
set_option maxHeartbeats 4000000
namespace XT
open PySem PySem.Spec PyProof.Rows L2
/-- a small number -/
def Sm (i : Int) : Prop := -100000 ≤ i ∧ i ≤ 100000
theorem Sm.log {i : Int} (h : Sm i) : i.natAbs.log2 < 1920 := by
  have h1 : i.natAbs ≤ 100000 := by
    obtain ⟨a, b⟩ := h
    omega
  have h3 : i.natAbs < 2 ^ 20 := by omega
  by_cases h0 : i.natAbs = 0
  · rw [h0]
    decide
  · have := (Nat.log2_lt h0).mpr h3
    omega
theorem Sm.text {i : Int} (h : Sm i) : (Str.ofString (toString i)).length ≤ 1000 := by
  have h1 : i.natAbs < 10 ^ 7 := by
    obtain ⟨a, b⟩ := h
    omega
  have e := int_text_length_le10 (k := 7) (by decide) h1
  rw [PySem.ofString_length]
  omega
section
variable {X : Cx}
/-- a part of a message: written signs, or a small number's name -/
inductive MP (X : Cx) : Expr → TE → (L2.St → Prop) → Prop where
  | lit {x : Str} {j : Nat} {pos : Pos} (h : x.length ≤ 1000) : MP X (.Constant (.str x) j pos) (tC (.str x)) (fun _ => True)
  | var {e : Expr} {i : Nat} {pos : Pos} (h : PE X e (tVar i)) : MP X (.FormattedValue e (-1) none pos) (tFmt (tVar i)) (fun σ => ∃ z, σ[i]? = some (some (.int z)) ∧ Sm z)
  | txt {e : Expr} {i : Nat} {pos : Pos} (h : PE X e (tVar i)) : MP X (.FormattedValue e (-1) none pos) (tFmt (tVar i)) (fun σ => ∃ z, σ[i]? = some (some (.str z)) ∧ z.length ≤ 1000)
inductive MPs (X : Cx) : List Expr → List TE → (L2.St → Prop) → Prop where
  | nil : MPs X [] [] (fun _ => True)
  | cons {e : Expr} {t : TE} {c : L2.St → Prop} {es : List Expr} {ts : List TE} {cs : L2.St → Prop} (h : MP X e t c) (r : MPs X es ts cs) : MPs X (e :: es) (t :: ts) (fun σ => c σ ∧ cs σ)
theorem str_app_len (x y : Str) : (x ++ y).length = x.length + y.length := by
  first
    | rfl
    | exact Array.size_append
    | simp [Str.length]
theorem MP.pe {e : Expr} {t : TE} {c : L2.St → Prop} (h : MP X e t c) : PE X e t := by
  cases h with
  | lit h => exact pe_str
  | var h => exact pe_fmt h
  | txt h => exact pe_fmt h
theorem MPs.pj {es : List Expr} {ts : List TE} {cs : L2.St → Prop} (h : MPs X es ts cs) : PJ X es ts := by
  induction h with
  | nil => exact .nil
  | cons h r ih => exact .cons h.pe ih
theorem MP.go {e : Expr} {t : TE} {c : L2.St → Prop} (h : MP X e t c) {σ : L2.St} {H : Hp} {Q : V → Hp → Prop} (hc : c σ) (hQ : ∀ y : Str, y.length ≤ 1000 → Q (.str y) H) : t σ H Q := by
  cases h with
  | lit h => exact hQ _ h
  | var h =>
    obtain ⟨z, e, s⟩ := hc
    exact ⟨_, e, .inr ⟨z, rfl, s.log, hQ _ s.text⟩⟩
  | txt h =>
    obtain ⟨z, e, s⟩ := hc
    refine ⟨_, e, .inl ⟨z, rfl, ?_, hQ _ s⟩⟩
    rw [sizeLine_eq]
    omega
theorem MPs.go {es : List Expr} {ts : List TE} {cs : L2.St → Prop} (h : MPs X es ts cs) {σ : L2.St} {H : Hp} {Q : Str → Hp → Prop} : ∀ (acc : Str) (n : Nat), acc.length ≤ 1000 * n → n + es.length ≤ 100 → cs σ → (∀ out, Q out H) → tJs ts acc σ H Q := by
  induction h with
  | nil => intro acc n _ _ _ hQ; exact hQ acc
  | @cons e t c es ts cs h r ih =>
    intro acc n h1 h2 hc hQ
    obtain ⟨c1, c2⟩ := hc
    rw [List.length_cons] at h2
    refine h.go c1 fun y hy => ⟨y, rfl, ?_, ih _ (n + 1) ?_ (by omega) c2 hQ⟩
    · rw [str_app_len, sizeLine_eq]
      omega
    · rw [str_app_len]
      omega
/-- a message: its signs don't matter -/
theorem pe_msg {v1 v2 : Expr} {rest : List Expr} {ts : List TE} {cs : L2.St → Prop} {pos : Pos} (h : MPs X (v1 :: v2 :: rest) ts cs) (hl : (v1 :: v2 :: rest).length ≤ 100 := by decide) : PE X (.JoinedStr (v1 :: v2 :: rest) pos) (fun σ H Q => cs σ ∧ ∀ out : Str, Q (.str out) H) := by
  refine ⟨fun pins s σ H Q I q => ?_⟩
  obtain ⟨q1, q2⟩ := q
  exact (pe_joined h.pj).run pins s σ H Q I (h.go Str.empty 0 (Nat.zero_le _) (by omega) q1 fun out => q2 out)
end
end XT

set_option maxRecDepth 100000
set_option maxHeartbeats 4000000
namespace XT
open PySem PySem.Spec PyProof.Rows L2
open GX (LTurn QTurn STurn)
/-! ### turns that leave the heap as it is -/
theorem fm_succ {α : Type} (f : Nat → Option α) (i : Nat) : (List.range (i + 1)).filterMap f = (List.range i).filterMap f ++ (f i).toList := by
  rw [List.range_succ, List.filterMap_append]
  cases h : f i with
  | none => simp [h]
  | some y => simp [h]
theorem fm_len {α : Type} (f : Nat → Option α) (i : Nat) : ((List.range i).filterMap f).length ≤ i := by
  have := List.length_filterMap_le f (List.range i)
  rw [List.length_range] at this
  exact this
theorem lturn_pure {J : It} {gt : TG} {tt : TT} {te : TE} {σ0 : L2.St} {vs : List Nat} {cont : List V → Hp → Prop} {H2 : Hp} (n : Nat) (f : Nat → Option V) (hn : n ≤ sizeLine) (hgo : ∀ i, i < n → J.go i H2) (hstop : J.stop n H2)
    (hstep : ∀ i, i < n → ∀ x H', J.yld i H2 x H' → ∀ (ys : List V) (Nx : List V → Hp → Prop), ys.length < sizeLine → Nx (ys ++ (f i).toList) H2 →
      gt x (wipe σ0 vs) H' fun σ2 H3 => wipe σ2 vs = wipe σ0 vs ∧ tt σ2 H3 fun b H4 => if b = true then te σ2 H4 fun y H5 => ys.length < sizeLine ∧ Nx (ys ++ [y]) H5 else Nx ys H4)
    (hcont : cont ((List.range n).filterMap f) H2) : ∃ W : Nat → Nat → List V → Hp → Prop, (∃ m, W 0 m [] H2) ∧ LTurn J gt tt te σ0 vs cont W := by
  refine ⟨fun i m ys H => i + m = n ∧ H = H2 ∧ ys = (List.range i).filterMap f, ⟨n, Nat.zero_add n, rfl, rfl⟩, fun i m ys H hw => ?_⟩
  obtain ⟨e, rfl, rfl⟩ := hw
  by_cases hi : i < n
  · refine .inr ⟨hgo i hi, fun ys' H' => H' = H ∧ ys' = (List.range (i + 1)).filterMap f, fun ys' H' z => ⟨m - 1, by omega, by omega, z.1, z.2⟩, fun x H' hy => ?_⟩
    have hl : ((List.range i).filterMap f).length < sizeLine := Nat.lt_of_lt_of_le (Nat.lt_of_le_of_lt (fm_len f i) hi) hn
    exact hstep i hi x H' hy _ (fun ys' H' => H' = H ∧ ys' = (List.range (i + 1)).filterMap f) hl (by exact ⟨rfl, (fm_succ f i).symm⟩)
  · have ei : i = n := by omega
    subst ei
    exact .inl ⟨hstop, hcont⟩
theorem qturn_pure {t : Bool} {J : It} {gt : TG} {tt : TT} {te : TE} {σ0 : L2.St} {vs : List Nat} {Q : VK} {H2 : Hp} (n : Nat) (f : Nat → Bool) (hgo : ∀ i, i < n → J.go i H2) (hstop : J.stop n H2)
    (hstep : ∀ i, i < n → ∀ x H', J.yld i H2 x H' → ∀ Nx : Hp → Prop, (f i = t → Nx H2) → (f i ≠ t → Q (.bl (!t)) H2) →
      gt x (wipe σ0 vs) H' fun σ2 H3 => wipe σ2 vs = wipe σ0 vs ∧ tt σ2 H3 fun b H4 => if b = true then te σ2 H4 fun y H5 => ∃ k, y = .bl k ∧ (if k = t then Nx H5 else Q (.bl (!t)) H5) else Nx H4)
    (h1 : (∀ i, i < n → f i = t) → Q (.bl t) H2) (h2 : (∃ i, i < n ∧ f i ≠ t) → Q (.bl (!t)) H2) : ∃ W : Nat → Nat → Hp → Prop, (∃ m, W 0 m H2) ∧ QTurn t J gt tt te σ0 vs Q W := by
  refine ⟨fun i m H => i + m = n ∧ H = H2 ∧ ∀ j, j < i → f j = t, ⟨n, Nat.zero_add n, rfl, fun j hj => absurd hj (Nat.not_lt_zero j)⟩, fun i m H hw => ?_⟩
  obtain ⟨e, rfl, hf⟩ := hw
  by_cases hi : i < n
  · refine .inr ⟨hgo i hi, fun H' => H' = H ∧ f i = t, fun H' z => ⟨m - 1, by omega, by omega, z.1, fun j hj => ?_⟩, fun x H' hy => ?_⟩
    · by_cases hj2 : j < i
      · exact hf j hj2
      · have ej : j = i := by omega
        rw [ej]
        exact z.2
    · exact hstep i hi x H' hy (fun H' => H' = H ∧ f i = t) (fun z => by exact ⟨rfl, z⟩) fun z => h2 ⟨i, hi, z⟩
  · have ei : i = n := by omega
    subst ei
    exact .inl ⟨hstop, h1 hf⟩
def sumN (f : Nat → Int) : Nat → Int
  | 0 => 0
  | n + 1 => sumN f n + f n
theorem sturn_pure {J : It} {gt : TG} {tt : TT} {te : TE} {σ0 : L2.St} {vs : List Nat} {Q : VK} {H2 : Hp} (n : Nat) (f : Nat → Int) (hb : ∀ i, i < n → InLong (f i) ∧ InLong (sumN f i + f i)) (hgo : ∀ i, i < n → J.go i H2) (hstop : J.stop n H2)
    (hstep : ∀ i, i < n → ∀ x H', J.yld i H2 x H' → ∀ (t : Int) (Nx : Int → Hp → Prop), InLong (f i) → InLong (t + f i) → Nx (t + f i) H2 →
      gt x (wipe σ0 vs) H' fun σ2 H3 => wipe σ2 vs = wipe σ0 vs ∧ tt σ2 H3 fun b H4 => if b = true then te σ2 H4 fun y H5 => ∃ j, y = .int j ∧ InLong j ∧ InLong (t + j) ∧ Nx (t + j) H5 else Nx t H4)
    (hQ : Q (.int (sumN f n)) H2) : ∃ W : Nat → Nat → Int → Hp → Prop, (∃ m, W 0 m 0 H2) ∧ STurn J gt tt te σ0 vs Q W := by
  refine ⟨fun i m t H => i + m = n ∧ H = H2 ∧ t = sumN f i, ⟨n, Nat.zero_add n, rfl, rfl⟩, fun i m t H hw => ?_⟩
  obtain ⟨e, rfl, rfl⟩ := hw
  by_cases hi : i < n
  · refine .inr ⟨hgo i hi, fun t' H' => H' = H ∧ t' = sumN f (i + 1), fun t' H' z => ⟨m - 1, by omega, by omega, z.1, z.2⟩, fun x H' hy => ?_⟩
    exact hstep i hi x H' hy _ (fun t' H' => H' = H ∧ t' = sumN f (i + 1)) (hb i hi).1 (hb i hi).2 (by exact ⟨rfl, rfl⟩)
  · have ei : i = n := by omega
    subst ei
    exact .inl ⟨hstop, hQ⟩
/-- a comprehension whose turns leave the heap as it is but for the list -/
theorem lc_pure {J : It} {g : TG} {tt : TT} {te : TE} {vs : List Nat} {σ : L2.St} {H1 : Hp} {D : Addr} {Qd : Hp → Prop} (n : Nat) (f : Nat → Option V) (hn : n ≤ sizeLine) (hgo : ∀ i acc, i < n → J.go i (upd H1 D (.lst acc))) (hstop : ∀ acc, J.stop n (upd H1 D (.lst acc)))
    (hstep : ∀ i acc, i < n → ∀ x H', J.yld i (upd H1 D (.lst acc)) x H' → ∀ Nx : Hp → Prop, acc.length < sizeLine → Nx (upd H1 D (.lst (acc ++ (f i).toList))) →
      g x (wipe σ vs) H' fun σ2 H2 => wipe σ2 vs = wipe σ vs ∧ tt σ2 H2 fun b H3 => if b = true then te σ2 H3 fun y H4 => ∃ acc, H4 D = some (.lst acc) ∧ acc.length < sizeLine ∧ Nx (upd H4 D (.lst (acc ++ [y]))) else Nx H3)
    (hQ : Qd (upd H1 D (.lst ((List.range n).filterMap f)))) :
    ∃ W : Nat → Nat → Hp → Prop, (∃ m, W 0 m (upd H1 D (.lst []))) ∧ ∀ i m H, W i m H → (J.stop i H ∧ Qd H) ∨ (J.go i H ∧ ∃ Nx : Hp → Prop, (∀ H', Nx H' → ∃ m', m' < m ∧ W (i + 1) m' H') ∧ ∀ x H', J.yld i H x H' → g x (wipe σ vs) H' fun σ2 H2 => wipe σ2 vs = wipe σ vs ∧ tt σ2 H2 fun b H3 =>
      if b = true then te σ2 H3 fun y H4 => ∃ acc, H4 D = some (.lst acc) ∧ acc.length < sizeLine ∧ Nx (upd H4 D (.lst (acc ++ [y]))) else Nx H3) := by
  refine ⟨fun i m H => i + m = n ∧ H = upd H1 D (.lst ((List.range i).filterMap f)), ⟨n, Nat.zero_add n, rfl⟩, fun i m H hw => ?_⟩
  obtain ⟨e, rfl⟩ := hw
  by_cases hi : i < n
  · have hl : ((List.range i).filterMap f).length < sizeLine := Nat.lt_of_lt_of_le (Nat.lt_of_le_of_lt (fm_len f i) hi) hn
    refine .inr ⟨hgo i _ hi, fun H' => H' = upd H1 D (.lst ((List.range (i + 1)).filterMap f)), fun H' z => ⟨m - 1, by omega, by omega, z⟩, fun x H' hy => ?_⟩
    exact hstep i _ hi x H' hy (fun H' => H' = upd H1 D (.lst ((List.range (i + 1)).filterMap f))) hl (by rw [fm_succ])
  · have ei : i = n := by omega
    subst ei
    exact .inl ⟨hstop _, hQ⟩
/-- the walks over ranges, texts, tuples, lists that stand still -/
theorem fm_all {α β : Type} (xs : List α) (f : α → Option β) : (List.range xs.length).filterMap (fun (i : Nat) => (xs[i]?).bind f) = xs.filterMap f := by
  induction xs with
  | nil => rfl
  | cons x r ih =>
    rw [List.length_cons, List.range_succ_eq_map, List.filterMap_cons, List.filterMap_map, List.filterMap_cons]
    have e : ((fun i => ((x :: r)[i]?).bind f) ∘ Nat.succ) = fun (i : Nat) => (r[i]?).bind f := by
      funext i
      simp
    rw [e, ih]
    simp
theorem fm_map {α β : Type} (xs : List α) (f : α → β) : (List.range xs.length).filterMap (fun (i : Nat) => (xs[i]?).map f) = xs.map f := by
  have h := fm_all xs (fun x => some (f x))
  have e : (fun (i : Nat) => (xs[i]?).bind fun x => some (f x)) = fun (i : Nat) => (xs[i]?).map f := by
    funext i
    cases xs[i]? <;> rfl
  rw [e] at h
  rw [h]
  simp
theorem fm_some {β : Type} (n : Nat) (f : Nat → β) : (List.range n).filterMap (fun i => some (f i)) = (List.range n).map f := by simp
end XT

set_option maxRecDepth 100000
set_option maxHeartbeats 4000000
namespace LX
open PySem PySem.Spec PyProof.Rows L2
open LamX (CodeO TabS Tabs ExtN inv_table codeO_ne among_app LamS GivesTo lamCx lamEnv)
section
variable {X : Cx} {pins : List (Addr × Obj)} {σ : L2.St} {H : Hp} {s : Shared}
theorem lam_raw {T : List (Addr × Str)} {c P : Addr} {params : Arguments} {body : Expr} {scope : Scope} {pos : Pos} {E : Value → Shared → Prop} {Q : Value → Shared → Prop} (I : Inv X pins σ H s) (TB : LamX.TabB X.base X.mg c P) (hcode : X.env.code = .ref c)
    (hm : (P, X.env.qual ++ "<lambda>") ∈ T) (hu : ∀ p ∈ T, p.1 = P → p.2 = X.env.qual ++ "<lambda>") (hT : Tabs T H) (hdef : defaultsOf params X.env = ([], [])) (hfree : ∀ y ∈ scope.names, y.2 = .free → ∃ c, X.env.cells.lookup y.1 = some c)
    (h : ∀ (f c' : Addr) (pm ctv : Value) (H1 : Hp) (s' : Shared), Inv X pins σ H1 s' → ExtN H H1 → Tabs T H1 → s'.heap.get? f = some (PySem.W.kla_obj "<lambda>" (X.env.qual ++ "<lambda>") params body scope (cloFrom X.env.cells scope.names []) pm c' ctv) → H1 f = none → f ∉ frs X.stack → H1 c' = some (CodeO c' (X.env.qual ++ "<lambda>")) →
      (∀ b o, b ≠ P → H b = some o → H1 b = some o) → Q (.ref f) s') :
    wpAny (model X.prog X.w) X.A (eval (.Lambda params body scope pos) X.env) Q E s := by
  have nofr : ∀ f, s.heap.objs.size ≤ f → f ∉ frs X.stack := fun f hf z => (List.mem_cons.mp (I.stkSub _ z)).elim (fun e => by
    have q := I.lt
    rw [← e] at q
    exact absurd (Nat.lt_of_lt_of_le q hf) (Nat.lt_irrefl _)) fun e => I.nofs hf e
  obtain ⟨ps, hP, ht, ha⟩ := hT _ hm
  refine PySem.W.kla_eval hdef ?_
  have bP : s.heap.BuiltinsAt X.mg P := TB.bm.keeps I.bk
  have hP' : s.heap.get? P = some { cls := .none, data := .fields ps } := I.hok P _ hP
  have back : ∀ {H : Hp} {a b : Addr} {o : HO}, upd H a o b = none → H b = none := fun {H a b o} e => by
    unfold upd at e
    split at e
    · cases e
    · exact e
  cases hc : codeAmong pos ps.toList with
  | none =>
    refine PySem.W.kla_makeFunction (mg := X.mg) (c := c) (P := P) (ps := ps) (closure_ok hfree) I.ok.glob (I.mod.glob.keeps I.bk) hcode (TB.code.keeps I.bk) hP' ht hc TB.gP bP fun c' ctv h' tk hx hge hlt hrec htb => ?_
    obtain ⟨c2, oc, vs, t, e2, hoc, hd, hv⟩ := hrec
    cases e2
    have nC : H c' = none := I.hok.fresh hge
    have I1 := inv_table (t' := tk) (more := #[rawInt pos.line, rawInt pos.col, .ref c']) (h' := h') I hP (fun b o hb e => hx b o hb e) htb hge ⟨oc, vs, t, hoc, hd, hv⟩
    have eL : (ps ++ #[rawInt pos.line, rawInt pos.col, .ref c']).toList = ps.toList ++ [rawInt pos.line, rawInt pos.col, .ref c'] := by simp
    have hE : ExtN H (upd (upd H P (.tbl (ps ++ #[rawInt pos.line, rawInt pos.col, .ref c']))) c' (CodeO c' (X.env.qual ++ "<lambda>"))) := fun b o e n => by
      rw [upd_ne (ne_of_none e nC), upd_ne (fun z => n ps (Option.some.inj (e.symm.trans (by rw [z]; exact hP))))]
      exact e
    have T1 : Tabs T (upd (upd H P (.tbl (ps ++ #[rawInt pos.line, rawInt pos.col, .ref c']))) c' (CodeO c' (X.env.qual ++ "<lambda>"))) := fun p hp => by
      by_cases hb : p.1 = P
      · rw [hu p hp hb, hb]
        refine ⟨_, by rw [upd_ne (ne_of_none hP nC), upd_same], by rw [eL]; exact PySem.TriplesOk_snoc _ _ _ _ ht, fun p' cv hcv => ?_⟩
        rw [eL] at hcv
        rcases among_app _ ht hcv with z | z
        · obtain ⟨c0, e1, e2⟩ := ha p' cv z
          exact ⟨c0, e1, hE _ _ e2 codeO_ne⟩
        · exact ⟨c', z, upd_same⟩
      · obtain ⟨ps', a1, a2, a3⟩ := hT p hp
        refine ⟨ps', by rw [upd_ne (ne_of_none a1 nC), upd_ne hb]; exact a1, a2, fun p' cv hcv => ?_⟩
        obtain ⟨c0, e1, e2⟩ := a3 p' cv hcv
        exact ⟨c0, e1, hE _ _ e2 codeO_ne⟩
    have nF := I1.hok.fresh (Nat.le_refl _)
    refine h h'.objs.size c' ((X.mg "__name__").getD .none) ctv _ _ (I1.kept (t' := tk) fun b o e => Heap.get?_push_of_some _ e) hE T1 (Heap.get?_push_size _ rfl) nF (nofr _ (Nat.le_trans hge (Nat.le_of_lt hlt))) upd_same fun b o nb e => ?_
    rw [upd_ne (ne_of_none e nC), upd_ne nb]
    exact e
  | some cv =>
    obtain ⟨c', e, hco⟩ := ha pos cv hc
    subst e
    refine PySem.W.kla_makeFunctionHit (mg := X.mg) (c := c) (P := P) (ps := ps) (closure_ok hfree) I.ok.glob (I.mod.glob.keeps I.bk) hcode (TB.code.keeps I.bk) hP' ht hc bP fun ctv h' tk hx hsz => ?_
    have I1 : Inv X pins σ H { s with heap := h', toks := tk } := I.kept hx
    have nF : H h'.objs.size = none := I1.hok.fresh (Nat.le_refl _)
    exact h h'.objs.size c' ((X.mg "__name__").getD .none) ctv _ _ (I1.kept (t' := tk) fun b o e => Heap.get?_push_of_some _ e) (ExtN.refl H) hT (Heap.get?_push_size _ rfl) nF (nofr _ hsz) hco fun b o _ e => e

end
/-- x(lambda: ..): what the lambda is worth is told of the heap behind its making -/
def tLam3 (T : List (Addr × Str)) (P : Addr) (TT : (XK → Hp → VK → Prop) → Hp → VK → Prop) (t : XK → TE) : TE := fun σ H Q => Tabs T H ∧ ∀ H1, ExtN H H1 → Tabs T H1 → (∀ b o, b ≠ P → H b = some o → H1 b = some o) → TT (fun E H' Q' => t E σ H' Q') H1 Q
section
variable {X : Cx}
theorem pe_lamcall3 {T : List (Addr × Str)} {TT : (XK → Hp → VK → Prop) → Hp → VK → Prop} {x a : Str} {g c P : Addr} {k : Nat} {st : Stmt} {fd : FuncData} {Ng : List Str} {params : Arguments} {body : Expr} {scope : Scope} {t : XK → TE} {p lpos pos : Pos} (hg : Gl X x) (hm : X.mg x = some (.ref g)) (F : Fun X.K x x st g fd) (bd : L2.Binds X.K fd [a] []) (Sg : FnScope Ng [a] (defScope st)) (at0 : Ng[0]? = some a) (vis : Vis (defScope st) a)
    (gives : ∀ cdv, GivesTo X Ng x (defScope st) g cdv (defBody st) a (X.env.qual ++ "<lambda>") TT) (TB : LamX.TabB X.base X.mg c P) (isC : X.env.code = .ref c) (inT : (P, X.env.qual ++ "<lambda>") ∈ T) (only : ∀ p ∈ T, p.1 = P → p.2 = X.env.qual ++ "<lambda>") (room : Room (k + 2) X.A) (L : LamS X.env.scope scope) (nodef : defaultsOf params X.env = ([], []))
    (binds : ∀ (q : Str) (cl : List (Str × Addr)) (pm cv ctv : Value), bindArgs (PySem.W.kla_fn "<lambda>" q params body scope cl pm cv ctv) ⟨[], []⟩ = pure [])
    (worth : ∀ (A : Around) (outer : List Env) (s : Shared) (H : Hp) (E : XK) (f c' : Addr), Room k (A.deeper (lamEnv X scope s.heap.objs.size f c')) → PE (lamCx X A outer s H E scope f c') body (t E))
    (nb : (x == ("__debug__" : Str)) = false := by decide) (nb2 : (a == ("__debug__" : Str)) = false := by decide) (nb3 : (a == ("__classdict__" : Str)) = false := by decide) : PE X (.Call (.Name x p) [.Lambda params body scope lpos] [] pos) (tLam3 T P TT t) := by
  obtain ⟨oc, od, kV, doc, pm, an, cdv, ct, osl, rfl, lk, hcd⟩ := F.ex
  refine ⟨fun pins s σ H Q I h => ?_⟩
  obtain ⟨tabs, told⟩ := h
  refine wpAny_Call_Name_kw (ld_glob I hg hm (PySem.W.callWith_K (h₀ := X.base) I.ok.mod.kin F.kp ?_ (by rfl) (by rfl)) nb)
  show wpAny _ _ (spliced ((false, eval (.Lambda params body scope lpos) X.env) :: backTo pos (starEach [] X.env))) _ _ s
  refine Calls.spliced_cons (lam_raw I TB isC inT only tabs nodef (L.has I.ok) fun l c' pm' ctv G u J eN tabs1 hl ln lfr lco kp => Calls.spliced_nil ⟨J.kIn, ?_⟩)
  have run : codeAny (model X.prog X.w) X.A (.call (.ref g) ⟨[.ref l], []⟩) (CR C8.CX0 X.stack X.prog X.w G u Q C8.E0) u := by
    refine LamX.run_ofS (N := Ng) (ps := [a]) (us := [.ref l]) (vs := [.ref l]) lk hcd Sg room J.env0 (bd u [.ref l] J.kIn rfl) (.cons rfl .nil) rfl fun room' => ?_
    obtain ⟨t', ht', hq'⟩ := gives cdv l c' u G Q (fun E G' Q' => t E σ G' Q') (fun W pn xe E p1 p2 tk hW => LamX.pe_act (i := 0) J L hl ln lfr (binds _ _ _ _ _) tk hW room' (fun A outer s H r2 => worth A outer s H E l c' r2) at0 vis nb2 nb3) lco (told G eN tabs1 kp)
    exact ⟨t', ht'.nox, hq'⟩
  refine wpAny_call (codeAny_mono run fun r u2 hq => ?_)
  rcases r with e | fl
  · exact (show False from hq).elim
  cases fl with
  | ret u => exact J.after hq
  | _ => exact False.elim hq
end
end LX

set_option maxRecDepth 100000
set_option maxHeartbeats 4000000
/-! laying keys in a bare table of a set never fails -/
namespace SD
open PySem PySem.Spec PyProof.Rows L2
def nxt (m : Nat) (x : Nat × Nat) : Nat × Nat := ((x.1 * 5 + 1 + x.2 / 32) % (m + 1), x.2 / 32)
def pos (m : Nat) (x : Nat × Nat) : Nat → Nat × Nat
  | 0 => x
  | k + 1 => pos m (nxt m x) k
theorem free_none (owner : Array (Option Nat)) (m : Nat) : ∀ (fuel i p : Nat), SetTable.layClean.free m owner fuel i p = none → ∀ k < fuel, (owner.getD (pos m (i, p) k).1 (some 0)).isNone = false
  | 0, _, _, _, k, h => absurd h (Nat.not_lt_zero k)
  | fuel + 1, i, p, e, k, hk => by
    unfold SetTable.layClean.free at e
    split at e
    · cases e
    · rename_i hf
      have e : SetTable.layClean.free m owner fuel ((i * 5 + 1 + p / 32) % (m + 1)) (p / 32) = none := e
      cases k with
      | zero =>
        have h0 := List.find?_eq_none.mp hf 0 (List.mem_range.mpr (by unfold SetTable.runEnd; split <;> omega))
        show (owner.getD i (some 0)).isNone = false
        simp only [Nat.add_zero, Bool.not_eq_true] at h0
        exact h0
      | succ k => exact free_none owner m fuel _ _ e k (by omega)
theorem free_some (owner : Array (Option Nat)) (m : Nat) : ∀ (fuel i p r : Nat), SetTable.layClean.free m owner fuel i p = some r → (owner.getD r (some 0)).isNone = true
  | 0, _, _, _, e => by unfold SetTable.layClean.free at e; cases e
  | fuel + 1, i, p, r, e => by
    unfold SetTable.layClean.free at e
    split at e
    · rename_i k hf
      cases e
      have := List.find?_some hf
      exact this
    · have e : SetTable.layClean.free m owner fuel ((i * 5 + 1 + p / 32) % (m + 1)) (p / 32) = some r := e
      exact free_some owner m fuel _ _ r e
theorem pos_succ (m : Nat) : ∀ (k : Nat) (x : Nat × Nat), pos m x (k + 1) = nxt m (pos m x k)
  | 0, x => rfl
  | k + 1, x => pos_succ m k (nxt m x)
theorem pos_add (m : Nat) : ∀ (a b : Nat) (x : Nat × Nat), pos m x (a + b) = pos m (pos m x a) b
  | 0, b, x => by rw [Nat.zero_add]; rfl
  | a + 1, b, x => by rw [Nat.add_right_comm]; exact pos_add m a b (nxt m x)
theorem pos_snd (m : Nat) : ∀ (k : Nat) (x : Nat × Nat), (pos m x k).2 = x.2 / 32 ^ k
  | 0, x => by simp [pos]
  | k + 1, x => by
    rw [pos_succ]
    show (pos m x k).2 / 32 = _
    rw [pos_snd m k x, Nat.div_div_eq_div_mul, Nat.pow_succ]
theorem pos_fst (m : Nat) (k : Nat) (x : Nat × Nat) : (pos m x (k + 1)).1 ≤ m := by
  rw [pos_succ]
  exact Nat.le_of_lt_succ (Nat.mod_lt _ (Nat.succ_pos m))
/-- with no perturb left every slot is met -/
def Full (m : Nat) : Prop := ∀ i, i < m + 1 → ∀ j, j < m + 1 → ∃ k, k < m + 1 ∧ (pos m (i, 0) k).1 = j
theorem full7 : Full 7 := by unfold Full; decide +kernel
theorem full15 : Full 15 := by unfold Full; decide +kernel
theorem full31 : Full 31 := by unfold Full; decide +kernel
theorem free_is {m : Nat} (F : Full m) (owner : Array (Option Nat)) (h : Int) (j : Nat) (hj : j < m + 1) (e : owner.getD j (some 0) = none) :
    ∃ r, SetTable.layClean.free m owner (SetTable.turns m) (SetTable.bits h % (m + 1)) (SetTable.bits h) = some r ∧ owner.getD r (some 0) = none := by
  cases q : SetTable.layClean.free m owner (SetTable.turns m) (SetTable.bits h % (m + 1)) (SetTable.bits h) with
  | some r => exact ⟨r, rfl, by have := free_some _ _ _ _ _ _ q; simpa using this⟩
  | none =>
    exfalso
    have hb : SetTable.bits h < 2 ^ 64 := by
      unfold SetTable.bits
      have h1 := Int.emod_nonneg h (show (2 ^ 64 : Int) ≠ 0 by decide)
      have h2 := Int.emod_lt_of_pos h (show (0 : Int) < 2 ^ 64 by decide)
      omega
    have h13 : (pos m (SetTable.bits h % (m + 1), SetTable.bits h) 13).2 = 0 := by
      rw [pos_snd]
      exact Nat.div_eq_of_lt (Nat.lt_of_lt_of_le hb (by decide))
    have h14 : (pos m (SetTable.bits h % (m + 1), SetTable.bits h) 13).1 ≤ m := pos_fst m 12 (SetTable.bits h % (m + 1), SetTable.bits h)
    obtain ⟨k, hk, ek⟩ := F (pos m (SetTable.bits h % (m + 1), SetTable.bits h) 13).1 (by omega) j hj
    have h15 := free_none owner m _ _ _ q (13 + k) (by unfold SetTable.turns; omega)
    rw [pos_add] at h15
    have e2 : pos m (SetTable.bits h % (m + 1), SetTable.bits h) 13 = ((pos m (SetTable.bits h % (m + 1), SetTable.bits h) 13).1, 0) := by rw [← h13]
    rw [e2, ek, e] at h15
    cases h15
theorem fm_congr {f g : Nat → Option Nat} : ∀ l : List Nat, (∀ y ∈ l, g y = f y) → l.filterMap g = l.filterMap f
  | [], _ => rfl
  | x :: r, h => by
    have h1 := h x (List.mem_cons_self ..)
    have h2 := fm_congr (f := f) (g := g) r fun y hy => h y (List.mem_cons_of_mem _ hy)
    cases q : f x with
    | none => rw [List.filterMap_cons_none (h1.trans q), List.filterMap_cons_none q, h2]
    | some y => rw [List.filterMap_cons_some (h1.trans q), List.filterMap_cons_some q, h2]
theorem fm_set {f g : Nat → Option Nat} {j k : Nat} (hg : g j = some k) (hf : f j = none) (ho : ∀ x, x ≠ j → g x = f x) : ∀ l : List Nat, l.Nodup → j ∈ l → (l.filterMap g).Perm (k :: l.filterMap f)
  | [], _, h => by cases h
  | x :: r, nd, h => by
    obtain ⟨n1, n2⟩ := List.nodup_cons.mp nd
    by_cases e : x = j
    · subst e
      have er : r.filterMap g = r.filterMap f := fm_congr r fun y hy => ho y fun z => n1 (z ▸ hy)
      rw [List.filterMap_cons_some hg, List.filterMap_cons_none hf, er]
    · have ih := fm_set hg hf ho r n2 ((List.mem_cons.mp h).resolve_left fun z => e z.symm)
      have ex := ho x e
      cases q : f x with
      | none => rw [List.filterMap_cons_none (ex.trans q), List.filterMap_cons_none q]; exact ih
      | some y =>
        rw [List.filterMap_cons_some (ex.trans q), List.filterMap_cons_some q]
        exact (ih.cons y).trans (List.Perm.swap k y _)
theorem fm_full {f : Nat → Option Nat} : ∀ l : List Nat, (∀ x ∈ l, (f x).isSome) → (l.filterMap f).length = l.length
  | [], _ => rfl
  | x :: r, h => by
    obtain ⟨y, e⟩ := Option.isSome_iff_exists.mp (h x (List.mem_cons_self ..))
    rw [List.filterMap_cons_some e, List.length_cons, List.length_cons, fm_full r fun z hz => h z (List.mem_cons_of_mem _ hz)]
/-- k keys stand in the table -/
def Own (m k : Nat) (owner : Array (Option Nat)) : Prop := owner.size = m + 1 ∧ ((List.range (m + 1)).filterMap fun j => owner.getD j none).Perm (List.range k)
theorem own_step {m k r : Nat} {owner : Array (Option Nat)} (O : Own m k owner) (e : owner.getD r (some 0) = none) : Own m (k + 1) (owner.setIfInBounds r (some k)) := by
  obtain ⟨o1, o2⟩ := O
  have lr : r < owner.size := by
    rcases Nat.lt_or_ge r owner.size with h | h
    · exact h
    · rw [Array.getD_eq_getD_getElem?, Array.getElem?_eq_none h] at e
      cases e
  refine ⟨by rw [Array.size_setIfInBounds]; exact o1, ?_⟩
  have e0 : owner.getD r none = none := by
    rw [Array.getD_eq_getD_getElem?] at e ⊢
    rw [Array.getElem?_eq_getElem lr] at e ⊢
    exact e
  refine (fm_set (j := r) (k := k) (f := fun j => owner.getD j none) ?_ e0 (fun x hx => ?_) _ List.nodup_range (List.mem_range.mpr (by omega))).trans ?_
  · simp [Array.getD_eq_getD_getElem?, Array.getElem?_setIfInBounds, lr]
  · simp [Array.getD_eq_getD_getElem?, Array.getElem?_setIfInBounds, Ne.symm hx]
  · rw [show List.range (k + 1) = List.range k ++ [k] from List.range_succ]
    exact (o2.cons k).trans (List.perm_append_singleton k _).symm
theorem own_room {m k : Nat} {owner : Array (Option Nat)} (O : Own m k owner) (h : k < m + 1) : ∃ j, j < m + 1 ∧ owner.getD j (some 0) = none := by
  obtain ⟨o1, o2⟩ := O
  by_cases q : ∃ j, j < m + 1 ∧ owner.getD j (some 0) = none
  · exact q
  · exfalso
    have all : ∀ x ∈ List.range (m + 1), (owner.getD x none).isSome := fun x hx => by
      have hx := List.mem_range.mp hx
      cases e : owner.getD x none with
      | some y => rfl
      | none =>
        refine absurd ⟨x, hx, ?_⟩ q
        have lx : x < owner.size := by omega
        rw [Array.getD_eq_getD_getElem?] at e ⊢
        rw [Array.getElem?_eq_getElem lx] at e ⊢
        exact e
    have h1 := fm_full _ all
    have h2 := o2.length_eq
    rw [h1, List.length_range, List.length_range] at h2
    omega
theorem fold_is {m : Nat} (F : Full m) : ∀ (hs : List Int) (k : Nat) (owner : Array (Option Nat)), Own m k owner → k + hs.length ≤ m + 1 →
    ∃ o', hs.foldl (fun acc h => do
      let (owner, k) ← acc
      let j ← SetTable.layClean.free m owner (SetTable.turns m) (SetTable.bits h % (m + 1)) (SetTable.bits h)
      pure (owner.setIfInBounds j (some k), k + 1)) (some (owner, k)) = some (o', k + hs.length) ∧ Own m (k + hs.length) o'
  | [], k, owner, O, _ => ⟨owner, rfl, O⟩
  | h :: r, k, owner, O, hl => by
    rw [List.length_cons] at hl ⊢
    obtain ⟨j, hj, ej⟩ := own_room O (by omega)
    obtain ⟨p, hp, ep⟩ := free_is F owner h j hj ej
    obtain ⟨o', e1, e2⟩ := fold_is F r (k + 1) _ (own_step O ep) (by omega)
    refine ⟨o', ?_, ?_⟩
    · rw [List.foldl_cons]
      have eq : (do
        let (owner, k) ← some (owner, k)
        let j ← SetTable.layClean.free m owner (SetTable.turns m) (SetTable.bits h % (m + 1)) (SetTable.bits h)
        pure (owner.setIfInBounds j (some k), k + 1)) = some (owner.setIfInBounds p (some k), k + 1) := by
        show (SetTable.layClean.free m owner (SetTable.turns m) (SetTable.bits h % (m + 1)) (SetTable.bits h)).bind _ = _
        rw [hp]
        rfl
      rw [eq, e1]
      congr 2
      omega
    · rw [show k + (r.length + 1) = k + 1 + r.length by omega]
      exact e2
theorem own_zero (m : Nat) : Own m 0 (Array.replicate (m + 1) none) := by
  refine ⟨Array.size_replicate, ?_⟩
  have e : ((List.range (m + 1)).filterMap fun j => (Array.replicate (m + 1) (none : Option Nat)).getD j none) = [] := by
    rw [List.filterMap_eq_nil_iff]
    intro x hx
    have := List.mem_range.mp hx
    simp [Array.getD_eq_getD_getElem?, Array.getElem?_replicate, this]
  rw [e]
  exact List.Perm.refl _
theorem clean_is {m : Nat} (F : Full m) (hs : Array Int) (hl : hs.size ≤ m + 1) : ∃ o', SetTable.layClean m hs = some o' ∧ Own m hs.size o' := by
  obtain ⟨o', e, O⟩ := fold_is F hs.toList 0 _ (own_zero m) (by rw [Array.length_toList]; omega)
  refine ⟨o', ?_, by rw [Array.length_toList, Nat.zero_add] at O; exact O⟩
  unfold SetTable.layClean
  rw [← Array.foldl_toList, e]
  rfl
theorem laid_is {m : Nat} (F : Full m) (fi mv : Nat) (led plain : Bool) (hs : Array Int) (hl : hs.size ≤ m + 1) : ∃ t order, SetTable.laid m fi mv led plain hs = some (t, order) ∧ order.toList.Perm (List.range hs.size) ∧ t.mask = m ∧ t.place.size = hs.size ∧ t.dummies = #[] ∧ t.led = led ∧ t.plain = plain ∧ Ris t.place.toList := by
  obtain ⟨o', e, O⟩ := clean_is F hs hl
  have el : (((List.range (m + 1)).filterMap fun j => (o'.getD j none).map (j, ·)).map (·.2)) = (List.range (m + 1)).filterMap fun j => o'.getD j none := by
    rw [List.map_filterMap]
    congr 1
    funext j
    cases o'.getD j none <;> rfl
  refine ⟨_, _, by unfold SetTable.laid; rw [e]; rfl, ?_, rfl, ?_, rfl, rfl, rfl, ?_⟩
  · rw [el]
    exact O.2
  · have h1 := congrArg List.length el
    have h2 := O.2.length_eq
    rw [List.length_map] at h1
    rw [List.length_range] at h2
    simp only [List.size_toArray, List.length_map]
    omega
  · refine (ris_live (fun j => o'.getD j none) (List.range (m + 1)) ?_).1
    unfold Ris
    first | exact List.pairwise_lt_range | exact List.pairwise_lt_range _
end SD

set_option maxRecDepth 100000
set_option maxHeartbeats 4000000
/-! walking, copying and lessening sets of ints -/
namespace SD
open PySem PySem.Spec PyProof.Rows L2
section
variable {P : Program} {w : World} {A : Around} {E : Value → Shared → Prop} {s : Shared} {a : Addr} {o : Obj} {es : Array (Int × Value)} {ep : Nat} {t : SetTable}
theorem anySet {Q : Bool → Shared → Prop} (hT : s.TypeIs (.ref a) "set") (h : Q true s) : wpAny (model P w) A (Builtin.Frozenset.isAnySet (.ref a)) Q E s := by
  unfold Builtin.Frozenset.isAnySet orM
  refine wpAny_bind (wpAny_isInstance (b := true) hT sub_set_self ?_)
  exact wpAny_pure h
theorem setWalk_at {Q : Array (Int × Value) → Shared → Prop} (ho : s.heap.get? a = some o) (hd : o.data = .set es ep t) (hf : t.fits es.size = true) (hl : w.params.followText "set-order" = true ∨ t.led = true ∨ es.size ≤ 1) (hp : w.params.followText "set-order" = true ∨ t.plain = true ∨ es.size ≤ 1)
    (hQ : ∀ xs : Array (Int × Value), xs.toList.Perm es.toList → Q xs s) : wpAny (model P w) A (setWalk a) Q E s := by
  unfold setWalk
  refine wpAny_bind (wpAny_setState_of ho hd hf ?_)
  dsimp only
  refine wpAny_bind (wpAny_byText ?_)
  cases hb : w.params.followText "set-order" with
  | true =>
    refine wp_if_pos rfl ?_
    refine wpAny_bind (wpAny_askSetting ?_)
    exact wpAny_pure (hQ _ (pick_perm _ _))
  | false =>
    refine wp_if_neg (by simp) ?_
    rw [hb] at hl hp
    have hd1 : (!t.plain && decide (es.size > 1)) = false := by
      rcases hp with z | z | z
      · cases z
      · rw [z]; rfl
      · simp [Nat.not_lt.mpr z]
    refine wp_if_neg (show ¬ ((!t.plain && decide (es.size > 1)) = true) by rw [hd1]; simp) ?_
    show wpAny (model P w) A ((if (!t.led && decide (es.size > 1)) = true then unsupported "set:maker-not-led" else pure PUnit.unit) >>= fun _ => pure es) Q E s
    have hd2 : (!t.led && decide (es.size > 1)) = false := by
      rcases hl with z | z | z
      · cases z
      · rw [z]; rfl
      · simp [Nat.not_lt.mpr z]
    refine wpAny_bind ?_
    rw [hd2]
    refine wp_if_neg (by simp) ?_
    exact wpAny_pure (wpAny_pure (hQ es (List.Perm.refl _)))
theorem setsQuiet_at {Q : Bool → Shared → Prop} (h : Q true s) (l : List Addr) (hl : ∀ b ∈ l, ∃ o es ep t, s.heap.get? b = some o ∧ o.data = .set es ep t ∧ t.fits es.size = true ∧ ∀ e ∈ es.toList, GoodE e) : wpAny (model P w) A (setsQuiet l) Q E s := by
  unfold setsQuiet
  refine wpAny_bind (wpAny_forIn_list _ (fun rest b s' => b.1 = none ∧ s' = s ∧ ∀ x ∈ rest, x ∈ l) _ (fun x rest b s1 hI => ?_) (fun b s1 hI => ?_) l _ ⟨rfl, rfl, fun _ h => h⟩)
  · obtain ⟨hb, hs, hr⟩ := hI
    subst hs
    obtain ⟨o, es, ep, t, ho, hd, hf, hg⟩ := hl x (hr x (List.mem_cons_self ..))
    refine wpAny_bind (wpAny_setEntries_of ho hd hf ?_)
    refine wpAny_bind (wpAny_forIn_array' _ (fun l2 b2 s2 => b2 = (none, ()) ∧ s2 = s1 ∧ ∀ e ∈ l2, GoodE e) _ (fun e rest2 b2 s2 hI => ?_) (fun b2 s2 hI => ?_) es _ ⟨rfl, rfl, hg⟩)
    · obtain ⟨rfl, rfl, hr2⟩ := hI
      obtain ⟨k, tk, e1, _⟩ := hr2 e (List.mem_cons_self ..)
      obtain ⟨h0, v⟩ := e
      simp only at e1
      subst e1
      exact wpAny_pure ⟨rfl, rfl, fun e he => hr2 e (List.mem_cons_of_mem _ he)⟩
    · obtain ⟨rfl, rfl, _⟩ := hI
      exact wpAny_pure ⟨rfl, rfl, fun y hy => hr y (List.mem_cons_of_mem _ hy)⟩
  · obtain ⟨hb, hs, _⟩ := hI
    subst hs
    obtain ⟨b1, b2⟩ := b
    simp only at hb
    subst hb
    exact wpAny_pure h
/-- the elements of a set, in some order; what is filled stays what it was -/
theorem walkUnseen_none {Q : Array (Int × Value) → Shared → Prop} {others : List Addr} {S : Int → Bool} {n : Nat} (R : SetR w s.heap a S n) (hoth : ∀ b ∈ others, ∃ S n, SetR w s.heap b S n)
    (hQ : ∀ xs : Array (Int × Value), (∀ e ∈ xs.toList, GoodE e) → (xs.toList.map keyOf).Nodup → (∀ k, S k = true ↔ k ∈ xs.toList.map keyOf) → xs.size = n → Q xs s) : wpAny (model P w) A (setWalkUnseen a others none) Q E s := by
  obtain ⟨o, es, ep, t, ho, hex, hd, g, nd, hm, hb, hf, hn, hr, hl⟩ := id R
  have fin : ∀ xs : Array (Int × Value), xs.toList.Perm es.toList → Q xs s := fun xs pm => hQ xs (fun e he => g e (pm.mem_iff.mp he)) ((pm.map keyOf).nodup_iff.mpr nd) (fun k => (hm k).trans (pm.map keyOf).mem_iff.symm) (by rw [← Array.length_toList, pm.length_eq, Array.length_toList]; exact hn)
  unfold setWalkUnseen
  refine wpAny_bind (wpAny_setState_of ho hd hf ?_)
  dsimp only
  refine wpAny_bind (wpAny_byText ?_)
  by_cases c : (w.params.followText "set-order" || (t.led && t.plain) || decide (es.size ≤ 1)) = true
  · refine wp_if_pos c ?_
    refine setWalk_at ho hd hf ?_ ?_ fun xs pm => fin xs pm
    · simp only [Bool.or_eq_true, Bool.and_eq_true, decide_eq_true_eq] at c
      rcases c with (c | c) | c
      · exact .inl c
      · exact .inr (.inl c.1)
      · exact .inr (.inr c)
    · simp only [Bool.or_eq_true, Bool.and_eq_true, decide_eq_true_eq] at c
      rcases c with (c | c) | c
      · exact .inl c
      · exact .inr (.inl c.2)
      · exact .inr (.inr c)
  · refine wp_if_neg c ?_
    refine wpAny_bind (setsQuiet_at ?_ (a :: others) ?_)
    · refine wp_if_neg (by simp) ?_
      refine wpAny_bind (wpAny_rule ?_)
      exact wpAny_pure (fin es (List.Perm.refl _))
    · intro b hb2
      rcases List.mem_cons.mp hb2 with z | z
      · subst z
        exact ⟨o, es, ep, t, ho, hd, hf, g⟩
      · obtain ⟨S2, n2, o2, es2, ep2, t2, h1, _, h3, h4, _, _, _, h8, _⟩ := hoth b z
        exact ⟨o2, es2, ep2, t2, h1, h3, h8, h4⟩
theorem walkUnseen_some {Q : Array (Int × Value) → Shared → Prop} {others : List Addr} {S Sf : Int → Bool} {n nf : Nat} {f : Addr} (R : SetR w s.heap a S n) (Rf : SetR w s.heap f Sf nf) (hfa : f ≠ a) (hoth : ∀ b ∈ others, ∃ S n, SetR w s.heap b S n)
    (hQ : ∀ (xs : Array (Int × Value)) (h' : Heap), (∀ e ∈ xs.toList, GoodE e) → (xs.toList.map keyOf).Nodup → (∀ k, S k = true ↔ k ∈ xs.toList.map keyOf) → xs.size = n → Heap.SameBut f s.heap h' → SetR w h' f Sf nf → Q xs { s with heap := h' }) : wpAny (model P w) A (setWalkUnseen a others (some f)) Q E s := by
  obtain ⟨o, es, ep, t, ho, hex, hd, g, nd, hm, hb, hf, hn, hr, hl⟩ := id R
  obtain ⟨of, ef, epf, tf, hof, hexf, hdf, gf, ndf, hmf, hbf, hff, hnf, hrf, hlf⟩ := id Rf
  have fin : ∀ (xs : Array (Int × Value)) (h' : Heap), xs.toList.Perm es.toList → Heap.SameBut f s.heap h' → SetR w h' f Sf nf → Q xs { s with heap := h' } := fun xs h' pm => hQ xs h' (fun e he => g e (pm.mem_iff.mp he)) ((pm.map keyOf).nodup_iff.mpr nd) (fun k => (hm k).trans (pm.map keyOf).mem_iff.symm) (by rw [← Array.length_toList, pm.length_eq, Array.length_toList]; exact hn)
  unfold setWalkUnseen
  refine wpAny_bind (wpAny_setState_of ho hd hf ?_)
  dsimp only
  refine wpAny_bind (wpAny_byText ?_)
  by_cases c : (w.params.followText "set-order" || (t.led && t.plain) || decide (es.size ≤ 1)) = true
  · refine wp_if_pos c ?_
    refine setWalk_at ho hd hf ?_ ?_ fun xs pm => fin xs s.heap pm (Heap.SameBut.refl f s.heap) Rf
    · simp only [Bool.or_eq_true, Bool.and_eq_true, decide_eq_true_eq] at c
      rcases c with (c | c) | c
      · exact .inl c
      · exact .inr (.inl c.1)
      · exact .inr (.inr c)
    · simp only [Bool.or_eq_true, Bool.and_eq_true, decide_eq_true_eq] at c
      rcases c with (c | c) | c
      · exact .inl c
      · exact .inr (.inl c.2)
      · exact .inr (.inr c)
  · refine wp_if_neg c ?_
    have hbt : w.params.followText "set-order" = false := by
      cases q : w.params.followText "set-order" with
      | false => rfl
      | true => rw [q] at c; simp at c
    have hled : t.led = true := by
      rcases hl with z | z
      · rw [hbt] at z; cases z
      · exact z
    refine wpAny_bind (setsQuiet_at ?_ (a :: others) ?_)
    · refine wp_if_neg (by simp) ?_
      refine wpAny_bind (wpAny_rule ?_)
      refine wpAny_bind (wpAny_setState_of hof hdf hff ?_)
      dsimp only
      split
      · refine wpAny_bind (wpAny_storeSet_of hof hdf ?_ (Nat.le_trans (Nat.le_of_lt hbf) (by decide)))
        refine wpAny_pure (fin es _ (List.Perm.refl _) ?_ ⟨_, ef, _, _, store_at hof hdf, hexf, rfl, gf, ndf, hmf, hbf, ?_, hnf, hrf, ?_⟩)
        · exact Heap.SameBut.update _ f _
        · exact hff
        · exact hlf.imp id fun z => by
            show (tf.led && t.led) = true
            rw [z, hled]; rfl
      · exact wpAny_pure (fin es s.heap (List.Perm.refl _) (Heap.SameBut.refl f s.heap) Rf)
    · intro b hb2
      rcases List.mem_cons.mp hb2 with z | z
      · subst z
        exact ⟨o, es, ep, t, ho, hd, hf, g⟩
      · obtain ⟨S2, n2, o2, es2, ep2, t2, h1, _, h3, h4, _, _, _, h8, _⟩ := hoth b z
        exact ⟨o2, es2, ep2, t2, h1, h3, h8, h4⟩
end
end SD

set_option maxRecDepth 100000
set_option maxHeartbeats 4000000
namespace SD
open PySem PySem.Spec PyProof.Rows L2
section
variable {P : Program} {w : World} {A : Around} {E : Value → Shared → Prop} {s : Shared} {a : Addr} {o : Obj} {es : Array (Int × Value)} {ep : Nat} {t : SetTable}
/-- a set, with how many places were left -/
def SetQ (w : World) (h : Heap) (a : Addr) (S : Int → Bool) (n d : Nat) : Prop :=
  ∃ o es ep t, h.get? a = some o ∧ o.ExactSet ∧ o.data = .set es ep t ∧ (∀ e ∈ es.toList, GoodE e) ∧ (es.toList.map keyOf).Nodup ∧ (∀ k, S k = true ↔ k ∈ es.toList.map keyOf) ∧
    es.size < scanBound ∧ t.fits es.size = true ∧ es.size = n ∧ Ris t.place.toList ∧ (w.params.followText "set-order" = true ∨ t.led = true) ∧ t.dummies.size = d
theorem SetQ.setR {h : Heap} {S : Int → Bool} {n d : Nat} (R : SetQ w h a S n d) : SetR w h a S n := by
  obtain ⟨o, es, ep, t, h1, h2, h3, h4, h5, h6, h7, h8, h9, h10, h11, _⟩ := R
  exact ⟨o, es, ep, t, h1, h2, h3, h4, h5, h6, h7, h8, h9, h10, h11⟩
theorem SetQ.at {h h' : Heap} {S : Int → Bool} {n d : Nat} (R : SetQ w h a S n d) (k : ∀ o, h.get? a = some o → h'.get? a = some o) : SetQ w h' a S n d := by
  obtain ⟨o, es, ep, t, ho, r⟩ := R
  exact ⟨o, es, ep, t, k o ho, r⟩
theorem SetR.typeIs {S : Int → Bool} {n : Nat} (R : SetR w s.heap a S n) : s.TypeIs (.ref a) "set" := by
  obtain ⟨o, es, ep, t, ho, hx, _⟩ := R
  exact ⟨o, ho, hx.1⟩
abbrev bareO (w : World) : Obj := { cls := .type "set", dict := none, data := .set #[] 0 (.fresh 0 0 (!w.params.followText "set-order")) }
theorem newSet_at {Q : Value → Shared → Prop} (h : Q (.ref s.heap.objs.size) { s with heap := s.heap.push (bareO w) }) : wpAny (model P w) A (newSet (.type "set")) Q E s := by
  unfold newSet
  refine wpAny_bind (wpAny_byText ?_)
  dsimp only
  simp only [newObj]
  refine wpAny_bind (wpAny_alloc (wpAny_pure ?_))
  exact h
theorem baseOf_at {Q : Value → Shared → Prop} (hT : s.TypeIs (.ref a) "set") (h : Q (.type "set") s) : wpAny (model P w) A (Builtin.Frozenset.baseOf a) Q E s := by
  unfold Builtin.Frozenset.baseOf
  refine wpAny_bind (wpAny_isInstance (b := true) hT sub_set_self ?_)
  exact wpAny_pure h
theorem reord {es : Array (Int × Value)} {order : Array Nat} (pm : order.toList.Perm (List.range es.size)) : (order.filterMap (es[·]?)).toList.Perm es.toList ∧ (order.filterMap (es[·]?)).size = es.size := by
  have h1 : (order.filterMap (es[·]?)).toList.Perm es.toList := by
    rw [Array.toList_filterMap]
    exact (pm.filterMap _).trans (by rw [filterMap_getElem?_range])
  exact ⟨h1, by rw [← Array.length_toList, h1.length_eq, Array.length_toList]⟩
def Bare (w : World) (h : Heap) (r : Addr) (m : Nat) : Prop := ∃ o ep t, h.get? r = some o ∧ o.ExactSet ∧ o.data = .set #[] ep t ∧ t.mask = m ∧ t.place = #[] ∧ t.dummies = #[] ∧ (w.params.followText "set-order" = true ∨ t.led = true)
theorem relay_bare {r : Addr} {m wanted : Nat} {Q : Unit → Shared → Prop} {o : Obj} {ep : Nat} {t : SetTable} (hr : s.heap.get? r = some o) (hex : o.ExactSet) (hd : o.data = .set #[] ep t) (hp : t.place = #[]) (hdm : t.dummies = #[]) (hl : w.params.followText "set-order" = true ∨ t.led = true) (hw : SetTable.sizeAbove wanted = m + 1) (F : Full m) (hm : m ≤ 1000)
    (hQ : ∀ h', Heap.SameBut r s.heap h' → Bare w h' r m → Q () { s with heap := h' }) : wpAny (model P w) A (setRelay r wanted) Q E s := by
  have hf : t.fits (#[] : Array (Int × Value)).size = true := by unfold SetTable.fits SetTable.fill; rw [hp, hdm]; simp
  unfold setRelay
  refine wpAny_bind (wpAny_setState_of hr hd hf ?_)
  dsimp only
  refine wp_if_neg (by rw [hw]; have : 1001 ≤ sizeLine := by decide
                       omega) ?_
  obtain ⟨t2, order, e, pm, e1, e2, e3, e4, e5, e6⟩ := laid_is F t.finger (t.movedTo (SetTable.sizeAbove wanted - 1)) t.led t.plain (#[] : Array Int) (by simp)
  have er : t.relaid (Array.map (fun x => x.1) (#[] : Array (Int × Value))) wanted = some (t2, order) := by
    unfold SetTable.relaid
    rw [hw] at e ⊢
    rw [Array.map_empty]
    simp only [Nat.add_sub_cancel] at e ⊢
    exact e
  rw [er]
  obtain ⟨p1, p2⟩ := reord (es := (#[] : Array (Int × Value))) pm
  have hz : ((order.filterMap ((#[] : Array (Int × Value))[·]?)).size != (#[] : Array (Int × Value)).size) = false := by rw [p2]; rfl
  show wpAny (model P w) A ((if ((order.filterMap ((#[] : Array (Int × Value))[·]?)).size != (#[] : Array (Int × Value)).size) = true then _ else pure (order.filterMap ((#[] : Array (Int × Value))[·]?), t2)) >>= fun x => storeSet r x.1 x.2) Q E s
  rw [hz]
  refine wpAny_bind (wp_if_neg (by simp) (wpAny_pure ?_))
  have e0 : order.filterMap ((#[] : Array (Int × Value))[·]?) = #[] := Array.eq_empty_of_size_eq_zero p2
  dsimp only
  rw [e0]
  refine wpAny_storeSet_of hr hd ?_ (Nat.zero_le _)
  refine hQ _ (Heap.SameBut.update _ r _) ⟨_, _, t2, store_at hr hd, hex, rfl, e1, Array.eq_empty_of_size_eq_zero e2, e3, ?_⟩
  rw [e4]
  exact hl
theorem room_bare {r : Addr} {n : Nat} {Q : Unit → Shared → Prop} (hn : n ≤ 15) (hr : s.heap.get? r = some (bareO w))
    (hQ : ∀ h' m, Full m → n ≤ m → Heap.SameBut r s.heap h' → Bare w h' r m → Q () { s with heap := h' }) : wpAny (model P w) A (setRoomFor r n) Q E s := by
  have fr : (SetTable.fresh 0 0 (!w.params.followText "set-order")).fits (#[] : Array (Int × Value)).size = true := by rfl
  have hl : w.params.followText "set-order" = true ∨ (SetTable.fresh 0 0 (!w.params.followText "set-order")).led = true := by
    show _ ∨ (!w.params.followText "set-order") = true
    cases w.params.followText "set-order"
    · exact .inr rfl
    · exact .inl rfl
  unfold setRoomFor
  refine wpAny_bind (wpAny_setState_of hr rfl fr ?_)
  dsimp only
  by_cases c : n * 5 ≥ 21
  · have e : (SetTable.fresh 0 0 (!w.params.followText "set-order")).roomFor n = some (n * 2) := by
      unfold SetTable.roomFor
      rw [if_pos]
      · show some ((0 + n) * 2) = _
        rw [Nat.zero_add]
      · show (0 + n) * 5 ≥ 7 * 3
        omega
    rw [e]
    dsimp only
    have h5 : n = 5 ∨ n = 6 ∨ n = 7 ∨ n = 8 ∨ n = 9 ∨ n = 10 ∨ n = 11 ∨ n = 12 ∨ n = 13 ∨ n = 14 ∨ n = 15 := by omega
    by_cases c2 : n < 8
    · refine relay_bare (m := 15) hr ⟨rfl, rfl, rfl⟩ rfl rfl rfl hl ?_ full15 (by decide) fun h' sb B => hQ h' 15 full15 (by omega) sb B
      rcases h5 with e | e | e | e | e | e | e | e | e | e | e <;> subst e <;> first | decide | omega
    · refine relay_bare (m := 31) hr ⟨rfl, rfl, rfl⟩ rfl rfl rfl hl ?_ full31 (by decide) fun h' sb B => hQ h' 31 full31 (by omega) sb B
      rcases h5 with e | e | e | e | e | e | e | e | e | e | e <;> subst e <;> first | decide | omega
  · have e : (SetTable.fresh 0 0 (!w.params.followText "set-order")).roomFor n = none := by
      unfold SetTable.roomFor
      rw [if_neg]
      show ¬ (0 + n) * 5 ≥ 7 * 3
      omega
    rw [e]
    exact wpAny_pure (hQ s.heap 7 full7 (by omega) (Heap.SameBut.refl r _) ⟨_, _, _, hr, ⟨rfl, rfl, rfl⟩, rfl, rfl, rfl, rfl, hl⟩)
/-- all of a set comes in a bare one -/
theorem merge_at {r : Addr} {S : Int → Bool} {n : Nat} {Q : Unit → Shared → Prop} (R : SetR w s.heap a S n) (hn : n ≤ 15) (n0 : n ≠ 0) (hr : s.heap.get? r = some (bareO w)) (hra : r ≠ a)
    (hQ : ∀ h', Heap.SameBut r s.heap h' → SetQ w h' r S n 0 → Q () { s with heap := h' }) : wpAny (model P w) A (setMerge r a) Q E s := by
  obtain ⟨o, es, ep, t, ho, hex, hd, g, nd, hm, hb, hf, hz, hris, hl⟩ := id R
  unfold setMerge
  refine wp_if_neg (by simpa using hra) ?_
  refine wpAny_bind (wpAny_setState_of ho hd hf ?_)
  dsimp only
  refine wp_if_neg (by rw [Array.isEmpty_iff]; intro z; rw [z] at hz; exact n0 hz.symm) ?_
  refine wpAny_bind (room_bare (by rw [hz]; exact hn) hr fun h1 m F hnm sb B => ?_)
  obtain ⟨o1, ep1, t1, hr1, hex1, hd1, em, ep0, ed, hl1⟩ := B
  have hf1 : t1.fits (#[] : Array (Int × Value)).size = true := by unfold SetTable.fits SetTable.fill; rw [ep0, ed]; simp
  refine wpAny_bind (wpAny_setState_of hr1 hd1 hf1 ?_)
  have hfill : t1.fill = 0 := by unfold SetTable.fill; rw [ep0, ed]; rfl
  have led2 : w.params.followText "set-order" = true ∨ (t1.led && t.led) = true := by
    rcases hl with z | z
    · exact .inl z
    · rcases hl1 with y | y
      · exact .inl y
      · exact .inr (by rw [z, y]; rfl)
  by_cases c : (t1.mask == t.mask && t.dummies.isEmpty) = true
  · have er : t1.road t = .slotForSlot := by
      unfold SetTable.road
      rw [hfill]
      simp only [bne_self_eq_false, Bool.false_eq_true, if_false]
      rw [if_pos c]
    dsimp only
    rw [er]
    refine wpAny_storeSet_of hr1 hd1 ?_ (Nat.le_trans (Nat.le_of_lt hb) (by decide))
    have c2 : t.dummies = #[] := by
      rw [Bool.and_eq_true] at c
      exact Array.isEmpty_iff.mp c.2
    refine hQ _ (sb.trans (Heap.SameBut.update _ r _)) ⟨_, es, _, _, store_at hr1 hd1, hex1, rfl, g, nd, hm, hb, hf, hz, hris, led2, ?_⟩
    show t.dummies.size = 0
    rw [c2]; rfl
  · have er : t1.road t = .clean := by
      unfold SetTable.road
      rw [hfill]
      simp only [bne_self_eq_false, Bool.false_eq_true, if_false]
      rw [if_neg c]
    dsimp only
    rw [er]
    obtain ⟨t2, order, e, pm, e1, e2, e3, e4, e5, e6⟩ := laid_is (m := t1.mask) (by rw [em]; exact F) t1.finger t1.moves (t1.led && t.led) (t1.plain && t.plain) (es.map (·.1)) (by rw [Array.size_map, em]; omega)
    rw [Array.size_map] at pm e2
    obtain ⟨p1, p2⟩ := reord pm
    have hz2 : ((order.filterMap (es[·]?)).size != es.size) = false := by rw [p2]; simp
    dsimp only
    rw [e]
    show wpAny (model P w) A ((if ((order.filterMap (es[·]?)).size != es.size) = true then _ else pure (order.filterMap (es[·]?), t2)) >>= fun x => storeSet r x.1 x.2) Q E _
    rw [hz2]
    refine wpAny_bind (wp_if_neg (by simp) (wpAny_pure ?_))
    dsimp only
    refine wpAny_storeSet_of hr1 hd1 ?_ (by rw [p2]; exact Nat.le_trans (Nat.le_of_lt hb) (by decide))
    refine hQ _ (sb.trans (Heap.SameBut.update _ r _)) ⟨_, _, _, t2, store_at hr1 hd1, hex1, rfl, fun e he => g e (p1.mem_iff.mp he), (p1.map keyOf).nodup_iff.mpr nd, fun k => (hm k).trans (p1.map keyOf).mem_iff.symm, by rw [p2]; exact hb, ?_, by rw [p2]; exact hz, e6, by rw [e4]; exact led2, by rw [e3]; rfl⟩
    unfold SetTable.fits SetTable.fill
    rw [p2, e2, e3, e1, em]
    simp
    omega
theorem copy_at {S : Int → Bool} {n : Nat} {Q : Value → Shared → Prop} (R : SetR w s.heap a S n) (hn : n ≤ 15) (n0 : n ≠ 0)
    (hQ : ∀ h' : Heap, (∀ b u, s.heap.get? b = some u → h'.get? b = some u) → h'.objs.size = s.heap.objs.size + 1 → SetQ w h' s.heap.objs.size S n 0 → Q (.ref s.heap.objs.size) { s with heap := h' }) : wpAny (model P w) A (Builtin.Frozenset.copyOf a) Q E s := by
  have ra : s.heap.objs.size ≠ a := Nat.ne_of_gt R.lt
  unfold Builtin.Frozenset.copyOf
  refine wpAny_bind (baseOf_at (SetR.typeIs R) ?_)
  refine wpAny_bind (newSet_at ?_)
  unfold Builtin.Frozenset.addrOf
  refine wpAny_bind (wpAny_pure ?_)
  refine wpAny_bind (merge_at (R.at fun o e => Heap.get?_push_of_some _ e) hn n0 (Heap.get?_push_size _ rfl) ra fun h' sb R2 => ?_)
  refine wpAny_pure (hQ h' (fun b u e => ?_) ?_ R2)
  · have lt := Heap.lt_size e
    rw [sb.2 b (Nat.ne_of_lt lt)]
    exact Heap.get?_push_of_some _ e
  · rw [sb.1]
    exact Heap.size_push _ _
end
end SD

set_option maxRecDepth 100000
set_option maxHeartbeats 4000000
namespace SD
open PySem PySem.Spec PyProof.Rows L2
section
variable {P : Program} {w : World} {A : Around} {E : Value → Shared → Prop} {s : Shared} {a : Addr}
theorem eraseAt_list {α : Type} (xs : Array α) (i : Nat) : (SetTable.eraseAt xs i).toList = xs.toList.eraseIdx i := by
  unfold SetTable.eraseAt
  rw [Array.toList_append, Array.toList_extract, Array.toList_extract, List.eraseIdx_eq_take_drop_succ]
  simp [List.extract_eq_drop_take]
  try (rw [List.take_of_length_le]; simp)
theorem insertAt_size {α : Type} (xs : Array α) (p : Nat) (x : α) : (SetTable.insertAt xs p x).size = xs.size + 1 := by
  have := (SetTable.insertAt_perm xs p x).length_eq
  rw [Array.length_toList, Array.length_toList, Array.size_push] at this
  exact this
theorem discard_at {k : Int} {tk : Tok} {S : Int → Bool} {n d : Nat} {Q : Bool → Shared → Prop} (R : SetQ w s.heap a S n d)
    (h0 : S k = false → Q false s) (h1 : S k = true → ∀ h' m, n = m + 1 → Heap.SameBut a s.heap h' → SetQ w h' a (fun j => S j && !decide (j = k)) m (d + 1) → Q true { s with heap := h' }) :
    wpAny (model P w) A (setDiscardHashed a (.int k tk) (hashInt k)) Q E s := by
  obtain ⟨o, es, ep, t, ho, hex, hd, g, nd, hm, hb, hf, hn, hr, hl, hdm⟩ := R
  have hkey : (intKind P w).is k (.int k tk) = true := intKind_is P w k tk
  have hsc : (Value.int k tk).scannable = true := rfl
  have hel : ElemsOf (intKind P w) es.toList := good_elems g
  unfold setDiscardHashed
  refine wpAny_bind ?_
  show wpAny (model P w) A (setFind a (.int k tk) ((intKind P w).hash k)) _ E s
  unfold setFind setFindIn
  refine wpAny_bind (wpAny_setState_of ho hd hf ?_)
  dsimp only
  rw [byScan_of hsc hb hel]
  simp only [↓reduceIte]
  refine wpAny_bind (wpAny_rule ?_)
  refine wpAny_bind (wpAny_setScan_of hkey ho hd hf hel ?_)
  cases hfi : List.findIdx? (fun e => (intKind P w).is k e.2) es.toList with
  | none =>
    dsimp only
    have hSk : S k = false := by
      cases q : S k with
      | false => rfl
      | true =>
        obtain ⟨e, he, z⟩ := (good_mem (P := P) (w := w) g k).1 ((hm k).1 q)
        have c := List.findIdx?_eq_none_iff.mp hfi e he
        rw [z] at c
        cases c
    exact wpAny_pure (wpAny_pure (h0 hSk))
  | some j =>
    dsimp only
    obtain ⟨hj, pj, _⟩ := List.findIdx?_eq_some_iff_getElem.mp hfi
    have ej : keyOf es.toList[j] = k := (good_is (P := P) (w := w) (g _ (List.getElem_mem hj)) k).1 pj
    have hSk : S k = true := (hm k).2 (List.mem_map.mpr ⟨_, List.getElem_mem hj, ej⟩)
    refine wpAny_pure ?_
    rw [Nat.zero_add]
    refine wpAny_bind (wpAny_setState_of ho hd hf ?_)
    dsimp only
    have pm := erase_perm es.toList j _ (List.getElem?_eq_getElem hj)
    have pk := pm.map keyOf
    rw [List.map_cons, ej] at pk
    have nd2 : (k :: (es.toList.eraseIdx j).map keyOf).Nodup := pk.nodup_iff.mpr nd
    obtain ⟨nk, nd3⟩ := List.nodup_cons.mp nd2
    have hl2 : (es.toList.eraseIdx j).length + 1 = n := by
      have := pm.length_eq
      rw [List.length_cons] at this
      have h2 : es.toList.length = es.size := Array.length_toList
      omega
    have sz : (SetTable.eraseAt es j).size + 1 = n := by rw [← Array.length_toList, eraseAt_list]; exact hl2
    have fz : t.place.size = es.size ∧ t.fill ≤ t.mask := by
      unfold SetTable.fits at hf
      simpa [Bool.and_eq_true] using hf
    have hjp : j < t.place.size := by rw [fz.1]; rw [Array.length_toList] at hj; exact hj
    have ed : t.drop j = { t with place := SetTable.eraseAt t.place j, dummies := SetTable.insertAt t.dummies (SetTable.below t.dummies t.place[j]) t.place[j] } := by
      unfold SetTable.drop
      rw [Array.getElem?_eq_getElem hjp]
    have pz : (SetTable.eraseAt t.place j).size + 1 = t.place.size := by
      rw [← Array.length_toList, eraseAt_list, List.length_eraseIdx, if_pos (by rw [Array.length_toList]; exact hjp), Array.length_toList]
      omega
    rw [ed]
    refine wpAny_bind (wpAny_storeSet_of ho hd ?_ (Nat.le_trans (show (SetTable.eraseAt es j).size ≤ scanBound by omega) (by decide)))
    refine wpAny_bind (wpAny_point ?_)
    refine wpAny_pure (h1 hSk _ ((SetTable.eraseAt es j).size) (by omega) (Heap.SameBut.update _ a _) ⟨_, _, _, _, store_at ho hd, hex, rfl, ?_, ?_, ?_, ?_, ?_, rfl, ?_, hl, ?_⟩)
    · intro e he
      rw [eraseAt_list] at he
      exact g e (List.mem_of_mem_eraseIdx he)
    · rw [eraseAt_list]; exact nd3
    · intro i
      rw [eraseAt_list]
      rw [Bool.and_eq_true, hm i, ← pk.mem_iff, List.mem_cons]
      constructor
      · rintro ⟨z | z, y⟩
        · rw [z] at y; simp at y
        · exact z
      · intro z
        refine ⟨.inr z, ?_⟩
        have : i ≠ k := fun e => nk (e ▸ z)
        simp [this]
    · omega
    · unfold SetTable.fits SetTable.fill
      rw [insertAt_size]
      have f1 := fz.1
      have f2 := fz.2
      unfold SetTable.fill at f2
      simp only [Bool.and_eq_true, beq_iff_eq, decide_eq_true_eq]
      omega
    · show Ris (SetTable.eraseAt t.place j).toList
      rw [eraseAt_list]
      exact List.Pairwise.sublist (List.eraseIdx_sublist ..) hr
    · show (SetTable.insertAt t.dummies _ _).size = d + 1
      rw [insertAt_size, hdm]
theorem unch {nm : String} {ep : Nat} {o : Obj} {es : Array (Int × Value)} {t : SetTable} {Q : Unit → Shared → Prop} (ho : s.heap.get? a = some o) (hd : o.data = .set es ep t) (hf : t.fits es.size = true) (h : Q () s) : wpAny (model P w) A (Builtin.Frozenset.unchanged nm a ep) Q E s := by
  unfold Builtin.Frozenset.unchanged
  refine wpAny_bind (wpAny_setEpoch_of ho hd hf ?_)
  rw [if_neg (by simp)]
  exact wpAny_pure h
theorem sizeOf_at {S : Int → Bool} {n : Nat} {Q : Nat → Shared → Prop} (R : SetR w s.heap a S n) (h : Q n s) : wpAny (model P w) A (Builtin.Frozenset.sizeOf a) Q E s := by
  obtain ⟨o, es, ep, t, ho, hex, hd, g, nd, hm, hb, hf, hz, hris, hl⟩ := R
  unfold Builtin.Frozenset.sizeOf
  refine wpAny_bind (wpAny_setEntries_of ho hd hf ?_)
  exact wpAny_pure (by rw [hz]; exact h)
theorem same_set {h h' : Heap} {r b : Addr} (sb : Heap.SameBut r h h') (n : b ≠ r) {u : Obj} (e : h.get? b = some u) : h'.get? b = some u := (sb.2 b n).trans e
/-- a set is lessened by another, a quarter of it at most -/
theorem lessen_at {nm : String} {b : Addr} {S T : Int → Bool} {n m : Nat} {Q : Unit → Shared → Prop} (R : SetQ w s.heap a S n 0) (R2 : SetR w s.heap b T m) (hab : b ≠ a) (hm : m ≤ n / 4)
    (hQ : ∀ h' n', n' ≤ n → Heap.SameBut a s.heap h' → SetR w h' a (fun j => S j && !T j) n' → Q () { s with heap := h' }) : wpAny (model P w) A (Builtin.Frozenset.differenceUpdate nm a (.ref b)) Q E s := by
  obtain ⟨ob, eb, epb, tb, hob, hexb, hdb, gb, ndb, hmb, hbb, hfb, hnb, hrb, hlb⟩ := id R2
  unfold Builtin.Frozenset.differenceUpdate
  refine wp_if_neg (by simpa using hab) ?_
  refine wpAny_bind (anySet (SetR.typeIs R2) ?_)
  dsimp only
  refine wp_if_pos rfl ?_
  unfold Builtin.Frozenset.addrOf
  refine wpAny_bind (wpAny_pure ?_)
  refine wpAny_bind (sizeOf_at R2 ?_)
  refine wpAny_bind (sizeOf_at R.setR ?_)
  refine wp_if_neg (by omega) ?_
  refine wpAny_bind (wpAny_setEpoch_of hob hdb hfb ?_)
  refine wpAny_bind (wpAny_holding ?_)
  refine wpAny_bind (walkUnseen_none R2 (fun c hc => by rw [List.mem_singleton.mp hc]; exact ⟨_, _, R.setR⟩) fun xs g nd hx hz => ?_)
  have hT : ∀ e ∈ xs.toList, T (keyOf e) = true := fun e he => (hx _).2 (List.mem_map.mpr ⟨e, he, rfl⟩)
  refine wpAny_bind (wpAny_forIn_array' _ (fun rest _ s' => ∃ h' S' n' d', s' = { s with heap := h' } ∧ Heap.SameBut a s.heap h' ∧ SetQ w h' a S' n' d' ∧ n' + d' = n ∧ d' + rest.length ≤ m ∧ (∀ e ∈ rest, GoodE e) ∧ (rest.map keyOf).Nodup ∧ (∀ e ∈ rest, T (keyOf e) = true) ∧ ∀ k, S' k = true ↔ S k = true ∧ ¬ (T k = true ∧ k ∉ rest.map keyOf)) _ (fun e rest u s1 hI => ?_) (fun u s1 hI => ?_) xs _ ⟨s.heap, S, n, 0, rfl, Heap.SameBut.refl a _, R, rfl, by rw [Array.length_toList, hz]; omega, g, nd, hT, fun k => ⟨fun z => ⟨z, fun y => y.2 ((hx k).1 y.1)⟩, fun z => z.1⟩⟩)
  · obtain ⟨h1, S', n', d', rfl, sb, R1, e1, e2, g1, nd1, t1, i1⟩ := hI
    obtain ⟨k, tk, k1, k2⟩ := g1 e (List.mem_cons_self ..)
    obtain ⟨hh, v⟩ := e
    simp only at k1 k2
    subst k1 k2
    rw [List.map_cons] at nd1
    obtain ⟨nk, nd2⟩ := List.nodup_cons.mp nd1
    have tk0 : T k = true := t1 _ (List.mem_cons_self ..)
    have nk : k ∉ rest.map keyOf := nk
    rw [List.length_cons] at e2
    have step : ∀ j, ((S' j && !decide (j = k)) = true) ↔ S j = true ∧ ¬ (T j = true ∧ j ∉ rest.map keyOf) := fun j => by
      rw [Bool.and_eq_true, i1 j]
      simp only [List.map_cons, List.mem_cons, Bool.not_eq_true', decide_eq_false_iff_not]
      by_cases c : j = k
      · subst c
        constructor
        · rintro ⟨_, z⟩; exact absurd rfl z
        · rintro ⟨_, z⟩; exact absurd ⟨tk0, nk⟩ z
      · have : keyOf (hashInt k, Value.int k tk) = k := rfl
        rw [this]
        constructor
        · rintro ⟨⟨z1, z2⟩, _⟩
          exact ⟨z1, fun y => z2 ⟨y.1, fun q => q.elim c y.2⟩⟩
        · rintro ⟨z1, z2⟩
          exact ⟨⟨z1, fun y => z2 ⟨y.1, fun q => y.2 (.inr q)⟩⟩, c⟩
    dsimp only
    refine wpAny_bind (wpAny_holding (discard_at R1 (fun hs => ?_) fun hs h2 m2 em sb2 R3 => ?_))
    · refine wpAny_bind (unch (same_set sb hab hob) hdb hfb (wpAny_pure ⟨h1, S', n', d', rfl, sb, R1, e1, by omega, fun e he => g1 e (List.mem_cons_of_mem _ he), nd2, fun e he => t1 e (List.mem_cons_of_mem _ he), fun j => ?_⟩))
      rw [← step j]
      by_cases c : j = k
      · subst c; rw [hs]; simp
      · simp [c]
    · refine wpAny_bind (unch (same_set sb2 hab (same_set sb hab hob)) hdb hfb (wpAny_pure ⟨h2, _, m2, d' + 1, rfl, sb.trans sb2, R3, by omega, by omega, fun e he => g1 e (List.mem_cons_of_mem _ he), nd2, fun e he => t1 e (List.mem_cons_of_mem _ he), step⟩))
  · obtain ⟨h1, S', n', d', rfl, sb, R1, e1, e2, _, _, _, i1⟩ := hI
    refine wpAny_pure ?_
    obtain ⟨o, es, ep, t, ho, hex, hd, g2, nd2, hm2, hb2, hf2, hz2, hr2, hl2, hdm2⟩ := id R1
    unfold setTidy
    refine wpAny_bind (wpAny_setState_of ho hd hf2 ?_)
    dsimp only
    have fz : t.place.size = es.size ∧ t.fill ≤ t.mask := by
      have := hf2
      unfold SetTable.fits at this
      simpa [Bool.and_eq_true] using this
    have few : t.tooManyDummies = false := by
      unfold SetTable.tooManyDummies
      have f1 := fz.1
      have f2 := fz.2
      unfold SetTable.fill at f2
      rw [List.length_nil] at e2
      simp only [decide_eq_false_iff_not]
      omega
    rw [few]
    refine wp_if_neg (by simp) (wpAny_pure (hQ h1 n' (by omega) sb (R1.setR.congr fun j => ?_)))
    have q := i1 j
    simp only [List.map_nil, List.not_mem_nil, not_false_eq_true, and_true] at q
    cases c1 : S j <;> cases c2 : T j <;> cases c3 : S' j <;> simp_all
end
end SD

set_option maxRecDepth 100000
set_option maxHeartbeats 4000000
namespace SD
open PySem PySem.Spec PyProof.Rows L2
section
variable {P : Program} {w : World} {A : Around} {E : Value → Shared → Prop} {s : Shared} {a : Addr}
theorem find_at {k : Int} {tk : Tok} {S : Int → Bool} {n : Nat} {Q : Option Nat → Shared → Prop} (R : SetR w s.heap a S n) (h : ∀ r : Option Nat, r.isSome = S k → Q r s) : wpAny (model P w) A (setFind a (.int k tk) (hashInt k)) Q E s :=
  wpAny_setFind_of (knd := intKind P w) (intKind_is P w k tk) rfl R.setOf h
/-- one set without the other's -/
theorem diff_at {nm : String} {b : Addr} {S T : Int → Bool} {n m : Nat} {Q : Value → Shared → Prop} (R : SetR w s.heap a S n) (R2 : SetR w s.heap b T m) (hn : n ≤ 15)
    (hQ : ∀ (h' : Heap) (n' : Nat), n' ≤ n → (∀ c u, s.heap.get? c = some u → h'.get? c = some u) → SetR w h' s.heap.objs.size (fun j => S j && !T j) n' → Q (.ref s.heap.objs.size) { s with heap := h' }) :
    wpAny (model P w) A (Builtin.Frozenset.difference nm a (.ref b)) Q E s := by
  have la := R.lt
  have lb := R2.lt
  unfold Builtin.Frozenset.difference
  refine wpAny_bind (anySet (SetR.typeIs R2) ?_)
  refine wp_if_neg (by simp) ?_
  unfold Builtin.Frozenset.addrOf
  refine wpAny_bind (wpAny_pure ?_)
  refine wp_if_neg (by simp) ?_
  dsimp only
  refine wp_if_pos rfl ?_
  refine wpAny_bind (sizeOf_at R2 ?_)
  refine wpAny_bind (sizeOf_at R ?_)
  by_cases c : n / 4 > m
  · refine wp_if_pos c ?_
    refine wpAny_bind (wpAny_rule ?_)
    refine wpAny_bind (copy_at R hn (by omega) fun h1 k1 z1 R1 => ?_)
    refine wpAny_bind (wpAny_pure ?_)
    refine wpAny_bind (wpAny_holding (lessen_at R1 (R2.at fun o e => k1 b o e) (Nat.ne_of_lt lb) (by omega) fun h2 n2 ln sb R3 => ?_))
    refine wpAny_pure (hQ h2 n2 ln (fun x u e => ?_) R3)
    rw [sb.2 x (Nat.ne_of_lt (Heap.lt_size e))]
    exact k1 x u e
  · refine wp_if_neg c ?_
    refine wpAny_bind (baseOf_at (SetR.typeIs R) ?_)
    refine wpAny_bind (newSet_at ?_)
    refine wpAny_bind (wpAny_pure ?_)
    have kp : ∀ x u, s.heap.get? x = some u → (s.heap.push (bareO w)).get? x = some u := fun x u e => Heap.get?_push_of_some _ e
    have Ra := R.at (h' := s.heap.push (bareO w)) fun o e => kp a o e
    have Rb := R2.at (h' := s.heap.push (bareO w)) fun o e => kp b o e
    have R0 : SetR w (s.heap.push (bareO w)) s.heap.objs.size (fun _ => false) 0 := setR_fresh w
    obtain ⟨o, es, ep, t, ho, hex, hd, g, nd, hm, hb, hf, hz, hris, hl⟩ := id Ra
    refine wpAny_bind (wpAny_setEpoch_of ho hd hf ?_)
    refine wpAny_bind (wpAny_holding ?_)
    refine wpAny_bind ?_
    refine wp_if_pos rfl ?_
    have nra : s.heap.objs.size ≠ a := Nat.ne_of_gt la
    have nrb : s.heap.objs.size ≠ b := Nat.ne_of_gt lb
    refine walkUnseen_some Ra R0 nra (fun x hx => ?_) fun xs h1 g1 nd1 hx1 hz1 sb1 R1 => ?_
    · rcases List.mem_cons.mp hx with z | z
      · rw [z]; exact ⟨_, _, Rb⟩
      · rw [List.mem_singleton.mp z]; exact ⟨_, _, R0⟩
    refine wpAny_bind (wpAny_forIn_array' _ (fun rest _ s' => ∃ h' S' n', s' = { s with heap := h' } ∧ Heap.SameBut s.heap.objs.size (s.heap.push (bareO w)) h' ∧ SetR w h' s.heap.objs.size S' n' ∧ n' + rest.length ≤ n ∧ (∀ e ∈ rest, GoodE e) ∧ (∀ e ∈ rest, S (keyOf e) = true) ∧ ∀ k, ((S k && !T k) = true) ↔ S' k = true ∨ ((S k && !T k) = true ∧ k ∈ rest.map keyOf)) _ (fun e rest u s1 hI => ?_) (fun u s1 hI => ?_) xs _ ⟨h1, fun _ => false, 0, rfl, sb1, R1, by rw [Array.length_toList, hz1]; omega, g1, fun e he => (hx1 _).2 (List.mem_map.mpr ⟨e, he, rfl⟩), fun k => ⟨fun z => .inr ⟨z, (hx1 k).1 (by rw [Bool.and_eq_true] at z; exact z.1)⟩, fun z => z.elim (fun q => by cases q) fun q => q.1⟩⟩)
    · obtain ⟨h2, S', n', rfl, sb, R3, e2, g2, t2, i2⟩ := hI
      obtain ⟨k, tk, k1, k2⟩ := g2 e (List.mem_cons_self ..)
      obtain ⟨hh, v⟩ := e
      simp only at k1 k2
      subst k1 k2
      have tk0 : S k = true := t2 _ (List.mem_cons_self ..)
      rw [List.length_cons] at e2
      have Rb2 := Rb.at (h' := h2) fun o e => same_set sb nrb.symm e
      dsimp only
      refine wpAny_bind (wpAny_holding ?_)
      refine wp_if_pos rfl ?_
      refine wpAny_bind (find_at Rb2 fun r hr => ?_)
      refine wpAny_bind (wpAny_pure ?_)
      rw [hr]
      cases hT : T k with
      | true =>
        refine wp_if_neg (by simp) (wpAny_pure ?_)
        refine wpAny_bind (unch (same_set sb nra.symm ho) hd hf (wpAny_pure ⟨h2, S', n', rfl, sb, R3, by omega, fun e he => g2 e (List.mem_cons_of_mem _ he), fun e he => t2 e (List.mem_cons_of_mem _ he), fun j => ?_⟩))
        refine (i2 j).trans ?_
        simp only [List.map_cons, List.mem_cons]
        have kk : keyOf (hashInt k, Value.int k tk) = k := rfl
        rw [kk]
        constructor
        · rintro (z | ⟨z, y | y⟩)
          · exact .inl z
          · subst y; rw [hT] at z; simp at z
          · exact .inr ⟨z, y⟩
        · rintro (z | ⟨z, y⟩)
          · exact .inl z
          · exact .inr ⟨z, .inr y⟩
      | false =>
        refine wp_if_pos rfl ?_
        refine wpAny_bind (setR_add_hashed R3 (by have : 16 < scanBound := by decide
                                                  omega) fun h3 sb3 R4 => ?_)
        refine wpAny_pure ?_
        refine wpAny_bind (unch (same_set sb3 nra.symm (same_set sb nra.symm ho)) hd hf (wpAny_pure ⟨h3, _, _, rfl, sb.trans sb3, R4, by split <;> omega, fun e he => g2 e (List.mem_cons_of_mem _ he), fun e he => t2 e (List.mem_cons_of_mem _ he), fun j => ?_⟩))
        refine (i2 j).trans ?_
        simp only [List.map_cons, List.mem_cons, Bool.or_eq_true, decide_eq_true_eq]
        have kk : keyOf (hashInt k, Value.int k tk) = k := rfl
        rw [kk]
        constructor
        · rintro (z | ⟨z, y | y⟩)
          · exact .inl (.inl z)
          · exact .inl (.inr y)
          · exact .inr ⟨z, y⟩
        · rintro ((z | z) | ⟨z, y⟩)
          · exact .inl z
          · subst z
            exact .inr ⟨by rw [tk0, hT]; rfl, .inl rfl⟩
          · exact .inr ⟨z, .inr y⟩
    · obtain ⟨h2, S', n', rfl, sb, R3, e2, _, _, i2⟩ := hI
      refine wpAny_pure (wpAny_pure ?_)
      refine hQ h2 n' (by omega) (fun x u e => ?_) (R3.congr fun k => ?_)
      · rw [sb.2 x (Nat.ne_of_lt (Heap.lt_size e))]
        exact kp x u e
      · have q := i2 k
        simp only [List.map_nil, List.not_mem_nil, and_false, or_false] at q
        cases c1 : (S k && !T k) <;> cases c2 : S' k <;> simp_all
theorem entry_set_sub : entryFor table "set.__sub__" = some Builtin.«frozenset.__sub__» := entryFor_alias (id' := "frozenset.__sub__") (by kernel_rfl) rfl (by decide +kernel) (by kernel_rfl)
theorem sub_at {b : Addr} {S T : Int → Bool} {n m : Nat} {Q : Value → Shared → Prop} (R : SetR w s.heap a S n) (R2 : SetR w s.heap b T m) (hn : n ≤ 15)
    (hQ : ∀ (h' : Heap) (n' : Nat), n' ≤ n → (∀ c u, s.heap.get? c = some u → h'.get? c = some u) → SetR w h' s.heap.objs.size (fun j => S j && !T j) n' → Q (.ref s.heap.objs.size) { s with heap := h' }) :
    wpAny (model P w) A (binaryOp .Sub (.ref a) (.ref b)) Q E s := by
  refine wpAny_binaryOp_same (T := "set") (id := "set.__sub__") (SetR.typeIs R) (SetR.typeIs R2) PySem.F.fills_set_sub PySem.F.slot_set_sub ?_
  refine wpAny_call_entry PySem.F.slot_set_sub (SetR.typeIs R) entry_set_sub ?_ (PySem.F.args_set_sub_2 _ _)
  have go : wpAny (model P w) A.in1 (do
      let c ← (Builtin.Frozenset.isAnySet (.ref a) <&&> Builtin.Frozenset.isAnySet (.ref b))
      if (!c) = true then
        rule "frozenset.__sub__.declined"
        ret .notImplemented
      else
        let l ← Builtin.Frozenset.addrOf (.ref a)
        let v ← Builtin.Frozenset.difference "frozenset.__sub__" l (.ref b)
        ret v) (fun fin s' => ∃ v, fin = Fin.done (Flow.ret v) ∧ v ≠ Value.notImplemented ∧ Q v s') E s := by
    refine wpAny_bind ?_
    unfold andM
    refine wpAny_bind (anySet (SetR.typeIs R) ?_)
    refine anySet (SetR.typeIs R2) ?_
    refine wp_if_neg (by simp) ?_
    unfold Builtin.Frozenset.addrOf
    refine wpAny_bind (wpAny_pure ?_)
    refine wpAny_bind (diff_at R R2 hn fun h' n' ln kp R3 => ?_)
    exact wpAny_pure ⟨_, rfl, (fun z => by cases z), hQ h' n' ln kp R3⟩
  exact go
variable {X : Cx}
/-- set(ints) - set(ints) -/
def rSSub (w : World) : R2 := fun x y H Q => ∃ (a b : Addr) (S T : Int → Bool) (n m : Nat), x = V.ref a ∧ y = V.ref b ∧ H a = some (SetO w a S n) ∧ H b = some (SetO w b T m) ∧ n ≤ 15 ∧ ∀ p n', n' ≤ n → H p = none → Q (.ref p) (upd H p (SetO w p (fun j => S j && !T j) n'))
theorem or_ssub : OpR X (binaryOp .Sub) (rSSub X.w) := by
  intro pins s σ H x y v u Q I rx ry h
  obtain ⟨a, b, S, T, n, m, rfl, rfl, ha, hb, hn, q⟩ := h
  cases rx
  cases ry
  refine sub_at (setO_get I ha) (setO_get I hb) hn fun h' n' ln kp R3 => ?_
  refine ⟨.ref _, upd H s.heap.objs.size (SetO X.w s.heap.objs.size (fun j => S j && !T j) n'), I.laid (t' := s.toks) kp (Nat.le_refl _) (setO_new R3), rfl, q _ n' ln (I.hok.fresh (Nat.le_refl _))⟩
end
end SD

set_option maxRecDepth 100000
set_option maxHeartbeats 4000000
/-! set(ints), a list or a tuple -/
namespace SD
open PySem PySem.Spec PyProof.Rows L2
section
variable {prog : Program} {w : World} {A : Around} {E : Value → Shared → Prop} {s : Shared}
theorem set_listI {l : Addr} {its : Array Value} {Q : Value → Shared → Prop} (ns : List Int) (calm : A.handled = none) (isl : s.heap.IsList l its) (areI : IntsAre its.toList ns) (room : ns.length + 1 < scanBound)
    (h : ∀ (h' : Heap) (tk c : Nat), SetR w h' s.heap.objs.size (fun j => decide (j ∈ ns)) c → c ≤ its.size → (∀ b o, b < s.heap.objs.size → s.heap.get? b = some o → h'.get? b = some o) → Q (.ref s.heap.objs.size) { s with heap := h', toks := tk }) :
    wpAny (model prog w) A (call (.type "set") [.ref l]) Q E s := by
  have nsz : its.size = ns.length := by
    have q := IntsAre.length areI
    rw [Array.length_toList] at q
    exact q
  obtain ⟨_, _, hmro⟩ := PySem.F.called_set.mro
  have f1 := PySem.F.called_set.made
  have f2 := PySem.F.called_set.sub
  have f3 := PySem.F.called_set.notType
  have f4 := PySem.F.called_set.canCreate
  have f5 := PySem.F.typeCall_set_1 (.ref l)
  refine wpAny_call (codeAny_of_tree (?_ : wpAny _ _ (callAny (.type "set") _) _ _ _))
  refine wpAny_pure ⟨Code.quiet_builtin _ (by decide +kernel), codeAny_builtin PySem.F.entry_type_call ?_⟩
  rw [Around.under_plain (weight_type_call_type "set" [.ref l] []) rfl]
  repeat (any_goals (first | assumption | wp_step))
  generalize eD : s.heap.objs.size = D at *
  refine codeAny_mono (code_set_led1 (.ref l) (E := E) (Q₁ := fun v t => v = .ref D ∧ t = { s with heap := s.heap.push (bareO w) }) ⟨by rw [eD], rfl⟩) fun r t hr => ?_
  rcases r with e | fl
  · exact hr
  cases fl with
  | ret v =>
    obtain ⟨rfl, rfl⟩ := hr
    have atD : (s.heap.push (bareO w)).get? D = some (bareO w) := by
      rw [← eD]
      exact Heap.get?_push_size _ rfl
    have isS : Shared.TypeIs { s with heap := s.heap.push (bareO w) } (.ref D) "set" := ⟨_, atD, rfl⟩
    have f6 := PySem.F.called_set.init.lookup
    have f7 := PySem.F.called_set.init.bind (.ref D)
    repeat (any_goals (first | assumption | wp_step))
    refine codeAny_mono (codeAny_call_builtin (R := wants (fun r t => r = .none ∧ ∃ h' tk c, t = { s with heap := h', toks := tk } ∧ SetR w h' D (fun j => decide (j ∈ ns)) c ∧ c ≤ its.size ∧ (∀ b o, b < D → s.heap.get? b = some o → h'.get? b = some o)) E)
      PySem.F.called_set.init.plain PySem.F.entry_set_init (check_set_init_1 isS ?_)) fun r2 t2 hr2 => ?_
    · have isl1 : (s.heap.push (bareO w)).IsList l its := isl.push _
      obtain ⟨ob, hob, hc, nl, hd⟩ := isl1
      have ltl : l < D := by
        obtain ⟨o, ho, _⟩ := isl
        rw [← eD]
        exact Heap.lt_size ho
      obtain ⟨ocls, odict, odata, oslots⟩ := ob
      simp only at hc hd
      subst hc hd
      have g1 := PySem.F.sub_list_set
      have g2 := PySem.F.sub_list_frozenset
      have g3 : (Value.type "list" == Value.type "dict") = false := by decide
      have isl2 : (s.heap.push (bareO w)).IsList l its := ⟨_, hob, rfl, nl, rfl⟩
      unfold Builtin.«set.__init__» noKeywords Builtin.Frozenset.updateFrom
      generalize hPI : pyIter = PI
      wp_walk
      subst hPI
      refine wpAny_pyIter_list isl2 (wpAny_bind (wpAny_runValue ?_))
      have calm3 : A.in1.in1.in1.handled = none := by simp [calm]
      have sz : (s.heap.push (bareO w)).objs.size = D + 1 := by rw [Heap.size_push, eD]
      have nI : l ≠ (s.heap.push (bareO w)).objs.size := by
        rw [sz]
        exact Nat.ne_of_lt (Nat.lt_succ_of_lt ltl)
      have nf : D ∉ [(s.heap.push (bareO w)).objs.size, l] := by
        rw [sz]
        intro z
        rcases List.mem_cons.mp z with z | z
        · omega
        · exact absurd (List.mem_singleton.mp z) (Nat.ne_of_gt ltl)
      have hval : ∀ (i : Nat) (v : Value), its[i]? = some v → ∃ k t, ns[i]? = some k ∧ v = .int k t := fun i v hv => by
        have hi : i < ns.length := by rw [← nsz]; exact (Array.getElem?_eq_some_iff.mp hv).1
        obtain ⟨t, e⟩ := PyProof.Rows.IntsAre.int_at areI i v (by rw [Array.getElem?_toList]; exact hv)
        exact ⟨ns[i], t, List.getElem?_eq_getElem hi, by rw [e, List.getD_eq_getElem?_getD, List.getElem?_eq_getElem hi]; rfl⟩
      refine set_update_ints ((Walks.list calm3 _ l nI its).toS) D nf ns nsz room hval (its.size - 0) 0 _ (by omega) (Nat.zero_le _) ⟨⟨_, Heap.get?_push_size _ rfl, rfl, rfl⟩, isl2.push _⟩ ⟨0, Nat.le_refl _, setR_new_at (Heap.get?_push_of_some _ atD)⟩ ?_
      intro t1 c mv lc so
      obtain ⟨h', g', d', tk', os'⟩ := t1
      obtain rfl : g' = s.gens := mv.gens
      obtain rfl : d' = s.drawn := mv.drawn
      obtain rfl : os' = s.os := mv.os
      show wpAny _ _ _ _ _ _
      refine wpAny_pure ?_
      show wpAny _ _ (ret Value.none) _ _ _
      refine wpAny_pure ⟨rfl, h', tk', c, rfl, so, lc, fun b o lb e => mv.heap b o (fun z => ?_) (Heap.get?_push_of_some _ (Heap.get?_push_of_some _ e))⟩
      rcases List.mem_cons.mp z with z | z
      · exact absurd z (Nat.ne_of_lt lb)
      · have e2 := List.mem_singleton.mp z
        rw [sz] at e2
        exact absurd e2 (Nat.ne_of_lt (Nat.lt_succ_of_lt lb))
    · rcases r2 with e | fl2
      · exact hr2
      cases fl2 with
      | ret r =>
        obtain ⟨rfl, h', tk, c, rfl, so, lc, kp⟩ := hr2
        repeat (any_goals (first | assumption | wp_step))
        exact h _ _ c so lc kp
      | _ => exact hr2.elim
  | _ => exact hr.elim
end
section
variable {X : Cx}
def rSetI (K : PySem.W.Frag) (w : World) : List V → Hp → VK → Prop := fun vs H Q => ∃ (l : Addr) (ns : List Int), vs = [V.ref l] ∧ (SqL K H l (ns.map V.int) ∨ SqT K H l (ns.map V.int)) ∧ ns.length ≤ 1000 ∧
  ∀ (p : Addr) (c : Nat), H p = none → c ≤ ns.length → Q (.ref p) (upd H p (SetO w p (fun j => decide (j ∈ ns)) c))
theorem cr_setI (hc : X.calm = true) : CallR X (.type "set") (rSetI X.K X.w) := by
  intro pins s σ H vs us Q I r h
  obtain ⟨l, ns, rfl, hl, ln, q⟩ := h
  rw [Vals.ref1 r]
  have hn : H s.heap.objs.size = none := I.hok.fresh (Nat.le_refl _)
  rcases hl with hl | hl
  · obtain ⟨its, rv, pl, hz⟩ := I.list hl
    have hlen : its.length = ns.length := by
      have := rv.length
      rw [List.length_map] at this
      exact this.symm
    refine set_listI ns (I.ok.hd hc) pl.isList (show IntsAre its.toArray.toList ns from intsAre_of rv) (by unfold scanBound; omega) fun h' tk c so lc kp => ?_
    exact ⟨.ref s.heap.objs.size, upd H s.heap.objs.size (SetO X.w s.heap.objs.size _ c), I.laid (t' := tk) (fun b o e => kp b o (Heap.lt_size e) e) (Nat.le_refl _) (setO_new so), rfl, q _ _ hn (by rw [← hlen]; simpa using lc)⟩
  · obtain ⟨its, rv, pt, hz⟩ := I.tuple hl
    refine call_set_tupI ns (I.ok.hd hc) (show s.heap.IsTuple l its.toArray from pt) (intsAre_of rv) (by unfold scanBound; omega) fun h' tk c so lc kp => ?_
    exact ⟨.ref s.heap.objs.size, upd H s.heap.objs.size (SetO X.w s.heap.objs.size _ c), I.laid (t' := tk) kp (Nat.le_refl _) (setO_new so), rfl, q _ _ hn lc⟩
end
end SD

set_option maxRecDepth 100000
set_option maxHeartbeats 4000000
/-! sums, greatest and least of tuples, with a default, of four; a tuple of ints in a message -/
namespace RU
open PySem PySem.Spec PyProof.Rows L2
section
variable {prog : Program} {w : World} {A : Around} {E : Value → Shared → Prop} {s : Shared} {l : Addr} {its : List Value} {ns : List Int} {Q : Value → Shared → Prop}
theorem walk_tupI {xs : Array (Int × Tok)} (hl : s.heap.IsTuple l (intItems xs)) {Q : Value → Shared → Prop}
    (h : (∀ b ∈ [s.heap.objs.size, l], b < (s.heap.push { cls := .type "tuple_iterator", data := .fields #[.ref l, .int 0 0] }).objs.size) → l ≠ s.heap.objs.size → (s.heap.push { cls := .type "tuple_iterator", data := .fields #[.ref l, .int 0 0] }).IsTuple l (intItems xs) → Q (.ref s.heap.objs.size) { s with heap := s.heap.push { cls := .type "tuple_iterator", data := .fields #[.ref l, .int 0 0] } }) :
    wpAny (model prog w) A (pyIter (.ref l)) Q E s := by
  have hlt : l < s.heap.objs.size := by
    obtain ⟨o, ho, _⟩ := hl
    exact Heap.lt_size ho
  refine wpAny_pyIter_tuple hl (h (fun b hb => ?_) (Nat.ne_of_lt hlt) (hl.push _))
  rw [Heap.size_push]
  rcases List.mem_cons.mp hb with z | z
  · omega
  · rw [List.mem_singleton.mp z]; exact Nat.lt_succ_of_lt hlt
theorem old_of {h h' : Heap} {o : Obj} (hk : ∀ b u, b ∉ [h.objs.size] → (h.push o).get? b = some u → h'.get? b = some u) : ∀ b u, h.get? b = some u → h'.get? b = some u := fun b u e =>
  hk b u (fun z => absurd (Heap.lt_size e) (by rw [List.mem_singleton.mp z]; exact Nat.lt_irrefl _)) (Heap.get?_push_of_some _ e)
theorem sum_tupI (hh : A.handled = none) (hl : s.heap.IsTuple l its.toArray) (hi : IntsAre its ns)
    (h : ∀ h' tk t', (∀ b o, s.heap.get? b = some o → h'.get? b = some o) → Q (.int ns.sum t') { s with heap := h', toks := tk }) : wpAny (model prog w) A (call (.builtin "sum") [.ref l]) Q E s := by
  obtain ⟨xs, e⟩ := hi.allInts.items
  have hn : numsOf (intItems xs).toList = ns := by rw [← e]; exact hi.numsOf
  rw [nums_intItems] at hn
  rw [e] at hl
  refine call_sum_walkG (walk_tupI hl fun hfp hlI hl2 => ?_)
  refine ⟨_, _, _, _, _, _, numAt xs, rfl, Walks.tuple (A := A.in1) hh _ l hlI (intItems xs), ⟨⟨_, Heap.get?_push_size _ rfl, rfl, rfl⟩, hl2⟩, hfp, (fun _ _ => intItems_at), fun h' tk t' hk => ?_⟩
  have := h h' tk t' (old_of hk)
  have hz : (intItems xs).size = xs.size := by simp [intItems]
  rw [hz, preSum_eq, List.take_of_length_le (by simp), hn]
  exact this
theorem max_tupI (hh : A.handled = none) (hl : s.heap.IsTuple l its.toArray) (hi : IntsAre its ns) (hne : 0 < ns.length)
    (h : ∀ h' tk M t', (∀ b o, s.heap.get? b = some o → h'.get? b = some o) → M ∈ ns → (∀ a, a ∈ ns → a ≤ M) → Q (.int M t') { s with heap := h', toks := tk }) : wpAny (model prog w) A (call (.builtin "max") [.ref l]) Q E s := by
  obtain ⟨xs, e⟩ := hi.allInts.items
  have hn : numsOf (intItems xs).toList = ns := by rw [← e]; exact hi.numsOf
  rw [nums_intItems] at hn
  subst hn
  rw [e] at hl
  have hsz : 0 < xs.size := by simpa using hne
  refine call_max_walk (walk_tupI hl fun hfp hlI hl2 => ?_)
  refine ⟨_, _, _, _, _, _, _, rfl, Walks.tuple (A := A.in1) hh _ l hlI (intItems xs), ⟨⟨_, Heap.get?_push_size _ rfl, rfl, rfl⟩, hl2⟩, hfp, by simpa [intItems] using hsz, CmpOf.ints_gt (numAt xs) (fun _ _ => intItems_at), fun v h' tk hP hk => ?_⟩
  have hv : (intItems xs)[argBest (fun i j => decide (numAt xs i > numAt xs j)) (xs.size - 1)]? = some v := by simpa [intItems] using hP
  obtain ⟨t, rfl⟩ := intItems_at hv
  obtain ⟨h1, h2⟩ := argBest_gt (numAt xs) (xs.size - 1)
  refine h h' tk _ t (old_of hk) ?_ fun a ha => ?_
  · rw [numAt_eq]; exact PySem.getD_mem (by rw [List.length_map, Array.length_toList]; omega)
  · obtain ⟨j, hj, rfl⟩ := mem_getD ha
    rw [List.length_map, Array.length_toList] at hj
    rw [← numAt_eq]; exact h2 j (by omega)
theorem args_min4 (a b c d : Value) : argsOk "min" ⟨[a, b, c, d], []⟩ := by unfold argsOk; kernel_rfl
theorem min_four {a b c d : Int} {ta tb tc td : Tok} (hh : A.handled = none)
    (h : ∀ h' tk M t', (∀ b o, s.heap.get? b = some o → h'.get? b = some o) → M ∈ [a, b, c, d] → (∀ x, x ∈ [a, b, c, d] → M ≤ x) → Q (.int M t') { s with heap := h', toks := tk }) :
    wpAny (model prog w) A (call (.builtin "min") [.int a ta, .int b tb, .int c tc, .int d td]) Q E s := by
  have hname : (toString "min" ++ toString ".loop" : String) = "min.loop" := by decide
  refine call_function_tree F.kind_min F.plain_min F.entry_min (args_min4 _ _ _ _) ?_
  show wpAny _ A.in1 (Builtin.Builtins.bindParams "min" ["key", "default"] 0 ⟨[], []⟩ >>= _) _ _ s
  refine wpAny_bind (wpAny_of_eq (show Builtin.Builtins.bindParams "min" ["key", "default"] 0 ⟨[], []⟩ = pure [none, none] from rfl) ?_)
  show wpAny _ A.in1 (newTuple [.int a ta, .int b tb, .int c tc, .int d td] >>= _) _ _ s
  refine wpAny_bind (wpAny_newObj_type ?_)
  generalize hxs : (#[(a, ta), (b, tb), (c, tc), (d, td)] : Array (Int × Tok)) = xs
  have e4 : intItems xs = #[.int a ta, .int b tb, .int c tc, .int d td] := by rw [← hxs]; simp [intItems]
  have hT : (s.heap.push { cls := .type "tuple", data := .seq [Value.int a ta, .int b tb, .int c tc, .int d td].toArray }).IsTuple s.heap.objs.size (intItems xs) := ⟨_, Heap.get?_push_size _ rfl, rfl, 0, by rw [e4]⟩
  refine wpAny_bind (walk_tupI (s := { s with heap := s.heap.push { cls := .type "tuple", data := .seq [Value.int a ta, .int b tb, .int c tc, .int d td].toArray } }) hT fun hfp hlI hl2 => ?_)
  refine wpAny_bind (wpAny_newObj_type ?_)
  rw [hname]
  have W := Walks.tuple (prog := prog) (w := w) (A := A.in1) hh (s.heap.push { cls := .type "tuple", data := .seq [Value.int a ta, .int b tb, .int c tc, .int d td].toArray }).objs.size s.heap.objs.size hlI (intItems xs)
  generalize hH : (s.heap.push { cls := .type "tuple", data := .seq [Value.int a ta, .int b tb, .int c tc, .int d td].toArray }) = H1 at *
  have hz1 : H1.objs.size = s.heap.objs.size + 1 := by rw [← hH]; exact Heap.size_push _ _
  have hz2 : (H1.push { cls := .type "tuple_iterator", data := .fields #[.ref s.heap.objs.size, .int 0 0] }).objs.size = H1.objs.size + 1 := Heap.size_push _ _
  have hSf : (H1.push { cls := .type "tuple_iterator", data := .fields #[.ref s.heap.objs.size, .int 0 0] }).objs.size ∉ [H1.objs.size, s.heap.objs.size] := fun hm => Nat.lt_irrefl _ (hfp _ hm)
  refine wpAny_pure ⟨plainId_quiet F.plain_min_loop _, codeAny_min_loop_first W (fun i j => decide (numAt xs i < numAt xs j)) (CmpOf.ints_lt (numAt xs) (fun _ _ => intItems_at)) _ hSf (by rw [e4]; simp) (W.frame _ _ _ ⟨⟨_, Heap.get?_push_size _ rfl, rfl, rfl⟩, hl2⟩ fun b _ o e => Heap.get?_push_of_some _ e) (Heap.get?_push_size _ rfl) fun v h' tk hP hk => ?_⟩
  have hsz : xs.size = 4 := by rw [← hxs]; rfl
  have hv : (intItems xs)[argBest (fun i j => decide (numAt xs i < numAt xs j)) (xs.size - 1)]? = some v := by
    have : (intItems xs).size = xs.size := by simp [intItems]
    rw [this] at hP
    exact hP
  obtain ⟨t, rfl⟩ := intItems_at hv
  obtain ⟨h1, h2⟩ := argBest_lt (numAt xs) (xs.size - 1)
  have en : [a, b, c, d] = xs.toList.map (·.1) := by rw [← hxs]; rfl
  refine h h' tk _ t (fun x o e => ?_) ?_ fun y hy => ?_
  · have lt := Heap.lt_size e
    refine hk x o (fun z => ?_) (fun z => ?_) (Heap.get?_push_of_some _ (Heap.get?_push_of_some _ ?_))
    · have z2 : x = H1.objs.size := List.mem_singleton.mp z
      rw [z2, hz1] at lt
      exact Nat.lt_irrefl _ (Nat.lt_of_succ_lt lt)
    · have z2 : x = (H1.push { cls := .type "tuple_iterator", data := .fields #[.ref s.heap.objs.size, .int 0 0] }).objs.size := z
      rw [z2, hz2, hz1] at lt
      exact Nat.lt_irrefl _ (Nat.lt_of_succ_lt (Nat.lt_of_succ_lt lt))
    · rw [← hH]; exact Heap.get?_push_of_some _ e
  · rw [en, numAt_eq]; exact PySem.getD_mem (by rw [List.length_map, Array.length_toList]; omega)
  · rw [en] at hy
    obtain ⟨j, hj, rfl⟩ := mem_getD hy
    rw [List.length_map, Array.length_toList] at hj
    rw [← numAt_eq]; exact h2 j (by omega)
end
section
variable {X : Cx}
/-- sum(t), t of ints -/
def rSumT (K : PySem.W.Frag) : List V → Hp → VK → Prop := fun vs H Q => ∃ (a : Addr) (ns : List Int), vs = [V.ref a] ∧ SqT K H a (ns.map V.int) ∧ Q (.int ns.sum) H
theorem cr_sumT (hc : X.calm = true) : CallR X (.builtin "sum") (rSumT X.K) := by
  intro pins s σ H vs us Q I r h
  obtain ⟨a, ns, rfl, hs, q⟩ := h
  obtain ⟨its, rv, hl, _⟩ := I.tuple hs
  rw [Vals.ref1 r]
  exact sum_tupI (I.ok.hd hc) hl rv.ints fun h' tk t' hk => ⟨.int _, H, I.kept hk, ⟨_, rfl⟩, q⟩
def rMaxT (K : PySem.W.Frag) : List V → Hp → VK → Prop := fun vs H Q => ∃ (a : Addr) (ns : List Int), vs = [V.ref a] ∧ SqT K H a (ns.map V.int) ∧ 0 < ns.length ∧ ∀ m, m ∈ ns → (∀ y, y ∈ ns → y ≤ m) → Q (.int m) H
theorem cr_maxT (hc : X.calm = true) : CallR X (.builtin "max") (rMaxT X.K) := by
  intro pins s σ H vs us Q I r h
  obtain ⟨a, ns, rfl, hs, hne, q⟩ := h
  obtain ⟨its, rv, hl, _⟩ := I.tuple hs
  rw [Vals.ref1 r]
  exact max_tupI (I.ok.hd hc) hl rv.ints hne fun h' tk m t' hk h1 h2 => ⟨.int _, H, I.kept hk, ⟨_, rfl⟩, q m h1 h2⟩
/-- min(a, b, c, d) -/
def rMin4 : List V → Hp → VK → Prop := fun vs H Q => ∃ a b c d : Int, vs = [.int a, .int b, .int c, .int d] ∧ ∀ m, m ∈ [a, b, c, d] → (∀ y, y ∈ [a, b, c, d] → m ≤ y) → Q (.int m) H
theorem cr_min4 (hc : X.calm = true) : CallR X (.builtin "min") rMin4 := by
  intro pins s σ H vs us Q I r h
  obtain ⟨a, b, c, d, rfl, q⟩ := h
  cases r with
  | cons r1 r => cases r with
    | cons r2 r => cases r with
      | cons r3 r => cases r with
        | cons r4 r =>
          cases r
          obtain ⟨_, rfl⟩ := r1
          obtain ⟨_, rfl⟩ := r2
          obtain ⟨_, rfl⟩ := r3
          obtain ⟨_, rfl⟩ := r4
          exact min_four (I.ok.hd hc) fun h' tk m t' hk h1 h2 => ⟨.int _, H, I.kept hk, ⟨_, rfl⟩, q m h1 h2⟩
/-- max(xs, default=d), xs of ints -/
def rMaxDf (K : PySem.W.Frag) : List V → List V → Hp → VK → Prop := fun vs zs H Q => ∃ (a : Addr) (ns : List Int) (d : Int), vs = [V.ref a] ∧ zs = [.int d] ∧ SqL K H a (ns.map V.int) ∧ (ns = [] → Q (.int d) H) ∧ ∀ m, m ∈ ns → (∀ y, y ∈ ns → y ≤ m) → Q (.int m) H
theorem maxOf_is (x : Int) (xs : List Int) : PySem.W.maxOf x xs ∈ x :: xs ∧ ∀ y ∈ x :: xs, y ≤ PySem.W.maxOf x xs := by
  induction xs generalizing x with
  | nil =>
    refine ⟨List.mem_cons_self .., fun y hy => ?_⟩
    rw [List.mem_singleton.mp hy]
    exact Int.le_refl _
  | cons z r ih =>
    have e : PySem.W.maxOf x (z :: r) = PySem.W.maxOf (if decide (x < z) = true then z else x) r := rfl
    rw [e]
    obtain ⟨h1, h2⟩ := ih (if decide (x < z) = true then z else x)
    have h3 := h2 _ (List.mem_cons_self ..)
    refine ⟨?_, fun y hy => ?_⟩
    · rcases List.mem_cons.mp h1 with q | q
      · rw [q]
        split
        · exact List.mem_cons_of_mem _ (List.mem_cons_self ..)
        · exact List.mem_cons_self ..
      · exact List.mem_cons_of_mem _ (List.mem_cons_of_mem _ q)
    · have hx : x ≤ PySem.W.maxOf (if decide (x < z) = true then z else x) r ∧ z ≤ PySem.W.maxOf (if decide (x < z) = true then z else x) r := by
        by_cases c : x < z
        · rw [if_pos (by simpa using c)] at h3 ⊢
          omega
        · rw [if_neg (by simpa using c)] at h3 ⊢
          omega
      rcases List.mem_cons.mp hy with q | q
      · rw [q]; exact hx.1
      · rcases List.mem_cons.mp q with q | q
        · rw [q]; exact hx.2
        · exact h2 y (List.mem_cons_of_mem _ q)
theorem cr_maxDf (hc : X.calm = true) (hu : X.A.units + 64 < cLine) : CallRK X (.builtin "max") [Str.ofString "default"] (rMaxDf X.K) := by
  intro pins s σ H vs zs us ws Q I r rz h
  obtain ⟨a, ns, d, rfl, rfl, hs, q0, q1⟩ := h
  obtain ⟨its, rv, hl, _⟩ := I.list hs
  rw [Vals.ref1 r]
  cases rz with
  | cons r1 rr =>
    cases rr
    obtain ⟨td, rfl⟩ := r1
    show wpAny _ _ (call (.builtin "max") [.ref a] [(Str.ofString "default", .int d td)]) _ _ _
    refine PySem.W.max_list_datum_default (α := Int) (xs := ns) (I.ok.hd hc) hl.isList (PySem.W.HoldAll.of_ints (by simpa using rv.ints)) (by show X.A.units + 1 + 0 < cLine; omega) (fun e h' tk hk => ⟨.int d, H, I.kept hk, ⟨_, rfl⟩, q0 e⟩) fun y ys i v h' tk e hi hv hk => ?_
    have hi2 : its[i]? = some v := by simpa using hi
    obtain ⟨x, hx, rx⟩ : ∃ x, (ns.map V.int)[i]? = some x ∧ RelV x v := by
      have hlen := rv.length
      have hlt : i < (ns.map V.int).length := by
        rw [hlen]
        exact (List.getElem?_eq_some_iff.mp hi2).1
      obtain ⟨u, hu2, ru⟩ := rv.get (List.getElem?_eq_getElem hlt)
      rw [hi2] at hu2
      cases hu2
      exact ⟨_, List.getElem?_eq_getElem hlt, ru⟩
    rw [List.getElem?_map] at hx
    obtain ⟨m, hm, rfl⟩ := Option.map_eq_some_iff.mp hx
    obtain ⟨tm, rfl⟩ := rx
    obtain ⟨as, hr⟩ := hv
    have em : m = PySem.W.maxOf y ys := by
      have hr : Reads h' (.int m tm) (.int (PySem.W.maxOf y ys)) as := hr
      cases hr
      rfl
    obtain ⟨m1, m2⟩ := maxOf_is y ys
    rw [← em, ← e] at m1
    refine ⟨.int m, H, I.kept hk, ⟨_, rfl⟩, q1 m m1 fun z hz => ?_⟩
    rw [em]
    rw [e] at hz
    exact m2 z hz
/-- {t} of a tuple of ints: some text -/
def tFmtTI (K : PySem.W.Frag) (te : TE) : TE := fun σ H Q => te σ H fun x H1 => ∃ (a : Addr) (l : List Int), x = .ref a ∧ SqT K H1 a (l.map V.int) ∧ l.length ≤ 10 ∧ (∀ i ∈ l, XT.Sm i) ∧ ∀ m : Str, m.length ≤ 20000 → Q (.str m) H1
theorem repr_ints {prog : Program} {w : World} : ∀ {l : List Int} {its : List Value}, Vals (l.map V.int) its → (∀ i ∈ l, XT.Sm i) → ReprAll prog w its (l.map fun i => (toString i : Str))
  | [], _, r, _ => by
    cases r
    exact .nil
  | y :: l, _, r, h => by
    cases r with
    | cons r1 r2 =>
      obtain ⟨t, rfl⟩ := r1
      exact .cons (ReprIs.int t (h y (List.mem_cons_self ..)).log) (repr_ints r2 fun z hz => h z (List.mem_cons_of_mem _ hz))
theorem piled_ints : ∀ l : List Int, (∀ i ∈ l, XT.Sm i) → piled (l.map fun i => (toString i : Str)) ≤ 1010 * l.length
  | [], _ => Nat.zero_le _
  | y :: r, h => by
    rw [List.map_cons, piled_cons, List.length_cons]
    have h1 : (toString y : Str).length ≤ 1000 := (h y (List.mem_cons_self ..)).text
    have h2 := piled_ints r fun z hz => h z (List.mem_cons_of_mem _ hz)
    omega
theorem pe_fmtTI {e : Expr} {te : TE} {pos : Pos} {k : Nat} (hr : Room k X.A) (he : PE X e te) : PE X (.FormattedValue e (-1) none pos) (tFmtTI X.K te) := by
  refine ⟨fun pins s σ H Q I h => ?_⟩
  refine wpAny_FormattedValue_plain (thn (he.run pins s σ H _ I h) fun v s1 hv => ?_)
  obtain ⟨x, H1, I1, r1, a, l, rfl, ht, hl, hb, q⟩ := hv
  cases r1
  obtain ⟨its, rv, ⟨o, ho, hcl, n, hd⟩, _⟩ := I1.tuple ht
  have hu := hr.units
  have hp := piled_ints l hb
  have htx := fmt_text (l.map fun i => (toString i : Str))
  have big : 20000 ≤ sizeLine := by decide
  refine fmt_tuple (ts := l.map fun i => (toString i : Str)) (by omega) ho hcl hd (repr_ints rv hb) (by omega) fun m u tk hm => ⟨.str m, H1, I1.tok _, ⟨u, rfl⟩, q m (by omega)⟩
end
end RU

set_option maxRecDepth 100000
set_option maxHeartbeats 4000000
/-! for pair in zip(tuple, tuple): the pairs are kept by a name -/
namespace RU
open PySem PySem.Spec PyProof.Rows L2 RZ
section
variable {prog : Program} {w : World} {A : Around} {E : Value → Shared → Prop} {s : Shared}
theorem pair_next {g u1 u2 T j1 j2 a b : Addr} {f : Bool} {oT : Obj} {n1 n2 : Nat} {us vs : Array Value} {x y : Value} {Q : Value → Shared → Prop} (D : ZipApart g u1 u2 j1 j2 a b)
    (ig : IsZipHeld s.heap g u1 u2 T f) (iT : s.heap.get? T = some oT) (iu : IsPair s.heap u1 (.ref j1) (.ref j2)) (i1 : s.heap.IsTupleIter j1 a n1) (i2 : s.heap.IsTupleIter j2 b n2) (ia : s.heap.IsTuple a us) (ib : s.heap.IsTuple b vs) (ex : us[n1]? = some x) (ey : vs[n2]? = some y)
    (k : ∀ h', IsZipHeld h' g u1 u2 T true → h'.IsTupleIter j1 a (n1 + 1) → h'.IsTupleIter j2 b (n2 + 1) → IsPair h' s.heap.objs.size x y → (∀ c o, c ≠ g → c ≠ j1 → c ≠ j2 → s.heap.get? c = some o → h'.get? c = some o) → Q (.ref s.heap.objs.size) { s with heap := h' }) :
    wpAny (model prog w) A (Builtin.«zip.__next__» ⟨[.ref g], []⟩) (fun fin t => ∃ v, fin = .done (.ret v) ∧ Q v t) E s := by
  show wpAny _ _ (field (.ref g) 2 >>= _) _ _ _
  refine wpAny_bind (wpAny_field ig rfl (x := .bool false) rfl ?_)
  show wpAny _ _ (field (.ref g) 3 >>= _) _ _ _
  refine wpAny_bind (wpAny_field ig rfl (x := .ref u1) rfl ?_)
  refine wpAny_bind (wpAny_seqItems iu rfl ?_)
  show wpAny _ _ (Builtin.SmallTypes.ownedTupleIsFree (.ref g) >>= _) _ _ _
  refine wpAny_bind (wpAny_tupleHeld_zip ig iT fun m1 ig1 b1 => ?_)
  simp only [if_false, Bool.false_eq_true]
  refine wpAny_bind ?_
  rw [← Array.forIn_toList]
  simp only [List.forIn_nil, List.forIn_cons]
  refine wpAny_bind (wpAny_bind (wpAny_holding ?_))
  show wpAny _ _ (Builtin.SmallTypes.nextOf (.ref j1) >>= _) _ _ _
  refine wpAny_bind (nextOf_tuple_item (s := { s with heap := m1 }) (i1.extBut b1.extBut D.i1z) (ia.extBut b1.extBut D.l1z) ex fun m2 i1' b2 => wpAny_pure ?_)
  refine wpAny_pure ?_
  refine wpAny_bind (wpAny_bind (wpAny_holding ?_))
  show wpAny _ _ (Builtin.SmallTypes.nextOf (.ref j2) >>= _) _ _ _
  refine wpAny_bind (nextOf_tuple_item (s := { s with heap := m2 }) ((i2.extBut b1.extBut D.i2z).extBut b2.extBut D.i12.symm) ((ib.extBut b1.extBut D.l2z).extBut b2.extBut D.l2i1) ey fun m3 i2' b3 => wpAny_pure ?_)
  refine wpAny_pure (wpAny_pure ?_)
  show wpAny _ _ (newTuple [x, y] >>= _) _ _ _
  refine wpAny_bind (wpAny_newTuple ?_)
  have z3 : m3.objs.size = s.heap.objs.size := by rw [b3.1, b2.1, b1.1]
  have ig3 : IsZipHeld m3 g u1 u2 T true := b3.extBut _ _ D.i2z.symm (b2.extBut _ _ D.i1z.symm ig1)
  have i13 : m3.IsTupleIter j1 a (n1 + 1) := i1'.extBut b3.extBut D.i12
  refine wpAny_pure ⟨_, rfl, ?_⟩
  show Q (.ref m3.objs.size) _
  have pr : IsPair (m3.push { cls := .type "tuple", data := .seq #[x, y] }) m3.objs.size x y := Heap.get?_push_size _ rfl
  rw [z3] at pr ⊢
  exact k _ (Heap.get?_push_of_some _ ig3) (i13.at fun _ e => Heap.get?_push_of_some _ e) (i2'.at fun _ e => Heap.get?_push_of_some _ e) pr fun c o c1 c2 c3 e => Heap.get?_push_of_some _ (b3.extBut _ _ c3 (b2.extBut _ _ c2 (b1.extBut _ _ c1 e)))
theorem pair_end {g u1 u2 T j1 j2 a b : Addr} {f : Bool} {oT : Obj} {n1 n2 : Nat} {us vs : Array Value} {Q : Fin → Shared → Prop} (hh : A.handled = none) (D : ZipApart g u1 u2 j1 j2 a b)
    (ig : IsZipHeld s.heap g u1 u2 T f) (iT : s.heap.get? T = some oT) (iu : IsPair s.heap u1 (.ref j1) (.ref j2)) (i1 : s.heap.IsTupleIter j1 a n1) (i2 : s.heap.IsTupleIter j2 b n2) (ia : s.heap.IsTuple a us) (ib : s.heap.IsTuple b vs) (stop : us[n1]? = none ∨ vs[n2]? = none)
    (k : ∀ h' e, (∀ c o, c ≠ g → c ≠ j1 → c ≠ j2 → s.heap.get? c = some o → h'.get? c = some o) → (∃ o, h'.get? e = some o ∧ o.cls = .type "StopIteration") → E (.ref e) { s with heap := h' }) :
    wpAny (model prog w) A (Builtin.«zip.__next__» ⟨[.ref g], []⟩) Q E s := by
  show wpAny _ _ (field (.ref g) 2 >>= _) _ _ _
  refine wpAny_bind (wpAny_field ig rfl (x := .bool false) rfl ?_)
  show wpAny _ _ (field (.ref g) 3 >>= _) _ _ _
  refine wpAny_bind (wpAny_field ig rfl (x := .ref u1) rfl ?_)
  refine wpAny_bind (wpAny_seqItems iu rfl ?_)
  show wpAny _ _ (Builtin.SmallTypes.ownedTupleIsFree (.ref g) >>= _) _ _ _
  refine wpAny_bind (wpAny_tupleHeld_zip ig iT fun m1 ig1 b1 => ?_)
  simp only [if_false, Bool.false_eq_true]
  refine wpAny_bind ?_
  rw [← Array.forIn_toList]
  simp only [List.forIn_nil, List.forIn_cons]
  refine wpAny_bind (wpAny_bind (wpAny_holding ?_))
  show wpAny _ _ (Builtin.SmallTypes.nextOf (.ref j1) >>= _) _ _ _
  cases ex : us[n1]? with
  | none => exact wpAny_bind (nextOf_tuple_end (s := { s with heap := m1 }) hh (i1.extBut b1.extBut D.i1z) (ia.extBut b1.extBut D.l1z) ex fun m2 e b2 he => k m2 e (fun c o c1 c2 _ q => b2 _ _ c2 (b1.extBut _ _ c1 q)) he)
  | some x =>
    have ey : vs[n2]? = none := stop.elim (fun q => by rw [ex] at q; cases q) id
    refine wpAny_bind (nextOf_tuple_item (s := { s with heap := m1 }) (i1.extBut b1.extBut D.i1z) (ia.extBut b1.extBut D.l1z) ex fun m2 i1' b2 => wpAny_pure ?_)
    refine wpAny_pure ?_
    refine wpAny_bind (wpAny_bind (wpAny_holding ?_))
    show wpAny _ _ (Builtin.SmallTypes.nextOf (.ref j2) >>= _) _ _ _
    exact wpAny_bind (nextOf_tuple_end (s := { s with heap := m2 }) hh ((i2.extBut b1.extBut D.i2z).extBut b2.extBut D.i12.symm) ((ib.extBut b1.extBut D.l2z).extBut b2.extBut D.l2i1) ey fun m3 e b3 he => k m3 e (fun c o c1 c2 c3 q => b3 _ _ c3 (b2.extBut _ _ c2 (b1.extBut _ _ c1 q))) he)
/-- the zip g: what it keeps in its first two fields -/
abbrev ZipF (h : Heap) (g u1 u2 : Addr) (f0 : Value) (f : Bool) : Prop := h.get? g = some { cls := .type "zip", dict := none, data := .fields #[f0, .bool f, .bool false, .ref u1, .ref u2], slots := #[] }
def Free0 (h : Heap) (f0 : Value) : Prop := f0 = .none ∨ ∃ T : Addr, f0 = rawInt T ∧ h.get? T = none
theorem free_at {g u1 u2 : Addr} {f0 : Value} {f : Bool} {Q : Bool → Shared → Prop} (ig : ZipF s.heap g u1 u2 f0 f) (fr : Free0 s.heap f0) (k : Q true s) : wpAny (model prog w) A (Builtin.SmallTypes.ownedTupleIsFree (.ref g)) Q E s := by
  unfold Builtin.SmallTypes.ownedTupleIsFree
  refine wpAny_bind (wpAny_field ig rfl (x := f0) rfl ?_)
  rcases fr with rfl | ⟨T, rfl, dead⟩
  · exact wpAny_pure k
  · show wpAny _ _ (loadIfAlive ((T : Int).toNat) >>= _) _ _ _
    rw [Int.toNat_natCast]
    have al : ∀ {R : Option Obj → Shared → Prop}, R none s → wpAny (model prog w) A (loadIfAlive T) R E s := fun q Γ p _ => by
      unfold loadIfAlive
      rw [Sem.wp_loadIfAlive, dead]
      exact q
    exact wpAny_bind (al (wpAny_pure k))
theorem free_next {g u1 u2 j1 j2 a b : Addr} {f0 p q : Value} {f : Bool} {n1 n2 : Nat} {us vs : Array Value} {x y : Value} {Q : Value → Shared → Prop} (D : ZipApart g u1 u2 j1 j2 a b)
    (ig : ZipF s.heap g u1 u2 f0 f) (fr : Free0 s.heap f0) (iu : IsPair s.heap u1 (.ref j1) (.ref j2)) (iw : IsPair s.heap u2 p q) (i1 : s.heap.IsTupleIter j1 a n1) (i2 : s.heap.IsTupleIter j2 b n2) (ia : s.heap.IsTuple a us) (ib : s.heap.IsTuple b vs) (ex : us[n1]? = some x) (ey : vs[n2]? = some y)
    (k : ∀ h', ZipF h' g u1 u2 (rawInt s.heap.objs.size) false → IsPair h' u2 x y → h'.IsTupleIter j1 a (n1 + 1) → h'.IsTupleIter j2 b (n2 + 1) → IsPair h' s.heap.objs.size x y → (∀ c o, c ≠ g → c ≠ u2 → c ≠ j1 → c ≠ j2 → s.heap.get? c = some o → h'.get? c = some o) → Q (.ref s.heap.objs.size) { s with heap := h' }) :
    wpAny (model prog w) A (Builtin.«zip.__next__» ⟨[.ref g], []⟩) (fun fin t => ∃ v, fin = .done (.ret v) ∧ Q v t) E s := by
  show wpAny _ _ (field (.ref g) 2 >>= _) _ _ _
  refine wpAny_bind (wpAny_field ig rfl (x := .bool false) rfl ?_)
  show wpAny _ _ (field (.ref g) 3 >>= _) _ _ _
  refine wpAny_bind (wpAny_field ig rfl (x := .ref u1) rfl ?_)
  refine wpAny_bind (wpAny_seqItems iu rfl ?_)
  show wpAny _ _ (Builtin.SmallTypes.ownedTupleIsFree (.ref g) >>= _) _ _ _
  refine wpAny_bind (free_at ig fr ?_)
  simp only [if_true]
  refine wpAny_bind (wpAny_rule ?_)
  refine wpAny_bind (wpAny_field ig rfl (x := .ref u2) rfl ?_)
  refine wpAny_bind (wpAny_setField_rec ig (by simp) fun m1 ig1 b1 => ?_)
  replace ig1 : ZipF m1 g u1 u2 .ellipsis f := ig1
  refine wpAny_bind ?_
  simp only [List.forIn_cons, List.forIn_nil, List.zipIdx_cons, List.zipIdx_nil]
  refine wpAny_bind (wpAny_bind (wpAny_onRaise ?_))
  show wpAny _ _ (Builtin.SmallTypes.nextOf (.ref j1) >>= _) _ _ _
  refine wpAny_bind (nextOf_tuple_item (i1.extBut b1.extBut D.i1z) (ia.extBut b1.extBut D.l1z) ex fun m2 i1' b2 => wpAny_pure ?_)
  have iw2 : IsPair m2 u2 p q := b2.extBut _ _ D.TOi1 (b1.extBut _ _ D.TOz iw)
  refine wpAny_bind (wpAny_seqItems iw2 rfl ?_)
  refine wpAny_bind (wpAny_updateSeq_pair iw2 fun m3 iw3 b3 => ?_)
  replace iw3 : IsPair m3 u2 x q := iw3
  refine wpAny_bind (wpAny_letGo (wpAny_pure ?_))
  refine wpAny_bind (wpAny_bind (wpAny_onRaise ?_))
  show wpAny _ _ (Builtin.SmallTypes.nextOf (.ref j2) >>= _) _ _ _
  refine wpAny_bind (nextOf_tuple_item (((i2.extBut b1.extBut D.i2z).extBut b2.extBut D.i12.symm).extBut b3.extBut D.TOi2.symm) (((ib.extBut b1.extBut D.l2z).extBut b2.extBut D.l2i1).extBut b3.extBut D.l2TO) ey fun m4 i2' b4 => wpAny_pure ?_)
  have iw4 : IsPair m4 u2 x q := b4.extBut _ _ D.TOi2 iw3
  refine wpAny_bind (wpAny_seqItems iw4 rfl ?_)
  refine wpAny_bind (wpAny_updateSeq_pair iw4 fun m5 iw5 b5 => ?_)
  replace iw5 : IsPair m5 u2 x y := iw5
  refine wpAny_bind (wpAny_letGo (wpAny_pure (wpAny_pure ?_)))
  refine wpAny_bind (wpAny_seqItems iw5 rfl ?_)
  refine wpAny_bind (wpAny_newTuple ?_)
  have z5 : m5.objs.size = s.heap.objs.size := by rw [b5.1, b4.1, b3.1, b2.1, b1.1]
  have ig5 : ZipF m5 g u1 u2 .ellipsis f := b5.extBut _ _ D.TOz.symm (b4.extBut _ _ D.i2z.symm (b3.extBut _ _ D.TOz.symm (b2.extBut _ _ D.i1z.symm ig1)))
  have k5 : ∀ c o, c ≠ g → c ≠ u2 → c ≠ j1 → c ≠ j2 → s.heap.get? c = some o → m5.get? c = some o := fun c o c1 c2 c3 c4 e => b5.extBut _ _ c2 (b4.extBut _ _ c4 (b3.extBut _ _ c2 (b2.extBut _ _ c3 (b1.extBut _ _ c1 e))))
  have i15 : m5.IsTupleIter j1 a (n1 + 1) := ((i1'.extBut b3.extBut D.TOi1.symm).extBut b4.extBut D.i12).extBut b5.extBut D.TOi1.symm
  have i25 : m5.IsTupleIter j2 b (n2 + 1) := i2'.extBut b5.extBut D.TOi2.symm
  have lg : g < m5.objs.size := Heap.lt_size ig5
  show wpAny _ _ (Builtin.SmallTypes.ownedTupleHandOut (.ref g) (.ref m5.objs.size) >>= _) _ _ _
  refine wpAny_bind ?_
  unfold Builtin.SmallTypes.ownedTupleHandOut
  have ig6 : ZipF (m5.push { cls := .type "tuple", data := .seq #[x, y] }) g u1 u2 .ellipsis f := Heap.get?_push_of_some _ ig5
  refine wpAny_bind (wpAny_setField_rec ig6 (by simp) fun m7 ig7 b7 => ?_)
  replace ig7 : ZipF m7 g u1 u2 (rawInt m5.objs.size) f := ig7
  refine wpAny_setField_rec ig7 (by simp) fun m8 ig8 b8 => ?_
  replace ig8 : ZipF m8 g u1 u2 (rawInt m5.objs.size) false := ig8
  have up : ∀ c o, c ≠ g → m5.get? c = some o → m8.get? c = some o := fun c o c1 e => b8.extBut _ _ c1 (b7.extBut _ _ c1 (Heap.get?_push_of_some _ e))
  have pr : IsPair m8 m5.objs.size x y := b8.extBut _ _ (Nat.ne_of_gt lg) (b7.extBut _ _ (Nat.ne_of_gt lg) (Heap.get?_push_size _ rfl))
  rw [z5] at ig8 pr
  refine wpAny_pure ⟨_, rfl, ?_⟩
  show Q (.ref m5.objs.size) _
  rw [z5]
  exact k m8 ig8 (up _ _ D.TOz iw5) (i15.at fun o e => up _ o D.i1z e) (i25.at fun o e => up _ o D.i2z e) pr fun c o c1 c2 c3 c4 e => up c o c1 (k5 c o c1 c2 c3 c4 e)
theorem free_end {g u1 u2 j1 j2 a b : Addr} {f0 p q : Value} {f : Bool} {n1 n2 : Nat} {us vs : Array Value} {Q : Fin → Shared → Prop} (hh : A.handled = none) (D : ZipApart g u1 u2 j1 j2 a b)
    (ig : ZipF s.heap g u1 u2 f0 f) (fr : Free0 s.heap f0) (iu : IsPair s.heap u1 (.ref j1) (.ref j2)) (iw : IsPair s.heap u2 p q) (i1 : s.heap.IsTupleIter j1 a n1) (i2 : s.heap.IsTupleIter j2 b n2) (ia : s.heap.IsTuple a us) (ib : s.heap.IsTuple b vs) (stop : us[n1]? = none ∨ vs[n2]? = none)
    (k : ∀ h' e, (∀ c o, c ≠ g → c ≠ u2 → c ≠ j1 → c ≠ j2 → s.heap.get? c = some o → h'.get? c = some o) → (∃ o, h'.get? e = some o ∧ o.cls = .type "StopIteration") → E (.ref e) { s with heap := h' }) :
    wpAny (model prog w) A (Builtin.«zip.__next__» ⟨[.ref g], []⟩) Q E s := by
  show wpAny _ _ (field (.ref g) 2 >>= _) _ _ _
  refine wpAny_bind (wpAny_field ig rfl (x := .bool false) rfl ?_)
  show wpAny _ _ (field (.ref g) 3 >>= _) _ _ _
  refine wpAny_bind (wpAny_field ig rfl (x := .ref u1) rfl ?_)
  refine wpAny_bind (wpAny_seqItems iu rfl ?_)
  show wpAny _ _ (Builtin.SmallTypes.ownedTupleIsFree (.ref g) >>= _) _ _ _
  refine wpAny_bind (free_at ig fr ?_)
  simp only [if_true]
  refine wpAny_bind (wpAny_rule ?_)
  refine wpAny_bind (wpAny_field ig rfl (x := .ref u2) rfl ?_)
  refine wpAny_bind (wpAny_setField_rec ig (by simp) fun m1 ig1 b1 => ?_)
  replace ig1 : ZipF m1 g u1 u2 .ellipsis f := ig1
  refine wpAny_bind ?_
  simp only [List.forIn_cons, List.forIn_nil, List.zipIdx_cons, List.zipIdx_nil]
  refine wpAny_bind (wpAny_bind (wpAny_onRaise ?_))
  show wpAny _ _ (Builtin.SmallTypes.nextOf (.ref j1) >>= _) _ _ _
  cases ex : us[n1]? with
  | none =>
    refine wpAny_bind (nextOf_tuple_end hh (i1.extBut b1.extBut D.i1z) (ia.extBut b1.extBut D.l1z) ex fun m2 e b2 he => ?_)
    obtain ⟨oe, h1, h2⟩ := he
    have ig2 : ZipF m2 g u1 u2 .ellipsis f := b2 _ _ D.i1z.symm ig1
    have ne : e ≠ g := fun z => by
      subst z
      rw [ig2] at h1
      cases h1
      simp at h2
    exact wpAny_setField_rec ig2 (by simp) fun m3 _ b3 => k m3 e (fun c o c1 _ c3 _ z => b3.extBut _ _ c1 (b2 _ _ c3 (b1.extBut _ _ c1 z))) ⟨oe, b3.extBut _ _ ne h1, h2⟩
  | some x =>
    have ey : vs[n2]? = none := stop.elim (fun q => by rw [ex] at q; cases q) id
    refine wpAny_bind (nextOf_tuple_item (i1.extBut b1.extBut D.i1z) (ia.extBut b1.extBut D.l1z) ex fun m2 i1' b2 => wpAny_pure ?_)
    have iw2 : IsPair m2 u2 p q := b2.extBut _ _ D.TOi1 (b1.extBut _ _ D.TOz iw)
    refine wpAny_bind (wpAny_seqItems iw2 rfl ?_)
    refine wpAny_bind (wpAny_updateSeq_pair iw2 fun m3 iw3 b3 => ?_)
    refine wpAny_bind (wpAny_letGo (wpAny_pure ?_))
    refine wpAny_bind (wpAny_bind (wpAny_onRaise ?_))
    show wpAny _ _ (Builtin.SmallTypes.nextOf (.ref j2) >>= _) _ _ _
    refine wpAny_bind (nextOf_tuple_end hh (((i2.extBut b1.extBut D.i2z).extBut b2.extBut D.i12.symm).extBut b3.extBut D.TOi2.symm) (((ib.extBut b1.extBut D.l2z).extBut b2.extBut D.l2i1).extBut b3.extBut D.l2TO) ey fun m4 e b4 he => ?_)
    obtain ⟨oe, h1, h2⟩ := he
    have ig4 : ZipF m4 g u1 u2 .ellipsis f := b4 _ _ D.i2z.symm (b3.extBut _ _ D.TOz.symm (b2.extBut _ _ D.i1z.symm ig1))
    have ne : e ≠ g := fun z => by
      subst z
      rw [ig4] at h1
      cases h1
      simp at h2
    exact wpAny_setField_rec ig4 (by simp) fun m5 _ b5 => k m5 e (fun c o c1 c2 c3 c4 z => b5.extBut _ _ c1 (b4 _ _ c4 (b3.extBut _ _ c2 (b2.extBut _ _ c3 (b1.extBut _ _ c1 z))))) ⟨oe, b5.extBut _ _ ne h1, h2⟩
/-- where the zip of two tuples stands -/
def ZSt (g u1 u2 j1 j2 a b : Addr) (i : Nat) (h : Heap) : Prop := IsPair h u1 (.ref j1) (.ref j2) ∧ (∃ x y, IsPair h u2 x y) ∧ h.IsTupleIter j1 a i ∧ h.IsTupleIter j2 b i ∧ ∃ f0 f, ZipF h g u1 u2 f0 f ∧ (f0 = .none ∨ ∃ T : Addr, f0 = rawInt T)
theorem zst_next {g u1 u2 j1 j2 a b : Addr} {i : Nat} {us vs : Array Value} {x y : Value} {Q : Option Value → Shared → Prop} (D : ZipApart g u1 u2 j1 j2 a b) (st : ZSt g u1 u2 j1 j2 a b i s.heap) (ia : s.heap.IsTuple a us) (ib : s.heap.IsTuple b vs) (ex : us[i]? = some x) (ey : vs[i]? = some y)
    (k : ∀ h', ZSt g u1 u2 j1 j2 a b (i + 1) h' → IsPair h' s.heap.objs.size x y → (∀ c o, c ≠ g → c ≠ u2 → c ≠ j1 → c ≠ j2 → s.heap.get? c = some o → h'.get? c = some o) → Q (some (.ref s.heap.objs.size)) { s with heap := h' }) : wpAny (model prog w) A (pyNext (.ref g)) Q E s := by
  obtain ⟨iu, ⟨p, q, iw⟩, i1, i2, f0, f, ig, fr⟩ := st
  have ty : s.TypeIs (.ref g) "zip" := ⟨_, ig, rfl⟩
  have dec : Free0 s.heap f0 ∨ ∃ (T : Addr) (oT : Obj), f0 = rawInt T ∧ s.heap.get? T = some oT := by
    rcases fr with z | ⟨T, z⟩
    · exact .inl (.inl z)
    · cases e : s.heap.get? T with
      | none => exact .inl (.inr ⟨T, z, e⟩)
      | some oT => exact .inr ⟨T, oT, z, e⟩
  unfold pyNext
  refine wpAny_bind (wpAny_attempt (wpAny_callSpecial?_slot (name := Str.ofString "__next__") ty PySem.F.slot_zip_next (wpAny_call_entry PySem.F.slot_zip_next ty PySem.F.entry_zip_next ?_ (PySem.F.args_zip_next_1 _))))
  rcases dec with fr | ⟨T, oT, rfl, iT⟩
  · exact free_next D ig fr iu iw i1 i2 ia ib ex ey fun h' a1 a2 a3 a4 a5 a6 => wpAny_pure (k h' ⟨a6 _ _ D.TIz D.TITO D.TIi1 D.TIi2 iu, ⟨_, _, a2⟩, a3, a4, _, _, a1, .inr ⟨_, rfl⟩⟩ a5 a6)
  · exact pair_next D ig iT iu i1 i2 ia ib ex ey fun h' a1 a2 a3 a4 a5 => wpAny_pure (k h' ⟨a5 _ _ D.TIz D.TIi1 D.TIi2 iu, ⟨_, _, a5 _ _ D.TOz D.TOi1 D.TOi2 iw⟩, a2, a3, _, _, a1, .inr ⟨_, rfl⟩⟩ a4 fun c o c1 _ c3 c4 e => a5 c o c1 c3 c4 e)
theorem zst_end {g u1 u2 j1 j2 a b : Addr} {i : Nat} {us vs : Array Value} {Q : Option Value → Shared → Prop} (hh : A.handled = none) (D : ZipApart g u1 u2 j1 j2 a b) (st : ZSt g u1 u2 j1 j2 a b i s.heap) (ia : s.heap.IsTuple a us) (ib : s.heap.IsTuple b vs) (stop : us[i]? = none ∨ vs[i]? = none)
    (k : ∀ h', (∀ c o, c ≠ g → c ≠ u2 → c ≠ j1 → c ≠ j2 → s.heap.get? c = some o → h'.get? c = some o) → Q none { s with heap := h' }) : wpAny (model prog w) A (pyNext (.ref g)) Q E s := by
  obtain ⟨iu, ⟨p, q, iw⟩, i1, i2, f0, f, ig, fr⟩ := st
  have ty : s.TypeIs (.ref g) "zip" := ⟨_, ig, rfl⟩
  have dec : Free0 s.heap f0 ∨ ∃ (T : Addr) (oT : Obj), f0 = rawInt T ∧ s.heap.get? T = some oT := by
    rcases fr with z | ⟨T, z⟩
    · exact .inl (.inl z)
    · cases e : s.heap.get? T with
      | none => exact .inl (.inr ⟨T, z, e⟩)
      | some oT => exact .inr ⟨T, oT, z, e⟩
  unfold pyNext
  rcases dec with fr | ⟨T, oT, rfl, iT⟩
  · refine wpAny_bind (wpAny_attempt (wpAny_callSpecial?_slot (name := Str.ofString "__next__") ty PySem.F.slot_zip_next (wpAny_call_entry PySem.F.slot_zip_next ty PySem.F.entry_zip_next
      (free_end hh D ig fr iu iw i1 i2 ia ib stop fun h' e kp he => ?_) (PySem.F.args_zip_next_1 _))))
    obtain ⟨o, ho, hc⟩ := he
    exact wpAny_bind (wpAny_isInstance (T := "StopIteration") (b := true) ⟨o, ho, hc⟩ isSubtype_stop (wpAny_pure (k _ kp)))
  · refine wpAny_bind (wpAny_attempt (wpAny_callSpecial?_slot (name := Str.ofString "__next__") ty PySem.F.slot_zip_next (wpAny_call_entry PySem.F.slot_zip_next ty PySem.F.entry_zip_next
      (pair_end hh D ig iT iu i1 i2 ia ib stop fun h' e kp he => ?_) (PySem.F.args_zip_next_1 _))))
    obtain ⟨o, ho, hc⟩ := he
    exact wpAny_bind (wpAny_isInstance (T := "StopIteration") (b := true) ⟨o, ho, hc⟩ isSubtype_stop (wpAny_pure (k _ fun c o c1 _ c3 c4 e => kp c o c1 c3 c4 e)))
end
theorem turn_pairs {P : Program} {w : World} {K : PySem.W.Frag} {nm : Str} {npos : Pos} {a b g u1 u2 j1 j2 : Addr} (D : ZipApart g u1 u2 j1 j2 a b) : Turn P w K (.Name nm npos) (ItzT K a b) [g, u1, u2, j1, j2] g (ZSt g u1 u2 j1 j2 a b) where
  mem := by simp
  obj := fun i h st c hc => by
    obtain ⟨iu, ⟨p, q, iw⟩, ⟨o1, e1, _, d1⟩, ⟨o2, e2, _, d2⟩, f0, f, ig, _⟩ := st
    have cs : c = g ∨ c = u1 ∨ c = u2 ∨ c = j1 ∨ c = j2 := by simpa using hc
    rcases cs with z | z | z | z | z
    · rw [z]; exact ⟨_, ig, fun v y => nomatch y⟩
    · rw [z]; exact ⟨_, iu, fun v y => nomatch y⟩
    · rw [z]; exact ⟨_, iw, fun v y => nomatch y⟩
    · rw [z]; exact ⟨o1, e1, fun v y => by rw [d1] at y; cases y⟩
    · rw [z]; exact ⟨o2, e2, fun v y => by rw [d2] at y; cases y⟩
  keep := fun i h h' st k => by
    obtain ⟨iu, ⟨p, q, iw⟩, i1, i2, f0, f, ig, fr⟩ := st
    exact ⟨k u1 (by simp) _ iu, ⟨p, q, k u2 (by simp) _ iw⟩, i1.at fun o z => k j1 (by simp) o z, i2.at fun o z => k j2 (by simp) o z, f0, f, k g (by simp) _ ig, fr⟩
  item := by
    intro X hP hw hK hc i pins s σ H E I hf st hg
    subst hP hw hK
    obtain ⟨xs, ys, x, y, qx, qy, ex, ey⟩ := hg
    obtain ⟨its, rv, pa, _⟩ := I.tuple qx
    obtain ⟨its2, rv2, pb, _⟩ := I.tuple qy
    obtain ⟨v1, hv1, r1⟩ := rv.get ex
    obtain ⟨v2, hv2, r2⟩ := rv2.get ey
    have st0 := st
    obtain ⟨iu, ⟨p, q, iw⟩, i1, i2, f0, f, ig, fr⟩ := st
    refine zst_next D st0 pa pb (x := v1) (y := v2) (by simpa using hv1) (by simpa using hv2) fun h' st' pr kp => ?_
    refine ⟨_, rfl, ?_⟩
    unfold letOwnedTupleGo
    refine wpAny_pure ?_
    have new : ObjOk X.prog X.w (upd H s.heap.objs.size (.tup [x, y])) h' s.heap.objs.size (.tup [x, y]) := ⟨by show 2 ≤ sizeLine; decide, [v1, v2], .cons r1 (.cons r2 .nil), ⟨_, pr, rfl, _, rfl⟩⟩
    have I1 : Inv X pins σ (upd H s.heap.objs.size (.tup [x, y])) { s with heap := h' } :=
      I.turnedNew (t' := s.toks) (ch := [g, u1, u2, j1, j2]) (fun c o hb z => kp c o (fun e => hb (by simp [e])) (fun e => hb (by simp [e])) (fun e => hb (by simp [e])) (fun e => hb (by simp [e])) z) hf (Nat.le_refl _) new
    refine ⟨.ref s.heap.objs.size, _, I1, rfl, ⟨_, x, y, rfl, I.hok.fresh (Nat.le_refl _), rfl, fun l hl => by rw [I.tuple_inj hl qx]; exact ex, fun l hl => by rw [I.tuple_inj hl qy]; exact ey⟩, st', fun c hcm => ?_⟩
    have lt : c < s.heap.objs.size := by
      have cs : c = g ∨ c = u1 ∨ c = u2 ∨ c = j1 ∨ c = j2 := by simpa using hcm
      rcases cs with z | z | z | z | z
      · rw [z]; exact Heap.lt_size ig
      · rw [z]; exact Heap.lt_size iu
      · rw [z]; exact Heap.lt_size iw
      · rw [z]; obtain ⟨_, e1, _⟩ := i1; exact Heap.lt_size e1
      · rw [z]; obtain ⟨_, e2, _⟩ := i2; exact Heap.lt_size e2
    rw [upd_ne (Nat.ne_of_lt lt)]
    exact (hf c hcm).1
  done := by
    intro X hP hw hK hc i pins s σ H E I hf st hg
    subst hP hw hK
    obtain ⟨xs, ys, qx, qy, stop⟩ := hg
    obtain ⟨its, rv, pa, _⟩ := I.tuple qx
    obtain ⟨its2, rv2, pb, _⟩ := I.tuple qy
    have l1 := rv.length
    have l2 := rv2.length
    have he : its.toArray[i]? = none ∨ its2.toArray[i]? = none := stop.imp (fun z => by simp; omega) fun z => by simp; omega
    exact zst_end (I.ok.hd hc) D st pa pb he fun h' kp => ⟨rfl, I.turnedL (t' := s.toks) (ch := [g, u1, u2, j1, j2]) (fun c o hb z => kp c o (fun e => hb (by simp [e])) (fun e => hb (by simp [e])) (fun e => hb (by simp [e])) (fun e => hb (by simp [e])) z) hf⟩
  self := fun A i s Q E st h => by
    obtain ⟨_, _, _, _, f0, f, ig, _⟩ := st
    have ty : s.TypeIs (.ref g) "zip" := ⟨_, ig, rfl⟩
    refine wpAny_pyIter_slot ty PySem.F.slot_zip_iter (wpAny_call_entry PySem.F.slot_zip_iter ty PySem.F.entry_zip_iter ?_ (PySem.F.args_zip_iter_1 _))
    show wpAny _ _ (ret (.ref g)) _ _ s
    exact wpAny_pure ⟨_, rfl, "zip", _, ty, PySem.F.slot_zip_next.lookup, h⟩
def iZipP (K : PySem.W.Frag) (ta : TA) : TI := fun σ H R => ta σ H fun vs H1 => ∃ a b xs ys, vs = [.ref a, .ref b] ∧ SqT K H1 a xs ∧ SqT K H1 b ys ∧ R (ItzT K a b) H1
theorem pi_zipP {X : Cx} {e e2 : Expr} {ta : TA} {p pos npos : Pos} {nm : Str} (hg : Gl X "zip") (hm : X.mg "zip" = none) (ha : PA X [e, e2] ta)
    (hs : starEach [e, e2] X.env = (false, eval e X.env) :: starEach [e2] X.env := by rfl) (hpl : (backTo pos (starEach [e2] X.env)).any (·.1) = false := by rfl) :
    PI X (.Name nm npos) (.Call (.Name "zip" p) [e, e2] [] pos) (iZipP X.K ta) := by
  refine ⟨fun pins s σ H R I h => ?_⟩
  refine Call_ (ld_blt I hg hm PyProof.Rows.boot_zip (PyProof.Rows.callWith_type1 (thn (ha.run pos pins s σ H _ I h) fun us s1 ⟨vs, H1, I1, r1, q1⟩ => ?_) hs hpl))
  obtain ⟨a, b, xs, ys, rfl, qx, qy, q⟩ := q1
  cases r1 with
  | cons r rr => cases rr with
    | cons r' rr =>
      cases rr
      cases r
      cases r'
      obtain ⟨its, rv, pa, _⟩ := I1.tuple qx
      obtain ⟨its2, rv2, pb, _⟩ := I1.tuple qy
      have la : a < s1.heap.objs.size := by
        obtain ⟨o, ho, _⟩ := pa
        exact Heap.lt_size ho
      have lb : b < s1.heap.objs.size := by
        obtain ⟨o, ho, _⟩ := pb
        exact Heap.lt_size ho
      refine call_zipT (show s1.heap.IsTuple a its.toArray from pa) (show s1.heap.IsTuple b its2.toArray from pb) fun h' ig iu iw i1 i2 hz kp => wpAny_pyIter_zip ig ?_
      have I2 : Inv X pins σ H1 { s1 with heap := h' } := I1.kept (t' := s1.toks) kp
      refine ⟨_, [s1.heap.objs.size + 4, s1.heap.objs.size + 2, s1.heap.objs.size + 3, s1.heap.objs.size, s1.heap.objs.size + 1], _, _, H1, rfl, I2, turn_pairs (PySem.W.ktu_apart s1.heap.objs.size a b la lb), ⟨iu, ⟨_, _, iw⟩, i1, i2, _, _, ig, .inl rfl⟩, fun c hc => ?_, q⟩
      have le : s1.heap.objs.size ≤ c := by
        have cs : c = s1.heap.objs.size + 4 ∨ c = s1.heap.objs.size + 2 ∨ c = s1.heap.objs.size + 3 ∨ c = s1.heap.objs.size ∨ c = s1.heap.objs.size + 1 := by simpa using hc
        rcases cs with z | z | z | z | z <;> rw [z] <;> first | exact Nat.le_add_right _ _ | exact Nat.le_refl _
      exact I1.fpOk le (I1.hok.fresh le)
end RU

set_option maxRecDepth 100000
set_option maxHeartbeats 4000000
/-! list(d.values()); for i, x in enumerate(tuple, start=k) -/
namespace RU
open PySem PySem.Spec PyProof.Rows L2
section
variable {X : Cx} {o e : Expr} {p pos apos mpos tpos : Pos} {td : TE} {ta tk : TA}
/-- list(o.values()) -/
def tListVals (td : TE) : TE := fun σ H Q => td σ H fun x H1 => ∃ (a : Addr) (kvs : List (Key × V)), x = V.ref a ∧ H1 a = some (.dK kvs) ∧ ∀ q, H1 q = none → Q (.ref q) (upd H1 q (.lst (kvs.map (·.2))))
theorem pe_listVals (calm : X.calm = true) (hg : Gl X "list") (hm : X.mg "list" = none) (hv : bootBuiltins "list" = some (.type "list")) (he : PE X o td) (hbase : attributeBase o "values" X.env (eval o X.env) = eval o X.env := by rfl) (hline : (apos.endLine == mpos.line) = true := by rfl)
    (one : starEach [Expr.Call (.Attribute o "values" apos) [] [] mpos] X.env = (false, eval (Expr.Call (.Attribute o "values" apos) [] [] mpos) X.env) :: starEach [] X.env := by rfl) : PE X (.Call (.Name "list" p) [.Call (.Attribute o "values" apos) [] [] mpos] [] pos) (tListVals td) := by
  refine ⟨fun pins s σ H Q I h => ?_⟩
  refine wpAny_Call_Name_kw (ld_blt I hg hm hv ?_)
  refine PyProof.Rows.callWith_type1 ?_ one rfl
  rw [one]
  show wpAny _ _ (spliced ((false, eval (.Call (.Attribute o "values" apos) [] [] mpos) X.env) :: backTo pos (starEach [] X.env))) _ _ s
  refine Calls.spliced_cons ?_
  refine wpAny_Call_method (T := "dict") (id := "dict.values") hbase rfl hline PySem.F.plainAttrs_dict PySem.F.slot_dict_values PySem.F.type_dict_values (thn (he.run pins s σ H _ I h) fun v t ⟨x, G, J, r1, a, kvs, ex, ha, q⟩ => ?_)
  subst ex
  obtain rfl : v = Value.ref a := r1
  obtain ⟨hz, nsys, vs, rel, dof⟩ := J.hok a _ ha
  obtain ⟨ep, dat⟩ := dof.dictAt
  have len : kvs.length = vs.length := Paired.length rel
  have J2 : Inv X pins σ G { t with heap := t.heap.push { cls := .type "dict_values", data := .fields #[.ref a] } } := J.kept (t' := t.toks) fun _ _ z => Heap.get?_push_of_some _ z
  refine ⟨dof.typeIs, dof.mapOf.noDict, ?_⟩
  show wpAny _ _ (callWith mpos (.builtin "dict.values") [.ref a] [] []) _ X.xe t
  refine method_meetsIn PySem.F.slot_dict_values PySem.F.entry_dict_values rfl (PySem.evalArgs_none ⟨rfl, dof.typeIs, PySem.F.args_dict_values_1 _, _, meets_dict_values (mixKind X.prog X.w) a nsys, ⟨vs, dof⟩, ?_⟩)
  refine Calls.spliced_nil ?_
  refine PySem.W.kdl_call (PySem.W.kdl_values (knd := mixKind X.prog X.w) (kvs := vs) (ep := ep)) (J.ok.hd calm) ⟨⟨_, Heap.get?_push_size _ rfl, rfl, rfl⟩, dat.push _⟩ (by omega) fun h' tk acc c kp at_ items => ?_
  have new : Vals (kvs.map (·.2)) acc.toList := by
    refine vals_of_idx _ _ (by rw [Array.length_toList, items.1, List.length_map, len]) fun j u hj => ?_
    obtain ⟨k, hk⟩ := items.2 j u (by rw [← Array.getElem?_toList]; exact hj)
    obtain ⟨y, h1, h2⟩ := KV.at' rel hk
    exact ⟨y, by rw [List.getElem?_map, h1]; rfl, h2⟩
  have hz2 : (kvs.map (·.2)).length ≤ sizeLine := by rw [List.length_map]; exact hz
  exact ⟨.ref _, _, J2.laid (o := .lst (kvs.map (·.2))) (t' := tk) kp (Nat.le_refl _) ⟨hz2, acc.toList, c, new, by simpa using at_⟩, rfl, q _ (J2.hok.fresh (Nat.le_refl _))⟩
/-- the tuple at a as it stands at each turn, each item in a new pair behind its number from k0 on -/
def Itn1 (K : PySem.W.Frag) (a : Addr) (k0 : Int) : It :=
  ⟨fun i H => ∃ (xs : List V) (x : V), SqT K H a xs ∧ xs[i]? = some x, fun i H v H' => ∃ T x, v = .ref T ∧ H T = none ∧ H' = upd H T (.tup [.int (k0 + (i : Nat)), x]) ∧ ∀ xs, SqT K H a xs → xs[i]? = some x, fun i H => ∃ xs : List V, SqT K H a xs ∧ xs.length ≤ i⟩
theorem turn_num {P : Program} {w : World} {K : PySem.W.Frag} {elts : List Expr} {kk : Nat} {tpos : Pos} (a c it : Addr) (k0 : Int) :
    Turn P w K (.Tuple elts kk tpos) (Itn1 K a k0) [c, it] c (fun i h => (∃ old, IsEnum h c it (k0 + (i : Nat)) old) ∧ h.IsTupleIter it a i ∧ c ≠ it ∧ a ≠ it ∧ a ≠ c) where
  mem := by simp
  obj := fun i h st b hb => by
    obtain ⟨⟨old, he⟩, ⟨o, ho, hc, hd⟩, _⟩ := st
    have cs : b = c ∨ b = it := by simpa using hb
    rcases cs with z | z
    · rw [z]; exact ⟨_, he, fun v q => nomatch q⟩
    · rw [z]; exact ⟨o, ho, fun v q => by rw [hd] at q; cases q⟩
  keep := fun i h h' st k => by
    obtain ⟨⟨old, he⟩, hi, n1⟩ := st
    exact ⟨⟨old, k c (by simp) _ he⟩, hi.at fun o q => k it (by simp) o q, n1⟩
  item := by
    intro X hP hw hK hc i pins s σ H E I hf st hg
    subst hP hw hK
    obtain ⟨⟨old, he⟩, hit, n1, n2, n3⟩ := st
    obtain ⟨xs, x, hq, hx⟩ := hg
    obtain ⟨its, rv, pt, hz⟩ := I.tuple hq
    obtain ⟨u, hu, ru⟩ := rv.get hx
    have lc : c < s.heap.objs.size := Heap.lt_size he
    have li : it < s.heap.objs.size := by
      obtain ⟨_, q, _⟩ := hit
      exact Heap.lt_size q
    have li2 : i < its.toArray.size := by
      rw [List.size_toArray]
      exact (List.getElem?_eq_some_iff.mp hu).1
    refine wpAny_pyNext_enum_itemC (Draws.tuple (prog := X.prog) (w := X.w) (A := X.A.in1) (by simpa using I.ok.hd hc) it a n2 its.toArray) he ⟨hit, pt⟩ li2 n1 (by simp [n1, Ne.symm n3]) fun y h' tk hy ho st' hT hsz kp => ?_
    have ey : y = u := by
      have : its[i]? = some y := by simpa using hy
      rw [hu] at this
      exact (Option.some.inj this).symm
    subst ey
    refine ⟨_, rfl, wpAny_letOwnedTupleGo_enum (s := { s with heap := h', toks := tk + 1 }) ho fun h2 he' sb => ?_⟩
    have hT2 : h2.get? s.heap.objs.size = some { cls := .type "tuple", data := .seq #[.int (k0 + (i : Nat)) tk, y] } := (sb.2 _ (Nat.ne_of_gt lc)).trans hT
    have new : ObjOk X.prog X.w (upd H s.heap.objs.size (.tup [.int (k0 + (i : Nat)), x])) h2 s.heap.objs.size (.tup [.int (k0 + (i : Nat)), x]) := ⟨by show 2 ≤ sizeLine; decide, [.int (k0 + (i : Nat)) tk, y], .cons ⟨_, rfl⟩ (.cons ru .nil), ⟨_, hT2, rfl, _, rfl⟩⟩
    have I1 : Inv X pins σ (upd H s.heap.objs.size (.tup [.int (k0 + (i : Nat)), x])) { s with heap := h2, toks := tk + 1 } :=
      I.turnedNew (ch := [c, it]) (fun b ob hb q => (sb.2 b (fun z => hb (by simp [z]))).trans (kp b ob (fun z => hb (by simp [z])) (fun z => hb (by simp [z])) q)) hf (Nat.le_refl _) new
    refine ⟨.ref s.heap.objs.size, _, I1, rfl, ⟨_, x, rfl, I.hok.fresh (Nat.le_refl _), rfl, fun ys hy => by rw [I.tuple_inj hy hq]; exact hx⟩, ⟨⟨y, ?_⟩, st'.1.at fun o q => (sb.2 it (Ne.symm n1)).trans q, n1, n2, n3⟩, fun b hb => ?_⟩
    · have e1 : k0 + ((i + 1 : Nat) : Int) = k0 + (i : Int) + 1 := by omega
      rw [e1]; exact he'
    · have lt : b < s.heap.objs.size := by
        have cs : b = c ∨ b = it := by simpa using hb
        rcases cs with z | z
        · rw [z]; exact lc
        · rw [z]; exact li
      rw [upd_ne (Nat.ne_of_lt lt)]
      exact (hf b hb).1
  done := by
    intro X hP hw hK hc i pins s σ H E I hf st hg
    subst hP hw hK
    obtain ⟨⟨old, he⟩, hit, n1, n2, n3⟩ := st
    obtain ⟨xs, hq, hx⟩ := hg
    obtain ⟨its, rv, pt, hz⟩ := I.tuple hq
    obtain ⟨f0, f1, f2, f3, f4, f5⟩ := hf it (by simp)
    have hl := rv.length
    unfold pyNext
    have ty : s.TypeIs (.ref c) "enumerate" := ⟨_, he, rfl⟩
    refine wpAny_bind (wpAny_attempt (wpAny_callSpecial?_slot (name := Str.ofString "__next__") ty PySem.F.slot_enumerate_next (wpAny_call_entry PySem.F.slot_enumerate_next ty PySem.F.entry_enumerate_next ?_ (PySem.F.args_enumerate_next_1 _))))
    show wpAny _ _ (field (.ref c) 2 >>= _) _ _ _
    refine wpAny_bind (wpAny_field he rfl (x := .ref it) rfl ?_)
    refine wpAny_bind (RZ.nextOf_tuple_end (items := its.toArray) (by simpa using I.ok.hd hc) hit pt (by simp; omega) fun h' y eb hy => ?_)
    obtain ⟨oy, hoy, hcy⟩ := hy
    refine wpAny_bind (wpAny_isInstance (T := "StopIteration") (b := true) ⟨oy, hoy, hcy⟩ isSubtype_stop ?_)
    exact wpAny_pure ⟨rfl, I.turned (t' := s.toks) (fun b o hb q => eb b o hb q) f0 f1 f3 f4 f5⟩
  self := fun A i s Q E st h => by
    obtain ⟨⟨old, he⟩, _⟩ := st
    exact wpAny_pyIter_enum he h
theorem callWith_typeK {M : Model} {A : Around} {E : Value → Shared → Prop} {s : Shared} {env : Env} {T : String} {e : Expr} {rest : List Expr} {kws : List Keyword} {Q : Value → Shared → Prop}
    (h : wpAny M A (spliced (backTo pos (starEach (e :: rest) env))) (fun vs s1 => wpAny M A (evalAll ((backToKw pos (keywordEach kws env)).map (·.2))) (fun kvs s2 => wpAny M A (call (.type T) vs (((backToKw pos (keywordEach kws env)).filterMap (·.1)).zip kvs)) Q E s2) E s1) E s)
    (he : backTo pos (starEach (e :: rest) env) = (false, eval e env) :: backTo pos (starEach rest env) := by rfl) (hplain : (backTo pos (starEach (e :: rest) env)).any (·.1) = false := by rfl)
    (hall : (backToKw pos (keywordEach kws env)).all (·.1.isSome) = true := by rfl) (hkw : (backToKw pos (keywordEach kws env)).any (·.1.isNone) = false := by rfl) : wpAny M A (callWith pos (.type T) [] (backTo pos (starEach (e :: rest) env)) (backToKw pos (keywordEach kws env))) Q E s := by
  have h2 : wpAny M A (evalArgs (.type T) true (backTo pos (starEach (e :: rest) env)) (backToKw pos (keywordEach kws env))) (fun a s1 => wpAny M A (call (.type T) ([] ++ a.pos) a.kw) Q E s1) E s := by
    rw [he] at h ⊢
    exact evalArgs_kwB hall h
  unfold callWith
  refine wpAny_bind (wpAny_holding (wpAny_mono h2 (fun a s1 h1 => wpAny_bind (wpAny_standAt ?_)) fun _ _ x => x))
  simp only [hplain, hkw, Bool.or_false]
  refine wpAny_bind (wpAny_pure ?_)
  exact wpAny_bind (wpAny_mono h1 (fun r s2 hr => wpAny_bind (wpAny_holding (wpAny_point (wpAny_pure hr)))) fun _ _ x => x)
def iNum (K : PySem.W.Frag) (ta tk : TA) : TI := fun σ H R => ta σ H fun vs H1 => tk σ H1 fun zs H2 => ∃ (a : Addr) (xs : List V) (k0 : Int), vs = [.ref a] ∧ zs = [.int k0] ∧ (-(2 ^ 62) ≤ k0 ∧ k0 < 2 ^ 62) ∧ SqT K H2 a xs ∧ R (Itn1 K a k0) H2
theorem pi_num {elts : List Expr} {kk : Nat} {kws : List Keyword} (hg : Gl X "enumerate") (hm : X.mg "enumerate" = none) (ha : PA X [e] ta) (hk : PK X kws tk)
    (hs : backTo pos (starEach [e] X.env) = (false, eval e X.env) :: backTo pos (starEach [] X.env) := by rfl) (hpl : (backTo pos (starEach [e] X.env)).any (·.1) = false := by rfl)
    (hall : (backToKw pos (keywordEach kws X.env)).all (·.1.isSome) = true := by rfl) (hnone : (backToKw pos (keywordEach kws X.env)).any (·.1.isNone) = false := by rfl) (hks : (backToKw pos (keywordEach kws X.env)).filterMap (·.1) = [Str.ofString "start"] := by rfl) :
    PI X (.Tuple elts kk tpos) (.Call (.Name "enumerate" p) [e] kws pos) (iNum X.K ta tk) := by
  refine ⟨fun pins s σ H R I h => ?_⟩
  refine wpAny_Call_Name_kw (ld_blt I hg hm boot_enumerate ?_)
  refine callWith_typeK (thn (ha.run pos pins s σ H _ I h) fun us s1 ⟨vs, H1, I1, r1, q1⟩ => thn (hk.run pos pins s1 σ H1 _ I1 q1) fun ws s2 ⟨zs, H2, I2, r2, q2⟩ => ?_) hs hpl hall hnone
  rw [hks]
  obtain ⟨a, xs, k0, rfl, rfl, kb, hq, q⟩ := q2
  rw [Vals.ref1 r1]
  cases r2 with
  | cons r rr =>
    cases rr
    obtain ⟨tk0, rfl⟩ := r
    obtain ⟨its, rv, pt, hz⟩ := I2.tuple hq
    have la : a < s2.heap.objs.size := by
      obtain ⟨o, ho, _⟩ := pt
      exact Heap.lt_size ho
    show wpAny _ _ (call (.type "enumerate") [.ref a] [(Str.ofString "start", .int k0 tk0)]) _ _ _
    refine enum_begins_start (begins_tuple a its.toArray) pt (by omega) (by omega) fun h' he hi hsz kp => wpAny_pyIter_enum he ?_
    have I3 : Inv X pins σ H2 { s2 with heap := h' } := I2.kept (t' := s2.toks) kp
    refine ⟨_, [s2.heap.objs.size + 1, s2.heap.objs.size], _, _, H2, rfl, I3, turn_num a (s2.heap.objs.size + 1) s2.heap.objs.size k0, ⟨⟨.none, by simpa using he⟩, ⟨_, hi, rfl, rfl⟩, Nat.succ_ne_self _, Nat.ne_of_lt la, Nat.ne_of_lt (Nat.lt_succ_of_lt la)⟩, fun b hb => ?_, q⟩
    have cs : b = s2.heap.objs.size + 1 ∨ b = s2.heap.objs.size := by simpa using hb
    have le : s2.heap.objs.size ≤ b := by
      rcases cs with z | z
      · rw [z]; exact Nat.le_add_right _ _
      · rw [z]; exact Nat.le_refl _
    exact I2.fpOk le (I2.hok.fresh le)
end
end RU

set_option maxRecDepth 100000
set_option maxHeartbeats 4000000
/-! sorted(xs), xs of pairs of texts -/
namespace RU
open PySem PySem.Spec PyProof.Rows L2
/-- what a pair of texts is sorted by -/
def keyS (e : Addr × Str × Str) : List (Int ⊕ List Nat) := [.inr e.2.1.cps.toList, .inr e.2.2.cps.toList]
def ltS (e f : Addr × Str × Str) : Bool := PyProof.Rows.lexLt PyProof.Rows.itemOrd (keyS e) (keyS f)
def rSortSS (K : PySem.W.Frag) : List V → Hp → VK → Prop := fun vs H Q => ∃ (a : Addr) (l : List (Addr × Str × Str)), vs = [V.ref a] ∧ SqL K H a (l.map fun e => V.ref e.1) ∧ (∀ e ∈ l, H e.1 = some (.tup [.str e.2.1, .str e.2.2])) ∧
  ∀ (l' : List (Addr × Str × Str)) (p : Addr), l'.Perm l → l'.Pairwise (fun e f => ltS f e = false) → H p = none → Q (.ref p) (upd H p (.lst (l'.map fun e => V.ref e.1)))
theorem refs_are : ∀ {l : List (Addr × Str × Str)} {its : List Value}, Vals (l.map fun e => V.ref e.1) its → its = l.map fun e => Value.ref e.1
  | [], _, r => by cases r; rfl
  | e :: l, _, r => by
    rw [List.map_cons] at r
    cases r with
    | cons h t =>
      cases h
      rw [refs_are t, List.map_cons]
theorem vals_refsL : ∀ l : List (Addr × Str × Str), Vals (l.map fun e => V.ref e.1) (l.map fun e => Value.ref e.1)
  | [] => .nil
  | e :: l => .cons rfl (vals_refsL l)
def backS (H : Hp) : Value → Addr × Str × Str
  | .ref b => match H b with
    | some (.tup [.str x, .str y]) => (b, x, y)
    | _ => (b, Str.empty, Str.empty)
  | _ => (0, Str.empty, Str.empty)
theorem backS_ref {H : Hp} {e : Addr × Str × Str} (h : H e.1 = some (.tup [.str e.2.1, .str e.2.2])) : backS H (.ref e.1) = e := by
  show (match H e.1 with | some (.tup [.str x, .str y]) => (e.1, x, y) | _ => (e.1, Str.empty, Str.empty)) = e
  rw [h]
section
variable {X : Cx}
theorem cr_sortedSS : CallR X (.builtin "sorted") (rSortSS X.K) := by
  intro pins s σ H vs us Q I r h
  obtain ⟨a, l, rfl, hs, hall, q⟩ := h
  obtain ⟨its, rv, hl, hz⟩ := I.list hs
  rw [Vals.ref1 r]
  obtain rfl := refs_are rv
  have obj : ∀ e ∈ l, ∃ o n t u, s.heap.get? e.1 = some o ∧ o.cls = .type "tuple" ∧ o.data = .seq #[.str e.2.1 t, .str e.2.2 u] n := fun e he => by
    obtain ⟨_, its2, r2, o, ho, hc, n, hd⟩ := I.hok _ _ (hall e he)
    obtain ⟨u1, u2, rfl, ri, rj⟩ := vals2 r2
    obtain ⟨t1, rfl⟩ := ri
    obtain ⟨t2, rfl⟩ := rj
    exact ⟨o, n, t1, t2, ho, hc, hd⟩
  have key : ∀ e ∈ l, PyProof.Rows.G.tupKeyC s.heap (fun _ => true) (.ref e.1) = some (keyS e) := fun e he => by
    obtain ⟨o, n, t, u, ho, hc, hd⟩ := obj e he
    unfold PyProof.Rows.G.tupKeyC
    rw [if_pos (by simp [PyProof.Rows.G.isTupObj, ho, hc])]
    simp [PyProof.Rows.tupKey, ho, hd, PyProof.Rows.tupItems, keyS]
  have tups : ∀ l' : List (Addr × Str × Str), (∀ e ∈ l', e ∈ l) → ∃ fs, PyProof.Rows.TupsOf s.heap (fun _ => true) (l'.map fun e => Value.ref e.1) fs := by
    intro l'
    induction l' with
    | nil => intro _; exact ⟨[], .nil⟩
    | cons e r ih =>
      intro hs
      obtain ⟨fs, hf⟩ := ih fun x hx => hs x (List.mem_cons_of_mem _ hx)
      obtain ⟨o, n, t, u, ho, hc, hd⟩ := obj e (hs e (List.mem_cons_self ..))
      exact ⟨_ :: fs, .cons ⟨e.1, o, _, n, rfl, ho, hc, hd, rfl, fun z => (by cases z), fun _ => ⟨_, _, rfl⟩⟩ hf⟩
  obtain ⟨fs, ht⟩ := tups l fun e he => he
  refine PyProof.Rows.G.sorted_tups (shape := fun _ => true) hl.isList ht (fun v hv => ?_) (by rw [List.length_map]; rw [List.length_map] at hz; exact hz) fun st' a1 a2 _ => ?_
  · obtain ⟨e, he, rfl⟩ := List.mem_map.mp hv
    exact ⟨_, key e he⟩
  have p1 : (arrOf st').toList.Perm ((l.map fun e => Value.ref e.1).zip (l.map fun e => Value.ref e.1)) := by
    rw [← pairsOf_toList]
    exact a1.toList
  have same : ∀ p ∈ (arrOf st').toList, p.1 = p.2 ∧ p.2 ∈ l.map fun e => Value.ref e.1 := fun p hp => by
    obtain ⟨e1, m⟩ := mem_zip_self (p1.mem_iff.mp hp)
    exact ⟨e1, e1 ▸ m⟩
  let out := (arrOf st').map (·.2)
  let l' := out.toList.map (backS H)
  have eo : out.toList = (arrOf st').toList.map (·.2) := by
    show ((arrOf st').map (·.2)).toList = _
    rw [Array.toList_map]
  have po : out.toList.Perm (l.map fun e => Value.ref e.1) := by
    rw [eo]
    have h := p1.map (·.2)
    have e : ((l.map fun e => Value.ref e.1).zip (l.map fun e => Value.ref e.1)).map (·.2) = l.map fun e => Value.ref e.1 := by
      rw [List.map_snd_zip]
      exact Nat.le_refl _
    rw [e] at h
    exact h
  have pl : l'.Perm l := by
    have h := po.map (backS H)
    rw [List.map_map] at h
    have e : l.map (backS H ∘ fun e => Value.ref e.1) = l := by
      have : l.map (backS H ∘ fun e => Value.ref e.1) = l.map id := List.map_congr_left fun e he => backS_ref (hall e he)
      rw [this, List.map_id]
    rw [e] at h
    exact h
  have el : out.toList = l'.map fun e => Value.ref e.1 := by
    show out.toList = (out.toList.map (backS H)).map fun e => Value.ref e.1
    rw [List.map_map]
    refine (List.map_id _).symm.trans (List.map_congr_left fun v hv => ?_)
    obtain ⟨e, he, rfl⟩ := List.mem_map.mp (po.mem_iff.mp hv)
    show Value.ref e.1 = Value.ref (backS H (.ref e.1)).1
    rw [backS_ref (hall e he)]
  have pw : l'.Pairwise (fun e f => ltS f e = false) := by
    rw [List.pairwise_iff_getElem]
    intro i j hi hj ij
    have len : l'.length = (arrOf st').size := by
      show (out.toList.map (backS H)).length = _
      rw [List.length_map, eo, List.length_map, Array.length_toList]
    have hsz : (arrOf st').size = (pairsOf (l.map fun e => Value.ref e.1)).size := a1.size_eq
    have at_ : ∀ k (hk : k < l'.length), KK (PyProof.Rows.G.tupKindC s.heap fun _ => true) (arrOf st') k = keyS l'[k] := fun k hk => by
      have hk2 : k < (arrOf st').size := by omega
      have hk3 : k < out.toList.length := by rw [el, List.length_map]; exact hk
      have m := same ((arrOf st')[k]) (by rw [← Array.getElem_toList]; exact List.getElem_mem _)
      obtain ⟨e, he, ee⟩ := List.mem_map.mp m.2
      unfold KK
      rw [Array.getElem?_eq_getElem hk2]
      show (PyProof.Rows.G.tupKeyC s.heap (fun _ => true) (arrOf st')[k].1).getD [] = _
      rw [m.1, ← ee, key e he]
      have e1 : out.toList[k] = (arrOf st')[k].2 := by simp [out]
      have e2 : l'[k] = backS H out.toList[k] := by simp [l']
      rw [e2, e1, ← ee, backS_ref (hall e he)]
      rfl
    have h := a2 i j (Nat.le_of_lt ij) (by omega)
    rw [at_ i hi, at_ j hj] at h
    exact h
  obtain ⟨ep, he'⟩ := PyProof.Rows.sortedAll_at s.heap (l.map fun e => Value.ref e.1) out
  have hlen : (l'.map fun e => V.ref e.1).length ≤ sizeLine := by
    rw [List.length_map, pl.length_eq]
    rw [List.length_map] at hz
    exact hz
  exact ⟨.ref _, upd H (s.heap.objs.size + 1) (.lst (l'.map fun e => V.ref e.1)), I.laid (t' := s.toks) (fun _ _ => PyProof.Rows.sortedAll_old) (Nat.le_succ _) ⟨hlen, out.toList, ep, by rw [el]; exact vals_refsL l', he'⟩, rfl, q l' _ pl pw (I.hok.fresh (Nat.le_succ _))⟩
end
end RU

set_option maxRecDepth 100000
set_option maxHeartbeats 4000000
/-! min(xs, default=d), xs of texts, one at most -/
namespace RU
open PySem PySem.Spec PyProof.Rows L2
section
variable {X : Cx}
def rMinDfS (K : PySem.W.Frag) : List V → List V → Hp → VK → Prop := fun vs zs H Q => ∃ (a : Addr) (xs : List Str) (d : V), vs = [V.ref a] ∧ zs = [d] ∧ SqL K H a (xs.map V.str) ∧ (xs = [] → Q d H) ∧ (∀ x, x ∈ xs → (∀ y ∈ xs, y = x) → Q (.str x) H) ∧ (xs ≠ [] → ∃ x, x ∈ xs ∧ ∀ y ∈ xs, y = x)
theorem cr_minDfS (hc : X.calm = true) (hu : X.A.units + 64 < cLine) : CallRK X (.builtin "min") [Str.ofString "default"] (rMinDfS X.K) := by
  intro pins s σ H vs zs us ws Q I r rz h
  obtain ⟨a, xs, d, rfl, rfl, hs, q0, q1, q2⟩ := h
  obtain ⟨its, rv, hl, _⟩ := I.list hs
  rw [Vals.ref1 r]
  cases rz with
  | cons r1 rr =>
    cases rr
    rename_i ud
    show wpAny _ _ (call (.builtin "min") [.ref a] [(Str.ofString "default", ud)]) _ _ _
    refine PySem.W.min_list_datum_default (α := Str) (xs := xs) (I.ok.hd hc) hl.isList (PySem.W.HoldAll.of_strs (by simpa using rv.strs)) (by show X.A.units + 1 + 0 < cLine; omega) (fun e h' tk hk => ⟨d, H, I.kept hk, r1, q0 e⟩) fun y ys i v h' tk e hi hv hk => ?_
    have hi2 : its[i]? = some v := by simpa using hi
    obtain ⟨x0, m0, al⟩ := q2 (by rw [e]; simp)
    have hlen := rv.length
    have hlt : i < (xs.map V.str).length := by
      rw [hlen]
      exact (List.getElem?_eq_some_iff.mp hi2).1
    obtain ⟨u, hu2, ru⟩ := rv.get (List.getElem?_eq_getElem hlt)
    rw [hi2] at hu2
    cases hu2
    rw [List.getElem_map] at ru
    have ex : xs[i]'(by rw [List.length_map] at hlt; exact hlt) = x0 := al _ (List.getElem_mem _)
    rw [ex] at ru
    exact ⟨.str x0, H, I.kept hk, ru, q1 x0 m0 al⟩
end
end RU

set_option maxRecDepth 100000
set_option maxHeartbeats 4000000
namespace SK
open PySem PySem.Spec PyProof.Rows L2
variable {X : Cx}
/-- name = {..} on one line, the name a local -/
theorem ps_setDc {i : Nat} {y : Str} {py : Pos} {kx vx tg iter : Expr} {ifs : List Expr} {scope : Scope} {own : List (Str × Nat)} {pos spos : Pos} {wi : TI} {g : TG} {tt : TT} {tk tv : TE} (calm : X.calm = true) (nd : X.N.Nodup) (atY : X.N[i]? = some y) (loc : X.env.scope.names.lookup y = some .local)
    (hsw : swapsWith (.DictComp kx vx [⟨tg, iter, ifs, 0⟩] scope pos) (some (.Name y py)) spos.line X.env = pure true) (hi : PI X tg iter wi) (ok : BlkOk X.N X.env.scope scope own)
    (pg : ∀ (s : Shared) (H : Hp) (C : Addr) (cl : List (Str × Addr)) (fp : List Addr), PG (X.blk s H scope (compEnvC scope cl C X.env) fp) tg g) (pt : ∀ (s : Shared) (H : Hp) (C : Addr) (cl : List (Str × Addr)) (fp : List Addr), PTs (X.blk s H scope (compEnvC scope cl C X.env) fp) ifs tt)
    (pk : ∀ (s : Shared) (H : Hp) (C : Addr) (cl : List (Str × Addr)) (fp : List Addr), PE (X.blk s H scope (compEnvC scope cl C X.env) fp) kx tk) (pe : ∀ (s : Shared) (H : Hp) (C : Addr) (cl : List (Str × Addr)) (fp : List Addr), PE (X.blk s H scope (compEnvC scope cl C X.env) fp) vx tv)
    (hs : ∀ x, foldedSetIterable iter X.env x = pure x := by intro _; rfl) : PS X (.Assign [.Name y py] (.DictComp kx vx [⟨tg, iter, ifs, 0⟩] scope pos) spos) (tAsg (tDc wi g tt tk tv (own.map (·.2))) (gName i)) := by
  refine ⟨fun pins s σ H D I h => ?_⟩
  rw [exec_Assign_Name_used _ _ _ _ hsw]
  refine wpAny_bind (wpAny_standAt (wpAny_bind ?_))
  have h : tDc wi g tt tk tv (own.map (·.2)) σ H fun x H1 => gName i x σ H1 D.nx := h
  refine wpAny_bind (thn (dc_core (use := some (assign (.Name y py) X.env)) (Qf := fun _ t => SP X pins D .next t) calm nd I hi ok pg pt pk pe hs h fun L C t m G J q hn f => ?_) fun _ t hq => wpAny_pure (wpAny_pure hq))
  show wpAny _ _ (assign (.Name y py) X.env (.ref L)) _ _ _
  refine wpAny_assign_Name (store_ok2 (v := V.ref L) J nd atY (.inl loc) rfl (fun t2 J2 ⟨a, sb, ha⟩ => ?_) (.inr loc))
  obtain ⟨f0, f1, _, f3, f4, f5⟩ := f
  have ne : C ≠ a := ha.elim (fun z => by rw [z]; exact f1) fun z e => f4 y a z e.symm
  exact ⟨m, hn.sameBut sb ne, fun t3 sb3 => ⟨_, G, J2.turned (t' := t2.toks) (fun b o hb e => (sb3.2 b hb).trans e) f0 f1 f3 f4 f5, q⟩⟩
theorem sw_dict {kx vx : Expr} {gs : List Comprehension} {scope : Scope} {pos py : Pos} {y : Str} {l : Nat} {env : Env} (fk : env.scope.kind = .function) (loc : env.scope.names.lookup y = some .local) (line : (py.line == pos.line) = true)
    (free : (scope.names.any fun (n, k) => n == y && (k == .local || k == .cell)) = false) : swapsWith (.DictComp kx vx gs scope pos) (some (.Name y py)) l env = pure true := by
  have e1 : env.kindOf y = some .local := loc
  have e2 : env.blockKind = .function := by
    unfold Env.blockKind
    rw [fk]
    rfl
  unfold swapsWith
  simp only [e1, e2, free, Expr.pos, line]
  rfl
end SK

set_option maxRecDepth 100000
set_option maxHeartbeats 4000000
/-! what a value tells, by a frozen part F of the heap; states by slots (G) and things that may change (M) -/
namespace RP
open PySem PySem.Spec PyProof.Rows L2
/-- code objects' tables; one whose code objects' name is told -/
abbrev Tbs := List (Addr × Option Str)
abbrev tk (Ps : Tbs) : List Addr := Ps.map (·.1)
def TbOk (H : Hp) (P : Addr) : Option Str → Prop
  | none => GxR.TabG H P
  | some q => LamX.TabS H P q
def Tb (Ps : Tbs) (H : Hp) : Prop := ∀ e ∈ Ps, TbOk H e.1 e.2
/-- F tells o at a: it stands in H, a dict maybe locked -/
def Hs (H : Hp) (a : Addr) (o : HO) : Prop := H a = some o ∨ ∃ od kvs, o = .dK kvs ∧ H a = some (.frz od o)
def Sub (F H : Hp) : Prop := ∀ a o, F a = some o → Hs H a o
def Le (F F' : Hp) : Prop := ∀ a o, F a = some o → F' a = some o
theorem Le.refl (F : Hp) : Le F F := fun _ _ e => e
theorem Le.trans {F G K : Hp} (h : Le F G) (k : Le G K) : Le F K := fun a o e => k a o (h a o e)
structure VRel where
  R : Hp → V → Prop
  mono : ∀ F F' v, Le F F' → R F v → R F' v
structure MRel where
  R : Hp → HO → Prop
  mono : ∀ F F' o, Le F F' → R F o → R F' o
  own : Bool
  nc : ∀ F o, R F o → ∀ φ, o ≠ .ext φ
/-- the heap by itself -/
structure Sh (Ps : Tbs) (M : List (Addr × MRel)) (F H : Hp) : Prop where
  sub : Sub F H
  tb : Tb Ps H
  fp : ∀ a ∈ tk Ps, F a = none
  mu : ∀ e ∈ M, ∃ o, H e.1 = some o ∧ e.2.R F o
  ow : ∀ e ∈ M, e.1 ∉ tk Ps ∧ (e.2.own = true → F e.1 = none)
  nd : (M.map (·.1)).Nodup
  fz : ∀ a kvs, F a = some (.dK kvs) → (∀ e ∈ M, e.1 = a → e.2.own = true) → H a = some (.dK kvs)
structure Evo (Ps : Tbs) (M : List (Addr × MRel)) (F H F' H' : Hp) : Prop where
  le : Le F F'
  sub : Sub F' H'
  keep : ∀ a o, H a = some o → a ∉ tk Ps → a ∉ M.map (·.1) → H' a = some o
  nw : ∀ a o, F' a = some o → F a = some o ∨ H a = none
  tb : Tb Ps H'
  mu : ∀ e ∈ M, ∃ o, H' e.1 = some o ∧ e.2.R F' o
  fz : ∀ a kvs, F' a = some (.dK kvs) → (∀ e ∈ M, e.1 = a → e.2.own = true) → H' a = some (.dK kvs)
variable {Ps : Tbs} {M : List (Addr × MRel)} {F H F' H' F'' H'' : Hp}
theorem TbOk.at {P : Addr} {o : Option Str} (h : TbOk H P o) : ∃ ps, H P = some (.tbl ps) := by
  cases o with
  | none => obtain ⟨ps, e, _⟩ := h; exact ⟨ps, e⟩
  | some q => obtain ⟨ps, e, _⟩ := h; exact ⟨ps, e⟩
theorem Tb.has {a : Addr} (t : Tb Ps H) (h : a ∈ tk Ps) : ∃ o, H a = some o := by
  obtain ⟨e, he, rfl⟩ := List.mem_map.mp h
  obtain ⟨ps, e⟩ := (t e he).at
  exact ⟨_, e⟩
/-- what isn't a table, nor told to be a code object, is written -/
theorem TbOk.upd {P b : Addr} {o : Option Str} {u : HO} (h : TbOk H P o) (n : P ≠ b) (nc : ∀ φ, H b ≠ Option.some (.ext φ)) : TbOk (upd H b u) P o := by
  cases o with
  | none =>
    obtain ⟨ps, e, k⟩ := h
    exact ⟨ps, by rw [upd_ne n]; exact e, k⟩
  | some q =>
    obtain ⟨ps, e, k, l⟩ := h
    refine ⟨ps, by rw [upd_ne n]; exact e, k, fun pos cv hc => ?_⟩
    obtain ⟨c, e1, e2⟩ := l pos cv hc
    exact ⟨c, e1, by rw [upd_ne (fun z => nc _ (by rw [← z]; exact e2))]; exact e2⟩
theorem Sh.refl (s : Sh Ps M F H) : Evo Ps M F H F H := ⟨Le.refl F, s.sub, fun _ _ e _ _ => e, fun _ _ e => .inl e, s.tb, s.mu, s.fz⟩
theorem Evo.dom (e : Evo Ps M F H F' H') {a : Addr} {o : HO} (h : H a = some o) : ∃ o', H' a = some o' := by
  by_cases hp : a ∈ tk Ps
  · exact e.tb.has hp
  · by_cases hm : a ∈ M.map (·.1)
    · obtain ⟨x, hx, rfl⟩ := List.mem_map.mp hm
      obtain ⟨o', h1, _⟩ := e.mu x hx
      exact ⟨o', h1⟩
    · exact ⟨o, e.keep a o h hp hm⟩
theorem Evo.gone (e : Evo Ps M F H F' H') {a : Addr} (h : H' a = none) : H a = none := by
  cases q : H a with
  | none => rfl
  | some o =>
    obtain ⟨o', h'⟩ := e.dom q
    rw [h] at h'
    cases h'
theorem Evo.trans (e : Evo Ps M F H F' H') (f : Evo Ps M F' H' F'' H'') : Evo Ps M F H F'' H'' :=
  ⟨e.le.trans f.le, f.sub, fun a o h p m => f.keep a o (e.keep a o h p m) p m, fun a o h => (f.nw a o h).elim (fun h => e.nw a o h) (fun h => .inr (e.gone h)), f.tb, f.mu, f.fz⟩
theorem Sh.some_of (s : Sh Ps M F H) {a : Addr} {o : HO} (h : F a = some o) : ∃ u, H a = some u := by
  rcases s.sub a o h with h | ⟨od, _, _, h⟩
  · exact ⟨_, h⟩
  · exact ⟨_, h⟩
theorem Sh.new_none (s : Sh Ps M F H) {a : Addr} (h : H a = none) : F a = none := by
  cases q : F a with
  | none => rfl
  | some o =>
    obtain ⟨u, e⟩ := s.some_of q
    rw [h] at e
    cases e
theorem Sh.evo (s : Sh Ps M F H) (e : Evo Ps M F H F' H') : Sh Ps M F' H' :=
  { sub := e.sub, tb := e.tb, mu := e.mu, nd := s.nd, fz := e.fz
    fp := fun a ha => by
      cases q : F' a with
      | none => rfl
      | some o =>
        rcases e.nw a o q with h | h
        · rw [s.fp a ha] at h
          cases h
        · obtain ⟨u, hu⟩ := s.tb.has ha
          rw [h] at hu
          cases hu
    ow := fun x hx => ⟨(s.ow x hx).1, fun h => by
      cases q : F' x.1 with
      | none => rfl
      | some o =>
        rcases e.nw _ o q with h' | h'
        · rw [(s.ow x hx).2 h] at h'
          cases h'
        · obtain ⟨u, hu, _⟩ := s.mu x hx
          rw [h'] at hu
          cases hu⟩ }
/-- less may change -/
theorem Sh.tail {e : Addr × MRel} (s : Sh Ps (e :: M) F H) (ow : e.2.own = true) : Sh Ps M F H :=
  ⟨s.sub, s.tb, s.fp, fun x hx => s.mu x (List.mem_cons_of_mem _ hx), fun x hx => s.ow x (List.mem_cons_of_mem _ hx), (List.nodup_cons.mp s.nd).2, fun a kvs h k => s.fz a kvs h fun x hx z => (List.mem_cons.mp hx).elim (fun y => y ▸ ow) (fun hx => k x hx z)⟩
theorem Sh.bare (s : Sh Ps M F H) (ow : ∀ e ∈ M, e.2.own = true) : Sh Ps [] F H := ⟨s.sub, s.tb, s.fp, (fun _ h => nomatch h), (fun _ h => nomatch h), List.nodup_nil, fun a kvs h _ => s.fz a kvs h fun e he _ => ow e he⟩
theorem Evo.more {e : Addr × MRel} (s : Sh Ps (e :: M) F H) (ow : e.2.own = true) (v : Evo Ps M F H F' H') : Evo Ps (e :: M) F H F' H' := by
  refine ⟨v.le, v.sub, fun a o h p m => v.keep a o h p fun q => m (List.mem_cons_of_mem _ q), v.nw, v.tb, fun x hx => ?_, fun a kvs h k => v.fz a kvs h fun x hx => k x (List.mem_cons_of_mem _ hx)⟩
  rcases List.mem_cons.mp hx with rfl | hx
  · obtain ⟨o, h1, h2⟩ := s.mu x (List.mem_cons_self ..)
    exact ⟨o, v.keep _ o h1 (s.ow x (List.mem_cons_self ..)).1 (List.nodup_cons.mp s.nd).1, x.2.mono _ _ _ v.le h2⟩
  · exact v.mu x hx
theorem Evo.of_bare (s : Sh Ps M F H) (v : Evo Ps [] F H F' H') : Evo Ps M F H F' H' := by
  refine ⟨v.le, v.sub, fun a o h p _ => v.keep a o h p (fun q => nomatch q), v.nw, v.tb, fun x hx => ?_, fun a kvs h _ => v.fz a kvs h fun _ z => nomatch z⟩
  obtain ⟨o, h1, h2⟩ := s.mu x hx
  exact ⟨o, v.keep _ o h1 (s.ow x hx).1 (fun q => nomatch q), x.2.mono _ _ _ v.le h2⟩
/-- a new object, frozen at once -/
theorem Hs.upd {a b : Addr} {o u : HO} (h : Hs H a o) (n : a ≠ b) : Hs (upd H b u) a o := by
  rcases h with h | ⟨od, kvs, e, h⟩
  · exact .inl (by rw [upd_ne n]; exact h)
  · exact .inr ⟨od, kvs, e, by rw [upd_ne n]; exact h⟩
theorem Hs.some_ {a : Addr} {o : HO} (h : Hs H a o) : ∃ u, H a = some u := by
  rcases h with h | ⟨od, kvs, e, h⟩
  · exact ⟨_, h⟩
  · exact ⟨_, h⟩
theorem Hs.ne {a b : Addr} {o : HO} (h : Hs H a o) (n : H b = none) : a ≠ b := fun z => by
  obtain ⟨u, e⟩ := h.some_
  rw [z, n] at e
  cases e
theorem Tb.not {a : Addr} (t : Tb Ps H) (h : H a = none) : a ∉ tk Ps := fun m => by
  obtain ⟨o, e⟩ := t.has m
  rw [h] at e
  cases e
theorem Tb.upd {b : Addr} {u : HO} (t : Tb Ps H) (n : b ∉ tk Ps) (nc : ∀ φ, H b ≠ Option.some (.ext φ)) : Tb Ps (upd H b u) := fun e he => (t e he).upd (fun z => n (by rw [← z]; exact List.mem_map.mpr ⟨e, he, rfl⟩)) nc
theorem nc_none {b : Addr} (h : H b = Option.none) : ∀ φ, H b ≠ Option.some (.ext φ) := fun φ z => by rw [h] at z; cases z
theorem Sh.new (s : Sh Ps M F H) {p : Addr} {o : HO} (n : H p = none) : Evo Ps M F H (upd F p o) (upd H p o) :=
  { le := fun a u e => by rw [upd_ne (ne_of_none e (s.new_none n))]; exact e
    sub := fun a u e => by
      by_cases h : a = p
      · subst h
        rw [upd_same] at e
        cases e
        exact .inl upd_same
      · rw [upd_ne h] at e
        exact (s.sub a u e).upd h
    keep := fun a u e _ _ => by rw [upd_ne (ne_of_none e n)]; exact e
    nw := fun a u e => by
      by_cases h : a = p
      · subst h
        exact .inr n
      · rw [upd_ne h] at e
        exact .inl e
    tb := s.tb.upd (s.tb.not n) (nc_none n)
    mu := fun x hx => by
      obtain ⟨u, h1, h2⟩ := s.mu x hx
      exact ⟨u, by rw [upd_ne (ne_of_none h1 n)]; exact h1, x.2.mono _ _ _ (fun a u e => by rw [upd_ne (ne_of_none e (s.new_none n))]; exact e) h2⟩
    fz := fun a kvs h k => by
      by_cases z : a = p
      · subst z
        rw [upd_same] at h
        cases h
        exact upd_same
      · rw [upd_ne z] at h
        rw [upd_ne z]
        exact s.fz a kvs h k }
/-- a new object that isn't told -/
theorem Sh.new0 (s : Sh Ps M F H) {p : Addr} {o : HO} (n : H p = none) : Evo Ps M F H F (upd H p o) :=
  ⟨Le.refl F, fun a u e => (s.sub a u e).upd ((s.sub a u e).ne n), fun a u e _ _ => by rw [upd_ne (ne_of_none e n)]; exact e, fun a u e => .inl e, s.tb.upd (s.tb.not n) (nc_none n), fun x hx => by
    obtain ⟨u, h1, h2⟩ := s.mu x hx
    exact ⟨u, by rw [upd_ne (ne_of_none h1 n)]; exact h1, h2⟩, fun a kvs h k => by
    have e := s.fz a kvs h k
    rw [upd_ne (ne_of_none e n)]
    exact e⟩
/-- the slots -/
def EnvOk (F : Hp) (σ : L2.St) (G : List (Option VRel)) : Prop := σ.length = G.length ∧ ∀ (i : Nat) (R : VRel), G[i]? = some (some R) → ∃ v, σ[i]? = some (some v) ∧ R.R F v
theorem EnvOk.mono {σ : L2.St} {G : List (Option VRel)} (h : EnvOk F σ G) (l : Le F F') : EnvOk F' σ G := ⟨h.1, fun i R e => by
  obtain ⟨v, h1, h2⟩ := h.2 i R e
  exact ⟨v, h1, R.mono _ _ _ l h2⟩⟩
theorem EnvOk.set {σ : L2.St} {G : List (Option VRel)} {i : Nat} {R : VRel} {v : V} (h : EnvOk F σ G) (r : R.R F v) : EnvOk F (σ.set i (some v)) (G.set i (some R)) := ⟨by rw [List.length_set, List.length_set]; exact h.1, fun j R' e => by
  by_cases hj : i = j
  · subst hj
    have hl : i < G.length := by
      have := (List.getElem?_eq_some_iff.mp e).1
      rw [List.length_set] at this
      exact this
    rw [List.getElem?_set_self hl] at e
    cases e
    exact ⟨v, List.getElem?_set_self (by rw [h.1]; exact hl), r⟩
  · rw [List.getElem?_set_ne hj] at e
    obtain ⟨u, h1, h2⟩ := h.2 j R' e
    exact ⟨u, by rw [List.getElem?_set_ne hj]; exact h1, h2⟩⟩
theorem EnvOk.del {σ : L2.St} {G : List (Option VRel)} {i : Nat} {o : Option V} (h : EnvOk F σ G) : EnvOk F (σ.set i o) (G.set i none) := ⟨by rw [List.length_set, List.length_set]; exact h.1, fun j R' e => by
  by_cases hj : i = j
  · subst hj
    have hl : i < G.length := by
      have := (List.getElem?_eq_some_iff.mp e).1
      rw [List.length_set] at this
      exact this
    rw [List.getElem?_set_self hl] at e
    cases e
  · rw [List.getElem?_set_ne hj] at e
    obtain ⟨u, h1, h2⟩ := h.2 j R' e
    exact ⟨u, by rw [List.getElem?_set_ne hj]; exact h1, h2⟩⟩
/-- a weaker word of the slots -/
def GLe (G G' : List (Option VRel)) : Prop := G.length = G'.length ∧ ∀ (i : Nat) (R' : VRel), G'[i]? = some (some R') → ∃ R : VRel, G[i]? = some (some R) ∧ ∀ F v, R.R F v → VRel.R R' F v
theorem EnvOk.le {σ : L2.St} {G G' : List (Option VRel)} (h : EnvOk F σ G) (l : GLe G G') : EnvOk F σ G' := ⟨h.1.trans l.1, fun i R' e => by
  obtain ⟨R, h1, h2⟩ := l.2 i R' e
  obtain ⟨v, h3, h4⟩ := h.2 i R h1
  exact ⟨v, h3, h2 _ _ h4⟩⟩
/-! ### expressions -/
abbrev Gm := List (Option VRel)
abbrev Mu := List (Addr × MRel)
def Ev (Ps : Tbs) (G : Gm) (M : Mu) (te : TE) (R : VRel) : Prop := ∀ σ F H Q, EnvOk F σ G → Sh Ps M F H → (∀ v F' H', Evo Ps M F H F' H' → R.R F' v → Q v H') → te σ H Q
def Et (Ps : Tbs) (G : Gm) (M : Mu) (tt : TT) (P : Bool → Prop) : Prop := ∀ σ F H Q, EnvOk F σ G → Sh Ps M F H → (∀ b F' H', Evo Ps M F H F' H' → P b → Q b H') → tt σ H Q
def RsOk (F : Hp) (Rs : List VRel) (vs : List V) : Prop := Paired (fun (R : VRel) v => R.R F v) Rs vs
def Ea (Ps : Tbs) (G : Gm) (M : Mu) (ta : TA) (Rs : List VRel) : Prop := ∀ σ F H Q, EnvOk F σ G → Sh Ps M F H → (∀ vs F' H', Evo Ps M F H F' H' → RsOk F' Rs vs → Q vs H') → ta σ H Q
theorem RsOk.mono {Rs : List VRel} {vs : List V} (h : RsOk F Rs vs) (l : Le F F') : RsOk F' Rs vs := by
  unfold RsOk at *
  induction h with
  | nil => exact .nil
  | cons a _ ih => exact .cons (VRel.mono _ _ _ _ l a) ih
variable {G : Gm} {ta tb tc te : TE} {tt tu : TT} {R Ra Rb Rc R' : VRel} {Rs : List VRel}
theorem Ev.imp (h : Ev Ps G M te R) (k : ∀ F v, R.R F v → R'.R F v) : Ev Ps G M te R' := fun σ F H Q e s q => h σ F H Q e s fun v F' H' ev r => q v F' H' ev (k _ _ r)
theorem Et.imp {P P' : Bool → Prop} (h : Et Ps G M tt P) (k : ∀ b, P b → P' b) : Et Ps G M tt P' := fun σ F H Q e s q => h σ F H Q e s fun v F' H' ev r => q v F' H' ev (k _ r)
theorem Ev.more {x : Addr × MRel} (h : Ev Ps G M te R) (ow : x.2.own = true) : Ev Ps G (x :: M) te R := fun σ F H Q e s q => h σ F H Q e (s.tail ow) fun v F' H' ev r => q v F' H' (ev.more s ow) r
theorem Ev.gle {G' : Gm} (h : Ev Ps G' M te R) (l : GLe G G') : Ev Ps G M te R := fun σ F H Q e s q => h σ F H Q (e.le l) s q
theorem Ev.var {i : Nat} (h : G[i]? = some (some R)) : Ev Ps G M (tVar i) R := fun σ F H Q e s q => by
  obtain ⟨v, h1, h2⟩ := e.2 i R h
  exact ⟨v, h1, q v F H s.refl h2⟩
theorem Ev.c {v : V} (h : ∀ F, R.R F v) : Ev Ps G M (tC v) R := fun σ F H Q e s q => q v F H s.refl (h F)
def O2 (Ps : Tbs) (M : Mu) (r : R2) (Ra Rb R : VRel) : Prop := ∀ F H v w Q, Sh Ps M F H → Ra.R F v → Rb.R F w → (∀ z F' H', Evo Ps M F H F' H' → R.R F' z → Q z H') → r v w H Q
theorem Ev.op {r : R2} (ha : Ev Ps G M ta Ra) (hb : Ev Ps G M tb Rb) (o : O2 Ps M r Ra Rb R) : Ev Ps G M (tOp r ta tb) R := fun σ F H Q e s q =>
  ha σ F H _ e s fun v F1 H1 e1 r1 => hb σ F1 H1 _ (e.mono e1.le) (s.evo e1) fun w F2 H2 e2 r2 => o F2 H2 v w Q ((s.evo e1).evo e2) (Ra.mono _ _ _ e2.le r1) r2 fun z F3 H3 e3 r3 => q z F3 H3 ((e1.trans e2).trans e3) r3
def O1 (Ps : Tbs) (M : Mu) (r : V → Hp → VK → Prop) (Ra R : VRel) : Prop := ∀ F H v Q, Sh Ps M F H → Ra.R F v → (∀ z F' H', Evo Ps M F H F' H' → R.R F' z → Q z H') → r v H Q
theorem Ev.un {r : V → Hp → VK → Prop} (ha : Ev Ps G M ta Ra) (o : O1 Ps M r Ra R) : Ev Ps G M (tUn r ta) R := fun σ F H Q e s q =>
  ha σ F H _ e s fun v F1 H1 e1 r1 => o F1 H1 v Q (s.evo e1) r1 fun z F3 H3 e3 r3 => q z F3 H3 (e1.trans e3) r3
theorem Ea.nil : Ea Ps G M tNil [] := fun σ F H Q e s q => q [] F H s.refl .nil
theorem Ea.cons {tr : TA} (ha : Ev Ps G M ta Ra) (hr : Ea Ps G M tr Rs) : Ea Ps G M (tCons ta tr) (Ra :: Rs) := fun σ F H Q e s q =>
  ha σ F H _ e s fun v F1 H1 e1 r1 => hr σ F1 H1 _ (e.mono e1.le) (s.evo e1) fun vs F2 H2 e2 r2 => q (v :: vs) F2 H2 (e1.trans e2) (.cons (Ra.mono _ _ _ e2.le r1) r2)
def Oc (Ps : Tbs) (M : Mu) (r : List V → Hp → VK → Prop) (Rs : List VRel) (R : VRel) : Prop := ∀ F H vs Q, Sh Ps M F H → RsOk F Rs vs → (∀ z F' H', Evo Ps M F H F' H' → R.R F' z → Q z H') → r vs H Q
theorem Ev.cb {r : List V → Hp → VK → Prop} {t : TA} (ha : Ea Ps G M t Rs) (o : Oc Ps M r Rs R) : Ev Ps G M (tCB r t) R := fun σ F H Q e s q =>
  ha σ F H _ e s fun vs F1 H1 e1 r1 => o F1 H1 vs Q (s.evo e1) r1 fun z F3 H3 e3 r3 => q z F3 H3 (e1.trans e3) r3
theorem Ev.call {sp : Sp} {E : XK} {t : TA} (ha : Ea Ps G M t Rs) (o : Oc Ps M (fun vs H Q => sp (vs ++ []) H Q E) Rs R) : Ev Ps G M (tCall sp [] E t) R := fun σ F H Q e s q =>
  ha σ F H _ e s fun vs F1 H1 e1 r1 => o F1 H1 vs Q (s.evo e1) r1 fun z F3 H3 e3 r3 => q z F3 H3 (e1.trans e3) r3
theorem Et.val {P : Bool → Prop} (ha : Ev Ps G M ta ⟨fun _ v => ∃ b, v = .bl b ∧ P b, fun _ _ _ _ h => h⟩) : Et Ps G M (tB ta) P := fun σ F H Q e s q => ha σ F H _ e s fun v F1 H1 e1 ⟨b, r1, r2⟩ => ⟨b, r1, q b F1 H1 e1 r2⟩
theorem Et.test {P : Bool → Prop} (ha : Ev Ps G M ta ⟨fun _ v => ∃ b, v = .bl b ∧ P b, fun _ _ _ _ h => h⟩) : Et Ps G M (tTest ta) P := fun σ F H Q e s q => ha σ F H _ e s fun v F1 H1 e1 ⟨b, r1, r2⟩ => ⟨b, r1, q b F1 H1 e1 r2⟩
theorem Et.not {P : Bool → Prop} (h : Et Ps G M tt fun b => P (!b)) : Et Ps G M (tNot tt) P := fun σ F H Q e s q => h σ F H _ e s fun b F1 H1 e1 r1 => q _ F1 H1 e1 r1
theorem Et.and {P P1 : Bool → Prop} (h : Et Ps G M tt P1) (h1 : P1 false → P false) (h2 : P1 true → Et Ps G M tu P) : Et Ps G M (tAnd tt tu) P := fun σ F H Q e s q => h σ F H _ e s fun b F1 H1 e1 r1 => by
  cases b with
  | false => exact q _ F1 H1 e1 (h1 r1)
  | true => exact h2 r1 σ F1 H1 _ (e.mono e1.le) (s.evo e1) fun b F2 H2 e2 r2 => q _ F2 H2 (e1.trans e2) r2
theorem Et.or {P P1 : Bool → Prop} (h : Et Ps G M tt P1) (h1 : P1 true → P true) (h2 : P1 false → Et Ps G M tu P) : Et Ps G M (tOr tt tu) P := fun σ F H Q e s q => h σ F H _ e s fun b F1 H1 e1 r1 => by
  cases b with
  | true => exact q _ F1 H1 e1 (h1 r1)
  | false => exact h2 r1 σ F1 H1 _ (e.mono e1.le) (s.evo e1) fun b F2 H2 e2 r2 => q _ F2 H2 (e1.trans e2) r2
theorem Et.yes : Et Ps G M tYes (· = true) := fun σ F H Q e s q => q true F H s.refl rfl
theorem Ev.ite {P : Bool → Prop} (h : Et Ps G M tt P) (h1 : P true → Ev Ps G M ta R) (h2 : P false → Ev Ps G M tb R) : Ev Ps G M (tIf tt ta tb) R := fun σ F H Q e s q => h σ F H _ e s fun b F1 H1 e1 r1 => by
  cases b with
  | true => exact h1 r1 σ F1 H1 _ (e.mono e1.le) (s.evo e1) fun b F2 H2 e2 r2 => q _ F2 H2 (e1.trans e2) r2
  | false => exact h2 r1 σ F1 H1 _ (e.mono e1.le) (s.evo e1) fun b F2 H2 e2 r2 => q _ F2 H2 (e1.trans e2) r2
def BlP (P : Bool → Prop) : VRel := ⟨fun _ v => ∃ b, v = .bl b ∧ P b, fun _ _ _ _ h => h⟩
theorem Ev.andV {P P1 : Bool → Prop} (h : Ev Ps G M ta (BlP P1)) (h1 : P1 false → P false) (h2 : P1 true → Ev Ps G M tb (BlP P)) : Ev Ps G M (tAndV ta tb) (BlP P) := fun σ F H Q e s q => h σ F H _ e s fun v F1 H1 e1 ⟨b, r0, r1⟩ => by
  subst r0
  refine ⟨b, rfl, ?_⟩
  cases b with
  | false => exact q _ F1 H1 e1 ⟨false, rfl, h1 r1⟩
  | true => exact h2 r1 σ F1 H1 _ (e.mono e1.le) (s.evo e1) fun b F2 H2 e2 r2 => q _ F2 H2 (e1.trans e2) r2
theorem Ev.orV {P P1 : Bool → Prop} (h : Ev Ps G M ta (BlP P1)) (h1 : P1 true → P true) (h2 : P1 false → Ev Ps G M tb (BlP P)) : Ev Ps G M (tOrV ta tb) (BlP P) := fun σ F H Q e s q => h σ F H _ e s fun v F1 H1 e1 ⟨b, r0, r1⟩ => by
  subst r0
  refine ⟨b, rfl, ?_⟩
  cases b with
  | true => exact q _ F1 H1 e1 ⟨true, rfl, h1 r1⟩
  | false => exact h2 r1 σ F1 H1 _ (e.mono e1.le) (s.evo e1) fun b F2 H2 e2 r2 => q _ F2 H2 (e1.trans e2) r2
theorem Ev.notV {P : Bool → Prop} (h : Ev Ps G M ta (BlP fun b => P (!b))) : Ev Ps G M (tNotV ta) (BlP P) := fun σ F H Q e s q => h σ F H _ e s fun v F1 H1 e1 ⟨b, r0, r1⟩ => ⟨b, r0, q _ F1 H1 e1 ⟨_, rfl, r1⟩⟩
theorem Ev.tup {t : TA} (ha : Ea Ps G M t Rs) (l : Rs.length ≤ 100) (h : ∀ F p vs, F p = some (.tup vs) → RsOk F Rs vs → R.R F (.ref p)) : Ev Ps G M (tTup t) R := fun σ F H Q e s q =>
  ha σ F H _ e s fun vs F1 H1 e1 r1 => ⟨by rw [← Paired.length r1]; exact Nat.le_trans l (by decide), fun p hp => q _ _ _ (e1.trans ((s.evo e1).new hp)) (h _ p vs upd_same (r1.mono ((s.evo e1).new (o := .tup vs) hp).le))⟩
theorem Ev.lst {t : TA} (ha : Ea Ps G M t Rs) (l : Rs.length ≤ 100) (h : ∀ F p vs, F p = some (.lst vs) → RsOk F Rs vs → R.R F (.ref p)) : Ev Ps G M (tLst t) R := fun σ F H Q e s q =>
  ha σ F H _ e s fun vs F1 H1 e1 r1 => ⟨by rw [← Paired.length r1]; exact Nat.le_trans l (by decide), fun p hp => q _ _ _ (e1.trans ((s.evo e1).new hp)) (h _ p vs upd_same (r1.mono ((s.evo e1).new (o := .lst vs) hp).le))⟩
end RP

set_option maxRecDepth 100000
set_option maxHeartbeats 4000000
namespace RP
open PySem PySem.Spec PyProof.Rows L2
/-- what a value is, by the frozen part -/
class Rp (α : Type) where
  rp : PySem.W.Frag → Hp → V → α → Prop
  mono : ∀ K F F' v x, Le F F' → rp K F v x → rp K F' v x
open Rp (rp)
instance : Rp Int := ⟨fun _ _ v n => v = .int n, fun _ _ _ _ _ _ h => h⟩
instance : Rp Nat := ⟨fun _ _ v n => v = .int (n : Int), fun _ _ _ _ _ _ h => h⟩
instance : Rp Bool := ⟨fun _ _ v b => v = .bl b, fun _ _ _ _ _ _ h => h⟩
instance : Rp Str := ⟨fun _ _ v t => v = .str t, fun _ _ _ _ _ _ h => h⟩
instance : Rp Unit := ⟨fun _ _ v _ => v = .non, fun _ _ _ _ _ _ h => h⟩
/-- an address as it is -/
def At (a : Addr) : VRel := ⟨fun _ v => v = .ref a, fun _ _ _ _ h => h⟩
instance {α : Type} [Rp α] : Rp (Option α) := ⟨fun K F v o => match o with | none => v = .non | some x => rp K F v x, fun K F F' v o l h => by
  cases o with
  | none => exact h
  | some x => exact Rp.mono K F F' v x l h⟩
def Ps2 {α : Type} [Rp α] (K : PySem.W.Frag) (F : Hp) (vs : List V) (xs : List α) : Prop := Paired (fun v x => rp K F v x) vs xs
theorem Ps2.mono {α : Type} [Rp α] {K : PySem.W.Frag} {F F' : Hp} (l : Le F F') {vs : List V} {xs : List α} (h : Ps2 K F vs xs) : Ps2 K F' vs xs := by
  unfold Ps2 at *
  induction h with
  | nil => exact .nil
  | cons a _ ih => exact .cons (Rp.mono K F F' _ _ l a) ih
theorem Le.sqT {K : PySem.W.Frag} {F F' : Hp} {a : Addr} {vs : List V} (l : Le F F') (h : SqT K F a vs) : SqT K F' a vs :=
  h.elim (fun h => .inl (h.elim (fun h => .inl (l _ _ h)) fun ⟨o, h⟩ => .inr ⟨o, l _ _ h⟩)) .inr
instance {α : Type} [Rp α] : Rp (List α) := ⟨fun K F v xs => ∃ a vs, v = .ref a ∧ F a = some (.lst vs) ∧ Ps2 K F vs xs, fun K F F' v xs l ⟨a, vs, e, h, p⟩ => ⟨a, vs, e, l _ _ h, p.mono l⟩⟩
/-- a tuple of like things -/
structure Tl (α : Type) where
  l : List α
instance {α : Type} [Rp α] : Rp (Tl α) := ⟨fun K F v xs => ∃ a vs, v = .ref a ∧ SqT K F a vs ∧ Ps2 K F vs xs.l, fun K F F' v xs l ⟨a, vs, e, h, p⟩ => ⟨a, vs, e, l.sqT h, p.mono l⟩⟩
instance {α β : Type} [Rp α] [Rp β] : Rp (α × β) := ⟨fun K F v x => ∃ a u w, v = .ref a ∧ F a = some (.tup [u, w]) ∧ rp K F u x.1 ∧ rp K F w x.2, fun K F F' v x l ⟨a, u, w, e, h, p, q⟩ => ⟨a, u, w, e, l _ _ h, Rp.mono K F F' _ _ l p, Rp.mono K F F' _ _ l q⟩⟩
class Ky (κ : Type) where
  key : κ → Key
  inj : ∀ x y, key x = key y → x = y
instance : Ky Str := ⟨.inr, fun _ _ h => Sum.inr.inj h⟩
instance : Ky Int := ⟨.inl, fun _ _ h => Sum.inl.inj h⟩
instance : Ky Nat := ⟨fun n => .inl (n : Int), fun _ _ h => Int.ofNat.inj (Sum.inl.inj h)⟩
/-- a table: its pairs in order -/
structure Dc (κ α : Type) where
  l : List (κ × α)
def Kvs {κ α : Type} [Ky κ] [Rp α] (K : PySem.W.Frag) (F : Hp) (kvs : List (Key × V)) (l : List (κ × α)) : Prop := Paired (fun (kv : Key × V) (e : κ × α) => kv.1 = Ky.key e.1 ∧ rp K F kv.2 e.2) kvs l
theorem Kvs.mono {κ α : Type} [Ky κ] [Rp α] {K : PySem.W.Frag} {F F' : Hp} (l : Le F F') {kvs : List (Key × V)} {xs : List (κ × α)} (h : Kvs K F kvs xs) : Kvs K F' kvs xs := by
  unfold Kvs at *
  induction h with
  | nil => exact .nil
  | cons a _ ih => exact .cons ⟨a.1, Rp.mono K F F' _ _ l a.2⟩ ih
instance {κ α : Type} [Ky κ] [Rp α] : Rp (Dc κ α) := ⟨fun K F v d => ∃ a kvs, v = .ref a ∧ F a = some (.dK kvs) ∧ Kvs K F kvs d.l, fun K F F' v d l ⟨a, kvs, e, h, p⟩ => ⟨a, kvs, e, l _ _ h, p.mono l⟩⟩
def Is (K : PySem.W.Frag) {α : Type} [Rp α] (x : α) : VRel := ⟨fun F v => rp K F v x, fun F F' v l h => Rp.mono K F F' v x l h⟩
def Exi (K : PySem.W.Frag) {α : Type} [Rp α] (P : α → Prop) : VRel := ⟨fun F v => ∃ x, P x ∧ rp K F v x, fun F F' v l ⟨x, p, h⟩ => ⟨x, p, Rp.mono K F F' v x l h⟩⟩
section
variable {Ps : Tbs} {M : Mu} {G : Gm} {K : PySem.W.Frag} {ta tb tc te : TE} {tt tu : TT} {R Ra Rb : VRel} {F H : Hp}
theorem Ev.to {α : Type} [Rp α] {x y : α} (h : Ev Ps G M te (Is K x)) (e : x = y) : Ev Ps G M te (Is K y) := e ▸ h
theorem Ev.int {n : Int} : Ev Ps G M (tC (.int n)) (Is K n) := Ev.c fun _ => rfl
theorem Ev.str {t : Str} : Ev Ps G M (tC (.str t)) (Is K t) := Ev.c fun _ => rfl
theorem Ev.bl {b : Bool} : Ev Ps G M (tC (.bl b)) (Is K b) := Ev.c fun _ => rfl
theorem Ev.non {α : Type} [Rp α] : Ev Ps G M (tC .non) (Is K (none : Option α)) := Ev.c fun _ => rfl
theorem Ev.opt {α : Type} [Rp α] {x : α} (h : Ev Ps G M te (Is K x)) : Ev Ps G M te (Is K (some x)) := h.imp fun _ _ r => r
theorem Ev.exi {α : Type} [Rp α] {x : α} {P : α → Prop} (h : Ev Ps G M te (Is K x)) (p : P x) : Ev Ps G M te (Exi K P) := h.imp fun _ _ r => ⟨x, p, r⟩
theorem Ev.blp {b : Bool} (h : Ev Ps G M te (Is K b)) : Ev Ps G M te (BlP (· = b)) := h.imp fun _ _ r => ⟨b, r, rfl⟩
theorem Ev.of_blp {P : Bool → Prop} {b : Bool} (h : Ev Ps G M te (BlP P)) (k : ∀ c, P c → c = b) : Ev Ps G M te (Is K b) := h.imp fun _ _ ⟨c, e, p⟩ => by
  rw [k c p] at e
  exact e
theorem Et.is {b : Bool} (h : Ev Ps G M te (Is K b)) : Et Ps G M (tTest te) (· = b) := Et.test h.blp
theorem Et.isB {b : Bool} (h : Ev Ps G M te (Is K b)) : Et Ps G M (tB te) (· = b) := Et.val h.blp
/-! ### operators -/
theorem o2_int {g : Int → Int → Int} {i j : Int} : O2 Ps M (rI0 fun i j => .int (g i j)) (Is K i) (Is K j) (Is K (g i j)) := fun F H v w Q s a b q => by
  cases a
  cases b
  exact ⟨i, j, rfl, rfl, q _ F H s.refl rfl⟩
theorem o2_intC {C : Int → Int → Prop} {g : Int → Int → Int} {i j : Int} (h : C i j) : O2 Ps M (rI C fun i j => .int (g i j)) (Is K i) (Is K j) (Is K (g i j)) := fun F H v w Q s a b q => by
  cases a
  cases b
  exact ⟨i, j, rfl, rfl, h, q _ F H s.refl rfl⟩
theorem o2_cmp {g : Int → Int → Bool} {i j : Int} : O2 Ps M (rI0 fun i j => .bl (g i j)) (Is K i) (Is K j) (Is K (g i j)) := fun F H v w Q s a b q => by
  cases a
  cases b
  exact ⟨i, j, rfl, rfl, q _ F H s.refl rfl⟩
theorem o1_int {g : Int → Int} {i : Int} : O1 Ps M (rU fun i => .int (g i)) (Is K i) (Is K (g i)) := fun F H v Q s a q => by
  cases a
  exact ⟨i, rfl, q _ F H s.refl rfl⟩
/-- scalars that == tells apart -/
class Sc (α : Type) [Rp α] where
  v : α → V
  eq : ∀ K F w x, rp K F w x → w = v x
  inj : ∀ x y, v x = v y → x = y
  sc : ∀ x y, scal (v x) (v y) = true
instance : Sc Int := ⟨.int, fun _ _ _ _ h => h, fun _ _ h => V.int.inj h, fun _ _ => rfl⟩
instance : Sc Nat := ⟨fun n => .int (n : Int), fun _ _ _ _ h => h, fun _ _ h => Int.ofNat.inj (V.int.inj h), fun _ _ => rfl⟩
instance : Sc Bool := ⟨.bl, fun _ _ _ _ h => h, fun _ _ h => V.bl.inj h, fun _ _ => rfl⟩
instance : Sc Str := ⟨.str, fun _ _ _ _ h => h, fun _ _ h => V.str.inj h, fun _ _ => rfl⟩
instance : Sc (Option Str) := ⟨fun o => match o with | none => .non | some x => .str x, fun _ _ _ o h => by cases o <;> exact h, fun x y h => by
  cases x <;> cases y <;> simp_all, fun x y => by cases x <;> cases y <;> rfl⟩
instance : Sc (Option Int) := ⟨fun o => match o with | none => .non | some x => .int x, fun _ _ _ o h => by cases o <;> exact h, fun x y h => by
  cases x <;> cases y <;> simp_all, fun x y => by cases x <;> cases y <;> rfl⟩
theorem o2_eq {α : Type} [Rp α] [DecidableEq α] [Sc α] {x y : α} : O2 Ps M rEq (Is K x) (Is K y) (Is K (decide (x = y))) := fun F H v w Q s a b q => by
  have e1 := Sc.eq K F v x a
  have e2 := Sc.eq K F w y b
  subst e1 e2
  refine ⟨Sc.sc x y, q _ F H s.refl ?_⟩
  exact congrArg V.bl (decide_eq_decide.mpr ⟨fun h => Sc.inj _ _ h, fun h => by rw [h]⟩)
theorem o2_ne {α : Type} [Rp α] [DecidableEq α] [Sc α] {x y : α} : O2 Ps M rNe (Is K x) (Is K y) (Is K (!decide (x = y))) := fun F H v w Q s a b q => by
  have e1 := Sc.eq K F v x a
  have e2 := Sc.eq K F w y b
  subst e1 e2
  refine ⟨Sc.sc x y, q _ F H s.refl ?_⟩
  exact congrArg (fun b => V.bl (!b)) (decide_eq_decide.mpr ⟨fun h => Sc.inj _ _ h, fun h => by rw [h]⟩)
/-- data that == tells apart at any depth -/
class Dq (α : Type) [Rp α] where
  d : α → PyData
  dp : ∀ (K : PySem.W.Frag) (F H : Hp) (v : V) (x : α), Sub F H → rp K F v x → Dp K H v (d x)
  eqv : ∀ x y, PyData.eqv (d x) (d y) = true ↔ x = y
  ok : α → Prop
  lay : ∀ x, ok x → PyData.canLay0 (d x) = true
  n : Nat
  dep : ∀ x, PyData.depth (d x) ≤ n
instance : Dq Int := ⟨.int, fun _ _ _ _ x _ h => by cases h; exact .int x, fun x y => by simp [PyData.eqv], fun _ => True, fun _ _ => rfl, 0, fun _ => Nat.le_refl _⟩
instance : Dq Nat := ⟨fun n => .int n, fun _ _ _ _ x _ h => by cases h; exact .int _, fun x y => by simp [PyData.eqv]; omega, fun _ => True, fun _ _ => rfl, 0, fun _ => Nat.le_refl _⟩
instance : Dq Bool := ⟨.bool, fun _ _ _ _ x _ h => by cases h; exact .bl x, fun x y => by simp [PyData.eqv], fun _ => True, fun _ _ => rfl, 0, fun _ => Nat.le_refl _⟩
instance : Dq Str := ⟨.str, fun _ _ _ _ x _ h => by cases h; exact .str x, fun x y => by simp [PyData.eqv], fun x => PyData.strOk x = true, fun x h => by simp [PyData.canLay0, h], 0, fun _ => Nat.le_refl _⟩
instance : Dq (Option Str) := ⟨fun o => match o with | none => .none | some x => .str x, fun _ _ _ _ x _ h => by cases x <;> cases h <;> first | exact .non | exact .str _, fun x y => by cases x <;> cases y <;> simp [PyData.eqv], fun o => ∀ x, o = some x → PyData.strOk x = true, fun o h => by
  cases o with
  | none => rfl
  | some x => simp [PyData.canLay0, h x rfl], 0, fun o => by cases o <;> exact Nat.le_refl _⟩
theorem dpAll {α : Type} [Rp α] [Dq α] {vs : List V} {xs : List α} (s : Sub F H) (h : Ps2 K F vs xs) : DpAll K H vs (xs.map Dq.d) := by
  unfold Ps2 at h
  induction h with
  | nil => exact .nil
  | cons a _ ih => exact .cons (Dq.dp K F H _ _ s a) ih
theorem eqvAll {α : Type} [Rp α] [Dq α] : ∀ xs ys : List α, PyData.eqvAll (xs.map Dq.d) (ys.map Dq.d) = true ↔ xs = ys
  | [], [] => by simp [PyData.eqvAll]
  | [], _ :: _ => by simp [PyData.eqvAll]
  | _ :: _, [] => by simp [PyData.eqvAll]
  | x :: r, y :: q => by simp [PyData.eqvAll, eqvAll r q, Dq.eqv]
theorem layAll {α : Type} [Rp α] [Dq α] : ∀ xs : List α, (∀ x ∈ xs, Dq.ok x) → PyData.canLayAll0 (xs.map Dq.d) = true
  | [], _ => rfl
  | x :: r, h => by
    rw [List.map_cons]
    simp [PyData.canLayAll0, Dq.lay x (h x (List.mem_cons_self ..)), layAll r fun y hy => h y (List.mem_cons_of_mem _ hy)]
theorem depAll {α : Type} [Rp α] [Dq α] : ∀ xs : List α, PyData.depthAll (xs.map Dq.d) ≤ Dq.n α
  | [] => Nat.zero_le _
  | x :: r => by
    rw [List.map_cons]
    simp only [PyData.depthAll]
    exact Nat.max_le.mpr ⟨Dq.dep x, depAll r⟩
theorem Sub.lst {a : Addr} {vs : List V} (s : Sub F H) (h : F a = some (.lst vs)) : H a = some (.lst vs) := by
  rcases s _ _ h with h | ⟨_, _, e, _⟩
  · exact h
  · cases e
theorem Sub.tup {a : Addr} {vs : List V} (s : Sub F H) (h : F a = some (.tup vs)) : H a = some (.tup vs) := by
  rcases s _ _ h with h | ⟨_, _, e, _⟩
  · exact h
  · cases e
theorem Sub.sqT {a : Addr} {vs : List V} (s : Sub F H) (h : SqT K F a vs) : SqT K H a vs := by
  rcases h with (h | ⟨o, h⟩) | h
  · exact .inl (.inl (s.tup h))
  · rcases s _ _ h with h | ⟨_, _, e, _⟩
    · exact .inl (.inr ⟨o, h⟩)
    · cases e
  · exact .inr h
theorem Sub.rdK {a : Addr} {kvs : List (Key × V)} (s : Sub F H) (h : F a = some (.dK kvs)) : Rd H a (.dK kvs) := by
  rcases s _ _ h with h | ⟨od, _, _, h⟩
  · exact .inl h
  · exact .inr ⟨od, h⟩
instance {α : Type} [Rp α] [Dq α] : Dq (List α) := ⟨fun xs => .list (xs.map Dq.d), fun K F H v x s ⟨a, vs, e, h, p⟩ => by subst e; exact .lst (SqL.of (s.lst h)) (dpAll s p), fun x y => by simp [PyData.eqv, eqvAll], fun xs => ∀ x ∈ xs, Dq.ok x, fun x h => by simp [PyData.canLay0, layAll x h], Dq.n α + 1, fun x => by
  simp only [PyData.depth]
  exact Nat.succ_le_succ (depAll x)⟩
instance {α : Type} [Rp α] [Dq α] : Dq (Tl α) := ⟨fun xs => .tuple (xs.l.map Dq.d), fun K F H v x s ⟨a, vs, e, h, p⟩ => by subst e; exact .tup (s.sqT h) (dpAll s p), fun ⟨x⟩ ⟨y⟩ => by simp [PyData.eqv, eqvAll], fun xs => ∀ x ∈ xs.l, Dq.ok x, fun x h => by simp [PyData.canLay0, layAll x.l h], Dq.n α + 1, fun x => by
  simp only [PyData.depth]
  exact Nat.succ_le_succ (depAll x.l)⟩
instance {α β : Type} [Rp α] [Dq α] [Rp β] [Dq β] : Dq (α × β) := ⟨fun x => .tuple [Dq.d x.1, Dq.d x.2], fun K F H v x s ⟨a, u, w, e, h, p, q⟩ => by subst e; exact .tup (SqT.of (s.tup h)) (.cons (Dq.dp K F H _ _ s p) (.cons (Dq.dp K F H _ _ s q) .nil)), fun x y => by
  obtain ⟨x1, x2⟩ := x
  obtain ⟨y1, y2⟩ := y
  simp [PyData.eqv, PyData.eqvAll, Dq.eqv], fun x => Dq.ok x.1 ∧ Dq.ok x.2, fun x h => by simp [PyData.canLay0, PyData.canLayAll0, Dq.lay _ h.1, Dq.lay _ h.2], max (Dq.n α) (Dq.n β) + 1, fun x => by
  simp only [PyData.depth, PyData.depthAll]
  refine Nat.succ_le_succ (Nat.max_le.mpr ⟨Nat.le_trans (Dq.dep x.1) (Nat.le_max_left _ _), Nat.max_le.mpr ⟨Nat.le_trans (Dq.dep x.2) (Nat.le_max_right _ _), Nat.zero_le _⟩⟩)⟩
theorem Dq.shaped {α : Type} [Rp α] [Dq α] {x : α} (h : Dq.ok x) (n : Dq.n α ≤ 64) : SeqAt.shaped (Dq.d x) = true := by
  have := Dq.dep x
  simp [SeqAt.shaped, Dq.lay x h]
  omega
theorem o2_eqD {α : Type} [Rp α] [DecidableEq α] [Dq α] {x y : α} (hx : Dq.ok x) (hy : Dq.ok y) (n : Dq.n α ≤ 64 := by decide) : O2 Ps M (rEqD K) (Is K x) (Is K y) (Is K (decide (x = y))) := fun F H v w Q s a b q =>
  ⟨_, _, Dq.dp K F H v x s.sub a, Dq.dp K F H w y s.sub b, Dq.shaped hx n, Dq.shaped hy n, q _ F H s.refl (congrArg V.bl (by rw [Bool.eq_iff_iff, Dq.eqv, decide_eq_true_iff]))⟩
theorem o2_neD {α : Type} [Rp α] [DecidableEq α] [Dq α] {x y : α} (hx : Dq.ok x) (hy : Dq.ok y) (n : Dq.n α ≤ 64 := by decide) : O2 Ps M (rNeD K) (Is K x) (Is K y) (Is K (!decide (x = y))) := fun F H v w Q s a b q =>
  ⟨_, _, Dq.dp K F H v x s.sub a, Dq.dp K F H w y s.sub b, Dq.shaped hx n, Dq.shaped hy n, q _ F H s.refl (congrArg (fun b => V.bl (!b)) (by rw [Bool.eq_iff_iff, Dq.eqv, decide_eq_true_iff]))⟩
end
end RP

set_option maxRecDepth 100000
set_option maxHeartbeats 4000000
namespace RP
open PySem PySem.Spec PyProof.Rows L2
open Rp (rp)
/-! ### what is walked -/
/-- J walks n turns; at turn i comes what Rs i tells; F1 tells where it walks -/
structure Wk (Ps : Tbs) (L : Mu) (F1 : Hp) (J : It) (n : Nat) (Rs : Nat → VRel) : Prop where
  goes : ∀ M i F H, (∀ e ∈ L, e ∈ M) → i < n → Le F1 F → Sh Ps M F H → J.go i H
  stops : ∀ M F H, (∀ e ∈ L, e ∈ M) → Le F1 F → Sh Ps M F H → J.stop n H
  yields : ∀ M i F H x H', (∀ e ∈ L, e ∈ M) → i < n → Le F1 F → Sh Ps M F H → J.yld i H x H' → ∃ F', Evo Ps M F H F' H' ∧ (Rs i).R F' x
def Ei (Ps : Tbs) (G : Gm) (M L : Mu) (wi : TI) (n : Nat) (Rs : Nat → VRel) : Prop := ∀ σ F H (R : It → Hp → Prop), EnvOk F σ G → Sh Ps M F H → (∀ J F1 H1, Evo Ps M F H F1 H1 → Wk Ps L F1 J n Rs → R J H1) → wi σ H R
section
variable {Ps : Tbs} {M : Mu} {G : Gm} {K : PySem.W.Frag} {ta tb tc te : TE} {tt tu : TT} {R Ra Rb : VRel} {F H : Hp} {wi : TI} {n : Nat} {Rs : Nat → VRel}
theorem Paired.get? {α β : Type} {P : α → β → Prop} : ∀ {l : List α} {r : List β}, Paired P l r → ∀ {i : Nat} {x : α} {y : β}, l[i]? = some x → r[i]? = some y → P x y
  | _, _, .nil, _, _, _, h, _ => by simp at h
  | _, _, .cons h t, 0, _, _, h1, h2 => by
    simp at h1 h2
    rw [← h1, ← h2]
    exact h
  | _, _, .cons h t, i + 1, _, _, h1, h2 => by
    simp at h1 h2
    exact Paired.get? t h1 h2
/-- the i-th of xs -/
def Nth (K : PySem.W.Frag) {α : Type} [Rp α] (xs : List α) : Nat → VRel := fun i => ⟨fun F v => ∃ x, xs[i]? = some x ∧ rp K F v x, fun F F' v l ⟨x, e, h⟩ => ⟨x, e, Rp.mono K F F' v x l h⟩⟩
theorem Ei.list {α : Type} [Rp α] {xs : List α} (h : Ev Ps G M te (Is K xs)) : Ei Ps G M [] (iList K te) xs.length (Nth K xs) := fun σ F H R e s q => h σ F H _ e s fun v F1 H1 e1 ⟨a, vs, ev, hF, hp⟩ => by
  subst ev
  have ln := Paired.length hp
  refine ⟨a, rfl, ⟨vs, SqL.of ((s.evo e1).sub.lst hF)⟩, q _ F1 H1 e1 ⟨fun _ i F' H' _ hi l s' => ?_, fun _ F' H' _ l s' => ?_, fun _ i F' H' x H'' _ hi l s' y => ?_⟩⟩
  · exact ⟨vs, vs[i], SqL.of (s'.sub.lst (l _ _ hF)), by simp [show i < vs.length by omega]⟩
  · exact ⟨vs, SqL.of (s'.sub.lst (l _ _ hF)), by omega⟩
  · obtain ⟨rfl, y⟩ := y
    have := y vs (SqL.of (s'.sub.lst (l _ _ hF)))
    exact ⟨F', s'.refl, xs[i], by simp [hi], Rp.mono K _ _ _ _ l (Paired.get? hp this (by simp [hi]))⟩
theorem Ei.tup {α : Type} [Rp α] {xs : Tl α} (h : Ev Ps G M te (Is K xs)) : Ei Ps G M [] (iTup K te) xs.l.length (Nth K xs.l) := fun σ F H R e s q => h σ F H _ e s fun v F1 H1 e1 ⟨a, vs, ev, hF, hp⟩ => by
  subst ev
  have ln := Paired.length hp
  refine ⟨a, rfl, ⟨vs, (s.evo e1).sub.sqT hF⟩, q _ F1 H1 e1 ⟨fun _ i F' H' _ hi l s' => ?_, fun _ F' H' _ l s' => ?_, fun _ i F' H' x H'' _ hi l s' y => ?_⟩⟩
  · exact ⟨vs, vs[i], s'.sub.sqT (l.sqT hF), by simp [show i < vs.length by omega]⟩
  · exact ⟨vs, s'.sub.sqT (l.sqT hF), by omega⟩
  · obtain ⟨rfl, y⟩ := y
    have := y vs (s'.sub.sqT (l.sqT hF))
    exact ⟨F', s'.refl, xs.l[i], by simp [hi], Rp.mono K _ _ _ _ l (Paired.get? hp this (by simp [hi]))⟩
theorem Ei.range1 {t : TA} {j : Int} (h : Ea Ps G M t [Is K j]) (hb : -(2 ^ 62) ≤ j ∧ j < 2 ^ 62) : Ei Ps G M [] (iRng1 t) j.toNat (fun i => Is K (i : Int)) := fun σ F H R e s q => h σ F H _ e s fun vs F1 H1 e1 r1 => by
  obtain ⟨v, rfl, hv⟩ : ∃ v, vs = [v] ∧ (Is K j).R F1 v := by
    cases r1 with
    | cons a t => cases t; exact ⟨_, rfl, a⟩
  cases hv
  refine ⟨j, rfl, hb.1, hb.2, q _ F1 H1 e1 ⟨fun _ i F' H' _ hi l s' => hi, fun _ F' H' _ l s' => Nat.le_refl _, fun _ i F' H' x H'' _ hi l s' y => ?_⟩⟩
  obtain ⟨rfl, rfl⟩ := y
  exact ⟨F', s'.refl, by show V.int (0 + (i : Int)) = V.int (i : Int); rw [Int.zero_add]⟩
theorem Ei.range2 {t : TA} {a b : Int} (h : Ea Ps G M t [Is K a, Is K b]) (hb : -(2 ^ 62) ≤ a ∧ a < 2 ^ 62 ∧ -(2 ^ 62) ≤ b ∧ b < 2 ^ 62) : Ei Ps G M [] (iRng2 t) (b - a).toNat (fun i => Is K (a + (i : Int))) := fun σ F H R e s q => h σ F H _ e s fun vs F1 H1 e1 r1 => by
  obtain ⟨v, w, rfl, hv, hw⟩ : ∃ v w, vs = [v, w] ∧ (Is K a).R F1 v ∧ (Is K b).R F1 w := by
    cases r1 with
    | cons x t => cases t with
      | cons y t => cases t; exact ⟨_, _, rfl, x, y⟩
  cases hv
  cases hw
  refine ⟨a, b, rfl, hb, q _ F1 H1 e1 ⟨fun _ i F' H' _ hi l s' => hi, fun _ F' H' _ l s' => Nat.le_refl _, fun _ i F' H' x H'' _ hi l s' y => ?_⟩⟩
  obtain ⟨rfl, rfl⟩ := y
  exact ⟨F', s'.refl, rfl⟩
theorem Ei.str {t : Str} (h : Ev Ps G M te (Is K t)) : Ei Ps G M [] (iStr te) t.cps.size (fun i => ⟨fun _ v => ∃ c, t.cps[i]? = some c ∧ v = .str ⟨#[c]⟩, fun _ _ _ _ h => h⟩) := fun σ F H R e s q => h σ F H _ e s fun v F1 H1 e1 r1 => by
  cases r1
  refine ⟨t, rfl, q _ F1 H1 e1 ⟨fun _ i F' H' _ hi l s' => hi, fun _ F' H' _ l s' => Nat.le_refl _, fun _ i F' H' x H'' _ hi l s' y => ?_⟩⟩
  obtain ⟨rfl, c, h1, h2⟩ := y
  exact ⟨F', s'.refl, c, h1, h2⟩
/-- a store to a target: what it needs of the value, what the slots are then -/
def Eg (Ps : Tbs) (G : Gm) (M : Mu) (g : TG) (R : VRel) (G' : Gm) (sl : List Nat) : Prop := ∀ (v : V) (σ : L2.St) (F H : Hp) (Q : L2.St → Hp → Prop), EnvOk F σ G → Sh Ps M F H → R.R F v → (∀ σ' : L2.St, EnvOk F σ' G' → σ'.length = σ.length → (∀ k : Nat, k ∉ sl → σ'[k]? = σ[k]?) → Q σ' H) → g v σ H Q
theorem Eg.name {i : Nat} : Eg Ps G M (gName i) R (G.set i (some R)) [i] := fun v σ F H Q e s r q => q _ (e.set r) (List.length_set ..) fun k hk => List.getElem?_set_ne fun z => hk (by rw [z]; exact List.mem_singleton.mpr rfl)
/-- a, b = .. -/
theorem Eg.two {g1 g2 : TG} {R1 R2 : VRel} {G1 G2 : Gm} {s1 s2 : List Nat} (hR : ∀ F v, R.R F v → ∃ a u w, v = .ref a ∧ F a = some (.tup [u, w]) ∧ R1.R F u ∧ R2.R F w) (h1 : Eg Ps G M g1 R1 G1 s1) (h2 : Eg Ps G1 M g2 R2 G2 s2) : Eg Ps G M (gTup K 2 (gCons g1 (gCons g2 gNil))) R G2 (s1 ++ s2) := fun v σ F H Q e s r q => by
  obtain ⟨a, u, w, rfl, ht, r1, r2⟩ := hR F v r
  refine ⟨a, _, rfl, SqT.of (s.sub.tup ht), rfl, u, [w], rfl, h1 u σ F H _ e s r1 fun σ1 e1 l1 k1 => ⟨w, [], rfl, h2 w σ1 F H _ e1 s r2 fun σ2 e2 l2 k2 => ⟨rfl, q σ2 e2 (l2.trans l1) fun k hk => ?_⟩⟩⟩
  rw [k2 k fun z => hk (List.mem_append_right _ z), k1 k fun z => hk (List.mem_append_left _ z)]
theorem pair_two {α β : Type} [Rp α] [Rp β] {x : α × β} : ∀ F v, (Is K x).R F v → ∃ a u w, v = .ref a ∧ F a = some (.tup [u, w]) ∧ (Is K x.1).R F u ∧ (Is K x.2).R F w := fun F v h => h
theorem Eg.pair {α β : Type} [Rp α] [Rp β] {x : α × β} {g1 g2 : TG} {G1 G2 : Gm} {s1 s2 : List Nat} (h1 : Eg Ps G M g1 (Is K x.1) G1 s1) (h2 : Eg Ps G1 M g2 (Is K x.2) G2 s2) : Eg Ps G M (gTup K 2 (gCons g1 (gCons g2 gNil))) (Is K x) G2 (s1 ++ s2) := Eg.two pair_two h1 h2
end
end RP

set_option maxRecDepth 100000
set_option maxHeartbeats 4000000
namespace RP
open PySem PySem.Spec PyProof.Rows L2
open Rp (rp)
def wipeG (G : Gm) : List Nat → Gm
  | [] => G
  | v :: vs => (wipeG G vs).set v none
section
variable {Ps : Tbs} {M L : Mu} {G : Gm} {K : PySem.W.Frag} {ta tb tc te : TE} {tt tu : TT} {R Ra Rb : VRel} {F H : Hp} {wi : TI} {n : Nat} {Rs : Nat → VRel} {g : TG} {vs sl : List Nat}
theorem EnvOk.wipe {σ : L2.St} (h : EnvOk F σ G) : ∀ vs : List Nat, EnvOk F (wipe σ vs) (wipeG G vs)
  | [] => h
  | v :: vs => (EnvOk.wipe h vs).del
theorem wipe_eq {σ : L2.St} : ∀ {vs : List Nat} {σ' : L2.St}, σ'.length = σ.length → (∀ k : Nat, k ∉ vs → σ'[k]? = (L2.wipe σ vs)[k]?) → L2.wipe σ' vs = L2.wipe σ vs := by
  have out : ∀ (vs : List Nat) (σ : L2.St) (k : Nat), k ∉ vs → (L2.wipe σ vs)[k]? = σ[k]? := by
    intro vs
    induction vs with
    | nil => exact fun _ _ _ => rfl
    | cons v vs ih =>
      intro σ k hk
      unfold L2.wipe
      rw [List.getElem?_set_ne (fun z => hk (by rw [z]; exact List.mem_cons_self ..)), ih σ k fun z => hk (List.mem_cons_of_mem _ z)]
  have inn : ∀ (vs : List Nat) (σ : L2.St) (k : Nat), k ∈ vs → k < σ.length → (L2.wipe σ vs)[k]? = some none := by
    intro vs
    induction vs with
    | nil => exact fun _ _ h => nomatch h
    | cons v vs ih =>
      intro σ k hk hl
      unfold L2.wipe
      by_cases e : v = k
      · subst e
        rw [List.getElem?_set_self (by rw [wipe_length]; exact hl)]
      · rw [List.getElem?_set_ne e]
        exact ih σ k ((List.mem_cons.mp hk).resolve_left fun z => e z.symm) hl
  intro vs σ' hl h
  apply List.ext_getElem?
  intro k
  by_cases hk : k ∈ vs
  · by_cases hb : k < σ.length
    · rw [inn vs σ' k hk (by omega), inn vs σ k hk hb]
    · rw [List.getElem?_eq_none (by rw [wipe_length]; omega), List.getElem?_eq_none (by rw [wipe_length]; omega)]
  · rw [out vs σ' k hk, h k hk]
theorem wipe_out {σ : L2.St} : ∀ (vs : List Nat) (k : Nat), k ∉ vs → (L2.wipe σ vs)[k]? = σ[k]? := by
  intro vs
  induction vs with
  | nil => exact fun _ _ => rfl
  | cons v vs ih =>
    intro k hk
    unfold L2.wipe
    rw [List.getElem?_set_ne (fun z => hk (by rw [z]; exact List.mem_cons_self ..)), ih k fun z => hk (List.mem_cons_of_mem _ z)]
theorem Sh.mono_new (s : Sh Ps M F H) {D : Addr} (hD : H D = none) {F' H' : Hp} (e : Evo Ps M F (upd H D (.lst [])) F' H') : D ∉ tk Ps ∧ D ∉ M.map (·.1) ∧ F' D = none := by
  have nP := s.tb.not hD
  have nM : D ∉ M.map (·.1) := fun h => by
    obtain ⟨x, hx, rfl⟩ := List.mem_map.mp h
    obtain ⟨o, h1, _⟩ := s.mu x hx
    rw [hD] at h1
    cases h1
  refine ⟨nP, nM, ?_⟩
  cases q : F' D with
  | none => rfl
  | some o =>
    rcases e.nw D o q with h | h
    · rw [s.new_none hD] at h
      cases h
    · rw [upd_same] at h
      cases h
/-- the object at D, new since, is written -/
theorem Evo.wr {D : Addr} {o : HO} (e : Evo Ps M F H F' H') (hD : H D = none) (nP : D ∉ tk Ps) (nM : D ∉ M.map (·.1)) (nF : F' D = none) (nc : ∀ φ, H' D ≠ some (.ext φ)) : Evo Ps M F H F' (upd H' D o) :=
  { le := e.le
    sub := fun a u h => (e.sub a u h).upd fun z => by rw [z, nF] at h; cases h
    keep := fun a u h p m => by rw [upd_ne (ne_of_none h hD)]; exact e.keep a u h p m
    nw := e.nw
    tb := e.tb.upd nP nc
    mu := fun x hx => by
      obtain ⟨u, h1, h2⟩ := e.mu x hx
      exact ⟨u, by rw [upd_ne fun z => nM (by rw [← z]; exact List.mem_map.mpr ⟨x, hx, rfl⟩)]; exact h1, h2⟩
    fz := fun a kvs h k => by
      rw [upd_ne (fun z => by rw [z, nF] at h; cases h)]
      exact e.fz a kvs h k }
/-- what stands at D is told from now on -/
theorem Evo.frz {D : Addr} {o : HO} (e : Evo Ps M F H F' H') (hD : H D = none) (nF : F' D = none) (h : H' D = some o) : Evo Ps M F H (upd F' D o) H' :=
  have l : Le F' (upd F' D o) := fun a u e => by rw [upd_ne (ne_of_none e nF)]; exact e
  { le := e.le.trans l
    sub := fun a u h' => by
      by_cases z : a = D
      · subst z
        rw [upd_same] at h'
        cases h'
        exact .inl h
      · rw [upd_ne z] at h'
        exact e.sub a u h'
    keep := e.keep
    nw := fun a u h' => by
      by_cases z : a = D
      · subst z
        exact .inr hD
      · rw [upd_ne z] at h'
        exact e.nw a u h'
    tb := e.tb
    mu := fun x hx => by
      obtain ⟨u, h1, h2⟩ := e.mu x hx
      exact ⟨u, h1, x.2.mono _ _ _ l h2⟩
    fz := fun a kvs h' k => by
      by_cases z : a = D
      · subst z
        rw [upd_same] at h'
        rw [h]
        exact h'
      · rw [upd_ne z] at h'
        exact e.fz a kvs h' k }
theorem Ps2.snoc {β : Type} [Rp β] {ws : List V} {ys : List β} {w : V} {y : β} (h : Ps2 K F ws ys) (r : rp K F w y) : Ps2 K F (ws ++ [w]) (ys ++ [y]) := Paired.snoc h r
/-- [te for g in wi if tt]: γ tells more of each item -/
theorem Ev.lc0 {β γ : Type} [Rp β] (hi : Ei Ps G M L wi n Rs) (hL : ∀ e ∈ L, e ∈ M) (hn : n ≤ 100000) (Pg : Nat → γ → Prop) (Rg : Nat → γ → VRel) (hx : ∀ i, i < n → ∀ F v, (Rs i).R F v → ∃ c, Pg i c ∧ (Rg i c).R F v) (Gb : Nat → γ → Gm)
    (hg : ∀ i c, i < n → Pg i c → Eg Ps (wipeG G vs) M g (Rg i c) (Gb i c) sl) (hsl : ∀ k ∈ sl, k ∈ vs) {P : Nat → γ → Bool → Prop} (ht : ∀ i c, i < n → Pg i c → Et Ps (Gb i c) M tt (P i c)) {Pe : Nat → γ → β → Prop} (he : ∀ i c, i < n → Pg i c → P i c true → Ev Ps (Gb i c) M te (Exi K (Pe i c)))
    (Pr : Nat → List β → Prop) (p0 : Pr 0 []) (p1 : ∀ i c ys y, i < n → Pg i c → P i c true → Pe i c y → Pr i ys → Pr (i + 1) (ys ++ [y])) (p2 : ∀ i c ys, i < n → Pg i c → P i c false → Pr i ys → Pr (i + 1) ys) : Ev Ps G M (tLc wi g tt te vs) (Exi K (Pr n)) := fun σ F H Q e s q => hi σ F H _ e s fun J F1 H1 e1 wk D hD => by
  have s1 := s.evo e1
  have e0 : Evo Ps M F1 H1 F1 (upd H1 D (.lst [])) := s1.new0 hD
  obtain ⟨nP, nM, _⟩ := s1.mono_new hD (s1.evo e0).refl
  refine ⟨fun i m H' => m = n - i ∧ i ≤ n ∧ ∃ F' ws ys, Evo Ps M F1 H1 F' H' ∧ F' D = none ∧ H' D = some (.lst ws) ∧ Ps2 K F' ws ys ∧ ys.length ≤ i ∧ Pr i ys, ⟨n, rfl, Nat.zero_le _, F1, [], [], e0, s1.new_none hD, upd_same, .nil, Nat.le_refl _, p0⟩, ?_⟩
  rintro i m H' ⟨rfl, hin, F', ws, ys, e2, nF, hw, hp, hl, pr⟩
  have s2 := s1.evo e2
  by_cases hlt : i < n
  · refine .inr ⟨wk.goes M i F' H' hL hlt e2.le s2, fun H'' => ∃ F' ws ys, Evo Ps M F1 H1 F' H'' ∧ F' D = none ∧ H'' D = some (.lst ws) ∧ Ps2 K F' ws ys ∧ ys.length ≤ i + 1 ∧ Pr (i + 1) ys, fun H'' h => ⟨n - (i + 1), by omega, rfl, hlt, h⟩, fun x H3 y => ?_⟩
    obtain ⟨F3, e3, r3⟩ := wk.yields M i F' H' x H3 hL hlt e2.le s2 y
    obtain ⟨c, pc, rc⟩ := hx i hlt F3 x r3
    have e3' := e2.trans e3
    have nF3 : F3 D = none := by
      cases z : F3 D with
      | none => rfl
      | some o =>
        rcases e3.nw D o z with h | h
        · rw [nF] at h; cases h
        · rw [hw] at h; cases h
    have hw3 := e3.keep D _ hw nP nM
    refine hg i c hlt pc x (L2.wipe σ vs) F3 H3 _ ((e.mono (e1.le.trans e3'.le)).wipe vs) (s1.evo e3') rc fun σ2 en l2 k2 => ⟨?_, ?_⟩
    · refine wipe_eq (l2.trans (wipe_length ..)) fun k hk => ?_
      exact k2 k fun z => hk (hsl k z)
    · refine ht i c hlt pc σ2 F3 H3 _ en (s1.evo e3') fun b F4 H4 e4 pb => ?_
      have nF4 : F4 D = none := by
        cases z : F4 D with
        | none => rfl
        | some o =>
          rcases e4.nw D o z with h | h
          · rw [nF3] at h; cases h
          · rw [hw3] at h; cases h
      have hw4 := e4.keep D _ hw3 nP nM
      cases b with
      | false => exact ⟨F4, ws, ys, e3'.trans e4, nF4, hw4, hp.mono (e3.le.trans e4.le), Nat.le_succ_of_le hl, p2 i c ys hlt pc pb pr⟩
      | true =>
        refine he i c hlt pc pb σ2 F4 H4 _ (en.mono e4.le) ((s1.evo e3').evo e4) fun w F5 H5 e5 ⟨yy, py, ry⟩ => ?_
        have nF5 : F5 D = none := by
          cases z : F5 D with
          | none => rfl
          | some o =>
            rcases e5.nw D o z with h | h
            · rw [nF4] at h; cases h
            · rw [hw4] at h; cases h
        have hw5 := e5.keep D _ hw4 nP nM
        have hln := Paired.length hp
        refine ⟨ws, hw5, ?_, F5, ws ++ [w], ys ++ [yy], ((e3'.trans e4).trans e5).wr hD nP nM nF5 (by rw [hw5]; exact fun φ z => nomatch z), nF5, upd_same, (hp.mono ((e3.le.trans e4.le).trans e5.le)).snoc ry, ?_, p1 i c ys yy hlt pc pb py pr⟩
        · have : 200000 ≤ sizeLine := by decide
          omega
        · rw [List.length_append]
          exact Nat.add_le_add_right hl 1
  · have ei : i = n := by omega
    subst ei
    refine .inl ⟨wk.stops M F' H' hL e2.le s2, ?_⟩
    exact q _ _ _ (e1.trans (e2.frz hD nF hw)) ⟨ys, pr, D, ws, rfl, upd_same, hp.mono fun a u h => by rw [upd_ne (ne_of_none h nF)]; exact h⟩
theorem filter_take {α : Type} {p : α → Bool} {xs : List α} {i : Nat} {x : α} (h : xs[i]? = some x) : (xs.take (i + 1)).filter p = (xs.take i).filter p ++ (if p x = true then [x] else []) := by
  rw [List.take_add_one, h, List.filter_append]
  congr 1
  show [x].filter p = _
  rw [List.filter_cons]
  rfl
theorem mem_of? {α : Type} {xs : List α} {i : Nat} {x : α} (h : xs[i]? = some x) : x ∈ xs := List.mem_of_getElem? h
/-- over a list, each item by x; as a list -/
theorem Ev.lcOf {α β : Type} [Rp α] [Rp β] {xs : List α} (hi : Ei Ps G M L wi xs.length (Nth K xs)) (hL : ∀ e ∈ L, e ∈ M) (hn : xs.length ≤ 100000) (Gb : α → Gm) {p : α → Bool} {f : α → β}
    (hg : ∀ x ∈ xs, Eg Ps (wipeG G vs) M g (Is K x) (Gb x) sl) (hsl : ∀ k ∈ sl, k ∈ vs) (ht : ∀ x ∈ xs, Et Ps (Gb x) M tt (· = p x)) (he : ∀ x ∈ xs, p x = true → Ev Ps (Gb x) M te (Is K (f x))) : Ev Ps G M (tLc wi g tt te vs) (Is K ((xs.filter p).map f)) := by
  have h := Ev.lc0 (K := K) (β := β) (γ := α) hi hL hn (fun i x => xs[i]? = some x) (fun _ x => Is K x) (fun i _ F v r => r) (fun _ x => Gb x) (fun i x _ hx => hg x (mem_of? hx)) hsl (P := fun _ x b => b = p x) (fun i x _ hx => ht x (mem_of? hx)) (Pe := fun _ x y => y = f x)
    (fun i x _ hx pb => (he x (mem_of? hx) pb.symm).exi rfl) (fun i ys => ys = ((xs.take i).filter p).map f) rfl (fun i x ys y _ hx pb py pr => ?_) (fun i x ys _ hx pb pr => ?_)
  · refine h.imp fun F v ⟨ys, e, r⟩ => ?_
    rw [List.take_length] at e
    subst e
    exact r
  · rw [filter_take hx, ← pb, List.map_append, ← pr, py]
    rfl
  · rw [filter_take hx, ← pb, List.map_append, ← pr]
    simp
/-- the slots of a plain name -/
theorem Ev.lcL {α β : Type} [Rp α] [Rp β] {xs : List α} {i : Nat} (h : Ev Ps G M ta (Is K xs)) (hn : xs.length ≤ 100000) {p : α → Bool} {f : α → β}
    (ht : ∀ x ∈ xs, Et Ps ((wipeG G [i]).set i (some (Is K x))) M tt (· = p x)) (he : ∀ x ∈ xs, p x = true → Ev Ps ((wipeG G [i]).set i (some (Is K x))) M te (Is K (f x))) : Ev Ps G M (tLc (iList K ta) (gName i) tt te [i]) (Is K ((xs.filter p).map f)) :=
  Ev.lcOf (Ei.list h) (fun _ h => nomatch h) hn (fun x => (wipeG G [i]).set i (some (Is K x))) (fun x _ => Eg.name) (fun k hk => hk) ht he
theorem Ev.lcLy {α β : Type} [Rp α] [Rp β] {xs : List α} {i : Nat} (h : Ev Ps G M ta (Is K xs)) (hn : xs.length ≤ 100000) {f : α → β}
    (he : ∀ x ∈ xs, Ev Ps ((wipeG G [i]).set i (some (Is K x))) M te (Is K (f x))) : Ev Ps G M (tLc (iList K ta) (gName i) tYes te [i]) (Is K (xs.map f)) :=
  (Ev.lcL (p := fun _ => true) h hn (fun x _ => Et.yes) (fun x hx _ => he x hx)).to (congrArg (List.map f) (List.filter_eq_self.mpr fun _ _ => rfl))
/-- [e for k in range(n)], what may be rolled -/
theorem Ev.lcR {β : Type} [Rp β] {j : Int} {i : Nat} {t : TA} (h : Ea Ps G M t [Is K j]) (h0 : 0 ≤ j) (hn : j ≤ 100000) {Pe : Nat → β → Prop} (he : ∀ k : Nat, (k : Int) < j → Ev Ps ((wipeG G [i]).set i (some (Is K (k : Int)))) M te (Exi K (Pe k))) :
    Ev Ps G M (tLc (iRng1 t) (gName i) tYes te [i]) (Exi K fun ys : List β => ys.length = j.toNat ∧ ∀ k y, ys[k]? = some y → Pe k y) := by
  have := Ev.lc0 (K := K) (β := β) (γ := Unit) (Ei.range1 h ⟨by omega, by omega⟩) (fun _ h => nomatch h) (by omega) (fun _ _ => True) (fun i _ => Is K (i : Int)) (fun i _ F v r => ⟨(), trivial, r⟩) (fun k _ => (wipeG G [i]).set i (some (Is K (k : Int)))) (fun k _ _ _ => Eg.name) (fun k hk => hk) (P := fun _ _ b => b = true) (fun k _ _ _ => Et.yes) (Pe := fun k _ y => Pe k y)
    (fun k _ hk _ _ => he k (by omega)) (fun i ys => ys.length = i ∧ ∀ k y, ys[k]? = some y → Pe k y) ⟨rfl, fun k y h => nomatch h⟩ (fun k _ ys y hk _ _ py ⟨l, al⟩ => ⟨by rw [List.length_append, l]; rfl, fun k' y' h' => ?_⟩) (fun k _ ys hk _ pb => by cases pb)
  · exact this
  · by_cases z : k' < ys.length
    · rw [List.getElem?_append_left z] at h'
      exact al k' y' h'
    · rw [List.getElem?_append_right (by omega)] at h'
      have : k' = k := by
        have := (List.getElem?_eq_some_iff.mp h').1
        simp at this
        omega
      subst this
      rw [show k' - ys.length = 0 by omega] at h'
      simp at h'
      rw [← h']
      exact py
end
end RP

set_option maxRecDepth 100000
set_option maxHeartbeats 4000000
namespace RP
open PySem PySem.Spec PyProof.Rows L2
open Rp (rp)
/-- where a call begins; W: what it may change -/
structure Bs where
  F0 : Hp
  H0 : Hp
  W : Addr → Prop
structure Sa (Ps : Tbs) (B : Bs) (G : Gm) (M : Mu) (σ : L2.St) (F H : Hp) : Prop where
  en : EnvOk F σ G
  sh : Sh Ps M F H
  le : Le B.F0 F
  keep : ∀ a o, B.H0 a = some o → a ∉ tk Ps → ¬ B.W a → H a = some o
  dom : ∀ a o, B.H0 a = some o → ∃ o', H a = some o'
  nw : ∀ a o, F a = some o → B.F0 a = some o ∨ B.H0 a = none
  mw : ∀ e ∈ M, B.W e.1 ∨ B.H0 e.1 = none
def Nx (Ps : Tbs) (B : Bs) (G : Gm) (M : Mu) (k : L2.St → Hp → Prop) : Prop := ∀ σ F H, Sa Ps B G M σ F H → k σ H
theorem List.Nodup.getElem?_inj_ {α : Type} {l : List α} (h : l.Nodup) {i j : Nat} (hi : i < l.length) (e : l[i]? = l[j]?) : i = j := by
  rw [List.getElem?_eq_getElem hi] at e
  have hj : j < l.length := by
    rcases Nat.lt_or_ge j l.length with h | h
    · exact h
    · rw [List.getElem?_eq_none h] at e
      cases e
  rw [List.getElem?_eq_getElem hj] at e
  have e := Option.some.inj e
  rcases Nat.lt_trichotomy i j with z | z | z
  · exact absurd e ((List.pairwise_iff_getElem.mp h) i j hi hj z)
  · exact z
  · exact absurd e.symm ((List.pairwise_iff_getElem.mp h) j i hj hi z)
section
variable {Ps : Tbs} {B : Bs} {M L : Mu} {G G' : Gm} {K : PySem.W.Frag} {ta tb tc te : TE} {t u : TS} {D : L2.Ends} {tt tu : TT} {R Ra Rb R' : VRel} {F H F' H' : Hp} {wi : TI} {n : Nat} {Rs : Nat → VRel} {g : TG} {vs sl : List Nat} {σ : L2.St} {k : L2.St → Hp → Prop}
theorem Sa.evo (s : Sa Ps B G M σ F H) (e : Evo Ps M F H F' H') : Sa Ps B G M σ F' H' := by
  refine ⟨s.en.mono e.le, s.sh.evo e, s.le.trans e.le, fun a o h p w => ?_, fun a o h => ?_, fun a o h => ?_, s.mw⟩
  · refine e.keep a o (s.keep a o h p w) p fun m => ?_
    obtain ⟨x, hx, rfl⟩ := List.mem_map.mp m
    rcases s.mw x hx with h' | h'
    · exact w h'
    · rw [h] at h'
      cases h'
  · obtain ⟨o', h'⟩ := s.dom a o h
    exact e.dom h'
  · rcases e.nw a o h with h | h
    · exact s.nw a o h
    · refine .inr ?_
      cases q : B.H0 a with
      | none => rfl
      | some o' =>
        obtain ⟨o2, h2⟩ := s.dom a o' q
        rw [h] at h2
        cases h2
theorem Sa.env (s : Sa Ps B G M σ F H) {σ' : L2.St} (e : EnvOk F σ' G') : Sa Ps B G' M σ' F H := ⟨e, s.sh, s.le, s.keep, s.dom, s.nw, s.mw⟩
theorem Sa.tail {x : Addr × MRel} (s : Sa Ps B G (x :: M) σ F H) (ow : x.2.own = true) : Sa Ps B G M σ F H := ⟨s.en, s.sh.tail ow, s.le, s.keep, s.dom, s.nw, fun e h => s.mw e (List.mem_cons_of_mem _ h)⟩
theorem Nx.gle (h : Nx Ps B G' M k) (l : GLe G G') : Nx Ps B G M k := fun σ F H s => h σ F H (s.env (s.en.le l))
theorem Nx.tail {x : Addr × MRel} (ow : x.2.own = true) (h : Nx Ps B G M k) : Nx Ps B G (x :: M) k := fun σ F H s => h σ F H (s.tail ow)
theorem Nx.seq (h : Nx Ps B G M (t { D with nx := u D })) : Nx Ps B G M (tSeq t u D) := h
theorem Nx.set {i : Nat} (h : Ev Ps G M te R) (k : Nx Ps B (G.set i (some R)) M D.nx) : Nx Ps B G M (tAsg te (gName i) D) := fun σ F H s => h σ F H _ s.en s.sh fun v F' H' e r =>
  k _ F' H' ((s.evo e).env ((s.evo e).en.set r))
/-- what a value is, opened -/
theorem Nx.setX {α : Type} [Rp α] {P : α → Prop} {i : Nat} (h : Ev Ps G M te (Exi K P)) (k : ∀ x, P x → Nx Ps B (G.set i (some (Is K x))) M D.nx) : Nx Ps B G M (tAsg te (gName i) D) := fun σ F H s => h σ F H _ s.en s.sh fun v F' H' e ⟨x, p, r⟩ =>
  k x p _ F' H' ((s.evo e).env ((s.evo e).en.set (R := Is K x) r))
theorem Nx.asg (h : Ev Ps G M te R) (hg : Eg Ps G M g R G' sl) (k : Nx Ps B G' M D.nx) : Nx Ps B G M (tAsg te g D) := fun σ F H s => h σ F H _ s.en s.sh fun v F' H' e r =>
  hg v σ F' H' _ (s.evo e).en (s.evo e).sh r fun σ' en _ _ => k σ' F' H' ((s.evo e).env en)
theorem Nx.drop (h : Ev Ps G M te R) (k : Nx Ps B G M D.nx) : Nx Ps B G M (tDrop te D) := fun σ F H s => h σ F H _ s.en s.sh fun v F' H' e r => k σ F' H' (s.evo e)
theorem Nx.ite {P : Bool → Prop} (h : Et Ps G M tt P) (h1 : P true → Nx Ps B G M (t D)) (h2 : P false → Nx Ps B G M (u D)) : Nx Ps B G M (tIfS tt t u D) := fun σ F H s => h σ F H _ s.en s.sh fun b F' H' e p => by
  cases b with
  | true => exact h1 p σ F' H' (s.evo e)
  | false => exact h2 p σ F' H' (s.evo e)
/-- what a call hands back -/
structure Fin (Ps : Tbs) (B : Bs) (F H : Hp) : Prop where
  le : Le B.F0 F
  sub : Sub F H
  tb : Tb Ps H
  keep : ∀ a o, B.H0 a = some o → a ∉ tk Ps → ¬ B.W a → H a = some o
  nw : ∀ a o, F a = some o → B.F0 a = some o ∨ B.H0 a = none
  fz : ∀ a kvs, F a = some (.dK kvs) → H a = some (.dK kvs)
theorem Sa.fin (s : Sa Ps B G M σ F H) (ow : ∀ e ∈ M, e.2.own = true) : Fin Ps B F H := ⟨s.le, s.sh.sub, s.sh.tb, s.keep, s.nw, fun a kvs h => s.sh.fz a kvs h fun e he _ => ow e he⟩
theorem Nx.ret (h : Ev Ps G M te R) (q : ∀ v σ F H, Sa Ps B G M σ F H → R.R F v → D.rt v H) : Nx Ps B G M (tRet te D) := fun σ F H s => h σ F H _ s.en s.sh fun v F' H' e r => q v σ F' H' (s.evo e) r
/-- a call that changes nothing -/
theorem Fin.evo {F0 H0 : Hp} (f : Fin Ps ⟨F0, H0, fun _ => False⟩ F H) : Evo Ps [] F0 H0 F H := ⟨f.le, f.sub, fun a o h p _ => f.keep a o h p fun z => z, f.nw, f.tb, (fun _ h => nomatch h), fun a kvs h _ => f.fz a kvs h⟩
theorem Nx.retS {F0 H0 : Hp} (ow : ∀ e ∈ M, e.2.own = true) (h : Ev Ps G M te R) (l : ∀ F v, R.R F v → R'.R F v) (q : ∀ v F' H', Evo Ps [] F0 H0 F' H' → R'.R F' v → D.rt v H') : Nx Ps ⟨F0, H0, fun _ => False⟩ G M (tRet te D) :=
  Nx.ret h fun v σ F H s r => q v F H (s.fin ow).evo (l _ _ r)
/-- an object of M is written -/
theorem Sa.wr {j : Nat} {d : Addr} {r r' : MRel} {o : HO} (s : Sa Ps B G M σ F H) (hj : M[j]? = some (d, r)) (ow : r.own = true) (h : r'.R F o) : Sa Ps B G (M.set j (d, r')) σ F (upd H d o) := by
  have hm : (d, r) ∈ M := List.mem_of_getElem? hj
  have hl : j < M.length := (List.getElem?_eq_some_iff.mp hj).1
  have nF := (s.sh.ow _ hm).2 ow
  have nP := (s.sh.ow _ hm).1
  have nc : ∀ φ, H d ≠ some (.ext φ) := fun φ z => by
    obtain ⟨v, h1, h2⟩ := s.sh.mu _ hm
    exact r.nc _ _ h2 φ (Option.some.inj (h1.symm.trans z))
  have keys : (M.set j (d, r')).map (·.1) = M.map (·.1) := by
    rw [List.map_set]
    refine List.ext_getElem? fun i => ?_
    by_cases hi : j = i
    · subst hi
      rw [List.getElem?_set_self (by rw [List.length_map]; exact hl), List.getElem?_map, hj]
      rfl
    · rw [List.getElem?_set_ne hi]
  have mem : ∀ e ∈ M.set j (d, r'), e = (d, r') ∨ (e ∈ M ∧ e.1 ≠ d) := fun e he => by
    obtain ⟨i, hi⟩ := List.getElem?_of_mem he
    by_cases hij : j = i
    · subst hij
      rw [List.getElem?_set_self hl] at hi
      exact .inl (Option.some.inj hi).symm
    · rw [List.getElem?_set_ne hij] at hi
      refine .inr ⟨List.mem_of_getElem? hi, fun z => hij ?_⟩
      have h1 : (M.map (·.1))[i]? = some d := by rw [List.getElem?_map, hi]; exact congrArg some z
      have h2 : (M.map (·.1))[j]? = some d := by rw [List.getElem?_map, hj]; rfl
      have hil : i < (M.map (·.1)).length := (List.getElem?_eq_some_iff.mp h1).1
      have hjl : j < (M.map (·.1)).length := (List.getElem?_eq_some_iff.mp h2).1
      exact (List.Nodup.getElem?_inj_ s.sh.nd hjl (h2.trans h1.symm))
  refine ⟨s.en, ⟨fun a v h' => (s.sh.sub a v h').upd (fun z => by rw [z, nF] at h'; exact nomatch h'), s.sh.tb.upd nP nc, s.sh.fp, fun e he => ?_, fun e he => ?_, by rw [keys]; exact s.sh.nd, fun a kvs h' k => ?_⟩, s.le, fun a v h' p w => ?_, fun a v h' => ?_, s.nw, fun e he => ?_⟩
  · rcases mem e he with rfl | ⟨he, ne⟩
    · exact ⟨o, upd_same, h⟩
    · obtain ⟨v, h1, h2⟩ := s.sh.mu e he
      exact ⟨v, by rw [upd_ne ne]; exact h1, h2⟩
  · rcases mem e he with rfl | ⟨he, ne⟩
    · exact ⟨nP, fun _ => nF⟩
    · exact s.sh.ow e he
  · have ne : a ≠ d := fun z => by rw [z, nF] at h'; exact nomatch h'
    rw [upd_ne ne]
    refine s.sh.fz a kvs h' fun e he z => ?_
    obtain ⟨i, hi⟩ := List.getElem?_of_mem he
    have hij : j ≠ i := fun y => by
      subst y
      rw [hj] at hi
      cases hi
      exact ne z.symm
    exact k e (List.mem_of_getElem? (i := i) (by rw [List.getElem?_set_ne hij]; exact hi)) z
  · have ne : a ≠ d := fun z => by
      subst z
      rcases s.mw _ hm with h2 | h2
      · exact w h2
      · rw [h'] at h2
        cases h2
    rw [upd_ne ne]
    exact s.keep a v h' p w
  · by_cases z : a = d
    · exact ⟨o, by rw [z]; exact upd_same⟩
    · obtain ⟨v', h2⟩ := s.dom a v h'
      exact ⟨v', by rw [upd_ne z]; exact h2⟩
  · rcases mem e he with rfl | ⟨he, ne⟩
    · exact s.mw (d, r) hm
    · exact s.mw e he
/-- a new object that may change -/
theorem Sa.new {d : Addr} {r : MRel} {o : HO} (s : Sa Ps B G M σ F H) (n : H d = none) (h : r.R F o) : Sa Ps B G ((d, r) :: M) σ F (upd H d o) := by
  have nP := s.sh.tb.not n
  have nF := s.sh.new_none n
  have nM : d ∉ M.map (·.1) := fun h => by
    obtain ⟨x, hx, rfl⟩ := List.mem_map.mp h
    obtain ⟨o, h1, _⟩ := s.sh.mu x hx
    rw [n] at h1
    cases h1
  have e := s.sh.new0 (o := o) n
  have s' := s.evo e
  refine ⟨s'.en, ⟨s'.sh.sub, s'.sh.tb, s'.sh.fp, fun x hx => ?_, fun x hx => ?_, List.nodup_cons.mpr ⟨nM, s.sh.nd⟩, fun a kvs h k => s'.sh.fz a kvs h fun x hx => k x (List.mem_cons_of_mem _ hx)⟩, s'.le, s'.keep, s'.dom, s'.nw, fun x hx => ?_⟩
  · rcases List.mem_cons.mp hx with rfl | hx
    · exact ⟨o, upd_same, h⟩
    · exact s'.sh.mu x hx
  · rcases List.mem_cons.mp hx with rfl | hx
    · exact ⟨nP, fun _ => nF⟩
    · exact s'.sh.ow x hx
  · rcases List.mem_cons.mp hx with rfl | hx
    · refine .inr ?_
      cases q : B.H0 d with
      | none => rfl
      | some o' =>
        obtain ⟨o2, h2⟩ := s.dom d o' q
        rw [n] at h2
        cases h2
    · exact s.mw x hx
/-- an object of M is told from now on -/
theorem Sa.frz {j : Nat} {d : Addr} {r : MRel} {o : HO} (s : Sa Ps B G M σ F H) (hj : M[j]? = some (d, r)) (ow : r.own = true) (nw : B.H0 d = none) (h : H d = some o) : Sa Ps B G (M.eraseIdx j) σ (upd F d o) H := by
  have hm : (d, r) ∈ M := List.mem_of_getElem? hj
  have nF := (s.sh.ow _ hm).2 ow
  have nP := (s.sh.ow _ hm).1
  have l : Le F (upd F d o) := fun a u e => by rw [upd_ne (ne_of_none e nF)]; exact e
  have mem : ∀ e ∈ M.eraseIdx j, e ∈ M ∧ e.1 ≠ d := fun e he => by
    obtain ⟨i, hi, he2⟩ := List.mem_eraseIdx_iff_getElem?.mp he
    refine ⟨List.mem_of_getElem? he2, fun z => hi ?_⟩
    have h1 : (M.map (·.1))[i]? = some d := by rw [List.getElem?_map, he2]; exact congrArg some z
    have h2 : (M.map (·.1))[j]? = some d := by rw [List.getElem?_map, hj]; rfl
    have hjl : j < (M.map (·.1)).length := (List.getElem?_eq_some_iff.mp h2).1
    exact (List.Nodup.getElem?_inj_ s.sh.nd hjl (h2.trans h1.symm)).symm
  refine ⟨s.en.mono l, ⟨fun a v h' => ?_, s.sh.tb, fun a ha => ?_, fun e he => ?_, fun e he => ?_, ?_, fun a kvs h' k => ?_⟩, s.le.trans l, s.keep, s.dom, fun a v h' => ?_, fun e he => s.mw e (mem e he).1⟩
  · by_cases z : a = d
    · subst z
      rw [upd_same] at h'
      cases h'
      exact .inl h
    · rw [upd_ne z] at h'
      exact s.sh.sub a v h'
  · rw [upd_ne (fun z => nP (by rw [← z]; exact ha))]
    exact s.sh.fp a ha
  · obtain ⟨v, h1, h2⟩ := s.sh.mu e (mem e he).1
    exact ⟨v, h1, e.2.mono _ _ _ l h2⟩
  · exact ⟨(s.sh.ow e (mem e he).1).1, fun w => by rw [upd_ne (mem e he).2]; exact (s.sh.ow e (mem e he).1).2 w⟩
  · exact s.sh.nd.sublist ((List.eraseIdx_sublist ..).map _)
  · by_cases z : a = d
    · subst z
      rw [upd_same] at h'
      rw [h]
      exact h'
    · rw [upd_ne z] at h'
      refine s.sh.fz a kvs h' fun e he y => ?_
      obtain ⟨i, hi⟩ := List.getElem?_of_mem he
      have hij : i ≠ j := fun x => by
        subst x
        rw [hj] at hi
        cases hi
        exact z y.symm
      exact k e (List.mem_eraseIdx_iff_getElem?.mpr ⟨i, hij, hi⟩) y
  · by_cases z : a = d
    · subst z
      exact .inr nw
    · rw [upd_ne z] at h'
      exact s.nw a v h'
end
end RP

set_option maxRecDepth 100000
set_option maxHeartbeats 4000000
namespace RP
open PySem PySem.Spec PyProof.Rows L2
open Rp (rp)
section
variable {Ps : Tbs} {B B' B'' : Bs} {M M' L : Mu} {G G' : Gm} {K : PySem.W.Frag} {ta tb tc te : TE} {t u : TS} {D : L2.Ends} {tt tu : TT} {R Ra Rb R' : VRel} {F H F' H' : Hp} {wi : TI} {n : Nat} {Rs : Nat → VRel} {g : TG} {vs sl : List Nat} {σ : L2.St} {k : L2.St → Hp → Prop}
theorem GLe.refl : GLe G G := ⟨rfl, fun i R' e => ⟨R', e, fun _ _ h => h⟩⟩
/-- B' says more than B -/
def BLe (Ps : Tbs) (B' B : Bs) : Prop := ∀ G M σ F H, Sa Ps B' G M σ F H → Sa Ps B G M σ F H
theorem BLe.refl : BLe Ps B B := fun _ _ _ _ _ s => s
theorem BLe.trans (a : BLe Ps B'' B') (b : BLe Ps B' B) : BLe Ps B'' B := fun _ _ _ _ _ s => b _ _ _ _ _ (a _ _ _ _ _ s)
theorem BLe.up (s : Sa Ps B G M σ F H) : BLe Ps ⟨F, B.H0, B.W⟩ B := fun G' M' σ' F' H' s' => ⟨s'.en, s'.sh, s.le.trans s'.le, s'.keep, s'.dom, fun a o h => by
  rcases s'.nw a o h with h | h
  · exact s.nw a o h
  · exact .inr h, s'.mw⟩
theorem Sa.up (s : Sa Ps B G M σ F H) : Sa Ps ⟨F, B.H0, B.W⟩ G M σ F H := ⟨s.en, s.sh, Le.refl F, s.keep, s.dom, fun a o h => .inl h, s.mw⟩
/-- for g in wi: Iv, Gf, Mf by the turn and c; γ tells more of each item -/
theorem Nx.for0 {γ δ : Type} (hi : Ei Ps G M L wi n Rs) (Iv : Nat → δ → Prop) (Gf : Nat → δ → Gm) (Mf : Nat → δ → Mu) (hL : ∀ i c, Iv i c → ∀ e ∈ L, e ∈ Mf i c) (Pg : Nat → γ → Prop) (Rg : Nat → γ → VRel) (hx : ∀ i, i < n → ∀ F v, (Rs i).R F v → ∃ c, Pg i c ∧ (Rg i c).R F v)
    (c0 : δ) (i0 : Iv 0 c0) (g0 : GLe G (Gf 0 c0)) (m0 : M = Mf 0 c0) (Gb : Nat → δ → γ → Gm) (hg : ∀ i c x, i < n → Iv i c → Pg i x → Eg Ps (Gf i c) (Mf i c) g (Rg i x) (Gb i c x) sl)
    (hb : ∀ B', BLe Ps B' B → ∀ i c x, i < n → Iv i c → Pg i x → ∀ N : L2.St → Hp → Prop, (∀ c', Iv (i + 1) c' → Nx Ps B' (Gf (i + 1) c') (Mf (i + 1) c') N) → Nx Ps B' (Gb i c x) (Mf i c) (t { D with nx := N, ct := N, bk := D.nx }))
    (hd : ∀ c, Iv n c → Nx Ps B (Gf n c) (Mf n c) D.nx) : Nx Ps B G M (tFor wi g t D) := fun σ F H s => hi σ F H _ s.en s.sh fun J F1 H1 e1 wk => by
  have s1 := s.evo e1
  have dn := BLe.up s1
  refine ⟨fun i m σ' H' => m = n - i ∧ i ≤ n ∧ ∃ c F', Iv i c ∧ Sa Ps ⟨F1, B.H0, B.W⟩ (Gf i c) (Mf i c) σ' F' H', ⟨n, rfl, Nat.zero_le _, c0, F1, i0, by
    have := s1.up.env (s1.en.le g0)
    rw [m0] at this
    exact this⟩, ?_⟩
  rintro i m σ' H' ⟨rfl, hin, c, F', iv, s2⟩
  by_cases hlt : i < n
  · refine .inr ⟨wk.goes _ i F' H' (hL i c iv) hlt s2.le s2.sh, fun σ'' H'' => ∃ c F', Iv (i + 1) c ∧ Sa Ps ⟨F1, B.H0, B.W⟩ (Gf (i + 1) c) (Mf (i + 1) c) σ'' F' H'', fun σ'' H'' h => ⟨n - (i + 1), by omega, rfl, hlt, h⟩, fun x H3 y => ?_⟩
    obtain ⟨F3, e3, r3⟩ := wk.yields _ i F' H' x H3 (hL i c iv) hlt s2.le s2.sh y
    obtain ⟨q, pq, rq⟩ := hx i hlt F3 x r3
    have s3 := s2.evo e3
    exact hg i c q hlt iv pq x σ' F3 H3 _ s3.en s3.sh rq fun σ4 en _ _ => hb _ dn i c q hlt iv pq _ (fun c' iv' σ5 F5 H5 s5 => ⟨c', F5, iv', s5⟩) σ4 F3 H3 (s3.env en)
  · have ei : i = n := by omega
    subst ei
    exact .inl ⟨wk.stops _ F' H' (hL i c iv) s2.le s2.sh, hd c iv σ' F' H' (dn _ _ _ _ _ s2)⟩
theorem Nx.while0 {δ : Type} (Iv : δ → Prop) (μ : δ → Nat) (Gf : δ → Gm) (Mf : δ → Mu) (c0 : δ) (i0 : Iv c0) (g0 : GLe G (Gf c0)) (m0 : M = Mf c0) {P : δ → Bool → Prop} (ht : ∀ c, Iv c → Et Ps (Gf c) (Mf c) tt (P c))
    (hb : ∀ c, Iv c → P c true → ∀ N : L2.St → Hp → Prop, (∀ c', Iv c' → μ c' < μ c → Nx Ps B (Gf c') (Mf c') N) → Nx Ps B (Gf c) (Mf c) (t { D with nx := N, ct := N, bk := D.nx }))
    (hd : ∀ c, Iv c → P c false → Nx Ps B (Gf c) (Mf c) D.nx) : Nx Ps B G M (tWhile tt t D) := fun σ F H s => by
  refine ⟨fun m σ H => ∃ c F, Iv c ∧ m = μ c ∧ Sa Ps B (Gf c) (Mf c) σ F H, ⟨_, c0, F, i0, rfl, by
    have := s.env (s.en.le g0)
    rw [m0] at this
    exact this⟩, ?_⟩
  rintro m σ H ⟨c, F, iv, rfl, s⟩
  refine ht c iv σ F H _ s.en s.sh fun b F' H' e p => ?_
  cases b with
  | true => exact ⟨fun σ' H' => ∃ c' F, Iv c' ∧ μ c' < μ c ∧ Sa Ps B (Gf c') (Mf c') σ' F H', fun σ' H' ⟨c', F, iv', lt, s'⟩ => ⟨_, lt, c', F, iv', rfl, s'⟩, hb c iv p _ (fun c' iv' lt σ' F' H' s' => ⟨c', F', iv', lt, s'⟩) σ F' H' (s.evo e)⟩
  | false => exact hd c iv p σ F' H' (s.evo e)
/-! ### calls -/
/-- what a def that changes nothing promises; er: what it raises -/
def Spx {γ : Type} (Ps : Tbs) (Rs : γ → List VRel) (pre : γ → Prop) (R : γ → VRel) (er : γ → Option Addr) : Sp := fun vs H Q E => ∃ c F, Sh Ps [] F H ∧ pre c ∧ RsOk F (Rs c) vs ∧ (er c = none → ∀ v F' H', Evo Ps [] F H F' H' → (R c).R F' v → Q v H') ∧ ∀ a, er c = some a → ∀ F' H', Evo Ps [] F H F' H' → E (.ref a) none H'
theorem Oc.spx {γ : Type} (ow : ∀ e ∈ M, e.2.own = true) {Rs : γ → List VRel} {pre : γ → Prop} {R : γ → VRel} {er : γ → Option Addr} {E : XK} (c : γ) (p : pre c) (e : er c = none) : Oc Ps M (fun vs H Q => Spx Ps Rs pre R er (vs ++ []) H Q E) (Rs c) (R c) := fun F H vs Q s r q => by
  show Spx Ps Rs pre R er (vs ++ []) H Q E
  rw [List.append_nil]
  exact ⟨c, F, s.bare ow, p, r, fun _ v F' H' ev rr => q v F' H' (Evo.of_bare s ev) rr, fun a ha => by rw [e] at ha; cases ha⟩
theorem Ev.callx {γ : Type} {Rs : γ → List VRel} {pre : γ → Prop} {R : γ → VRel} {er : γ → Option Addr} {E : XK} {t : TA} (ow : ∀ e ∈ M, e.2.own = true) (c : γ) (ha : Ea Ps G M t (Rs c)) (p : pre c) (e : er c = none) : Ev Ps G M (tCall (Spx Ps Rs pre R er) [] E t) (R c) := Ev.call ha (Oc.spx ow c p e)
def startG (N : List Str) (Rs : List VRel) : Gm := Rs.map some ++ List.replicate (N.length - Rs.length) none
theorem EnvOk.start {N : List Str} {Rs : List VRel} {us : List V} (h : RsOk F Rs us) : EnvOk F (L2.start N us) (startG N Rs) := by
  have ln := Paired.length h
  refine ⟨by unfold L2.start startG; rw [List.length_append, List.length_append, List.length_map, List.length_map, List.length_replicate, List.length_replicate, ln], fun i R e => ?_⟩
  unfold startG at e
  by_cases hi : i < Rs.length
  · rw [List.getElem?_append_left (by rw [List.length_map]; exact hi), List.getElem?_map, List.getElem?_eq_getElem hi] at e
    have e := Option.some.inj (Option.some.inj e)
    subst e
    refine ⟨us[i]'(by omega), ?_, Paired.get? h (by rw [List.getElem?_eq_getElem hi]) (by rw [List.getElem?_eq_getElem (by omega)])⟩
    unfold L2.start
    rw [List.getElem?_append_left (by rw [List.length_map]; omega), List.getElem?_map, List.getElem?_eq_getElem (by omega)]
    rfl
  · rw [List.getElem?_append_right (by rw [List.length_map]; omega), List.getElem?_replicate] at e
    split at e <;> cases e
theorem Sa.start {N : List Str} {Rs : List VRel} {us : List V} (s : Sh Ps M F H) (h : RsOk F Rs us) : Sa Ps ⟨F, H, fun a => a ∈ M.map (·.1)⟩ (startG N Rs) M (L2.start N us) F H :=
  ⟨EnvOk.start h, s, Le.refl F, fun _ _ e _ _ => e, fun a o e => ⟨o, e⟩, fun a o e => .inl e, fun e he => .inl (List.mem_map.mpr ⟨e, he, rfl⟩)⟩
theorem Fin.evo0 {F0 H0 : Hp} (f : Fin Ps ⟨F0, H0, fun a => a ∈ ([] : Mu).map (·.1)⟩ F H) : Evo Ps [] F0 H0 F H := ⟨f.le, f.sub, fun a o h p _ => f.keep a o h p (fun z => nomatch z), f.nw, f.tb, (fun _ h => nomatch h), fun a kvs h _ => f.fz a kvs h⟩
end
section
variable {P : Program} {w : World} {K : PySem.W.Frag} {mg : Str → Option Value} {base : Heap} {Ps : Tbs}
/-- a def keeps its promise: its body by rules, then from the slots -/
theorem Fun.okP {γ : Type} {x qual : Str} {st : Stmt} {f : Addr} {fd : FuncData} {N ps : List Str} {k : Nat} {Rs : γ → List VRel} {pre : γ → Prop} {R : γ → VRel} {er : γ → Option Addr} (Fn : L2.Fun K x qual st f fd) (S : FnScope N ps (defScope st)) (len : ∀ c, (Rs c).length = ps.length)
    (hbody : ∀ (cdv : Value) (A : Around) (outer : List Env) (s : Shared) (H0 : Hp) (E : XK), Room k (A.deeper (envOfC qual (defScope st) s.heap.objs.size f cdv)) →
      ∃ t, PSs (cxOf (L2.CX P w) P w K mg base N qual (defScope st) f cdv A outer s H0 E) (defBody st) t ∧ ∀ (c : γ) (B : Bs) (D : L2.Ends), pre c → (er c = none → ∀ v G M σ F H, (∀ e ∈ M, e.2.own = true) → Sa Ps B G M σ F H → (R c).R F v → D.rt v H) → (∀ a, er c = some a → ∀ G M σ F H, (∀ e ∈ M, e.2.own = true) → Sa Ps B G M σ F H → E (.ref a) none H) →
        (er c = none → ∀ G M σ F H, (∀ e ∈ M, e.2.own = true) → Sa Ps B G M σ F H → (R c).R F .non → D.nx σ H) → Nx Ps B (startG N (Rs c)) [] (t D)) : FnOk P w K mg base (L2.CX P w) (k + 1) f fd ps (Spx Ps Rs pre R er) := by
  refine L2.Fun.okX Fn S (fun vs H Q E h => ?_) (fun cdv A outer s H vs Q E hr h => ?_)
  · obtain ⟨c, F, _, _, r, _⟩ := h
    rw [← Paired.length r, len]
  · obtain ⟨c, F, sh, p, r, q, e⟩ := h
    obtain ⟨t, ht, h⟩ := hbody cdv A outer s H E hr
    exact ⟨t, ht, h c ⟨F, H, fun a => a ∈ ([] : Mu).map (·.1)⟩ _ p (fun hn v G M σ F' H' ow s' rr => q hn v F' H' (s'.fin ow).evo0 rr) (fun a ha G M σ F' H' ow s' => e a ha F' H' (s'.fin ow).evo0) (fun hn G M σ F' H' ow s' rr => q hn .non F' H' (s'.fin ow).evo0 rr) _ F H (Sa.start sh r)⟩
end
end RP

set_option maxRecDepth 100000
set_option maxHeartbeats 4000000
namespace RP
open PySem PySem.Spec PyProof.Rows L2
open Rp (rp)
/-- a list, a table that may change -/
def LstM (K : PySem.W.Frag) {α : Type} [Rp α] (xs : List α) : MRel := ⟨fun F o => ∃ vs, o = .lst vs ∧ Ps2 K F vs xs, fun F F' o l ⟨vs, e, h⟩ => ⟨vs, e, h.mono l⟩, true, fun _ _ ⟨_, e, _⟩ φ z => by rw [e] at z; cases z⟩
def DicM (K : PySem.W.Frag) {κ α : Type} [Ky κ] [Rp α] (l : List (κ × α)) : MRel := ⟨fun F o => ∃ kv, o = .dK kv ∧ Kvs K F kv l, fun F F' o l' ⟨kv, e, h⟩ => ⟨kv, e, h.mono l'⟩, true, fun _ _ ⟨_, e, _⟩ φ z => by rw [e] at z; cases z⟩
/-- what stands is that -/
def EqM (o0 : HO) (w : Bool) (nc : ∀ φ, o0 ≠ .ext φ) : MRel := ⟨fun _ o => o = o0, fun _ _ _ _ h => h, w, fun _ _ e φ z => nc φ (e.symm.trans z)⟩
def DiceM : MRel := ⟨fun _ o => ∃ a b c : Int, o = .lst [.int a, .int b, .int c], fun _ _ _ _ h => h, true, fun _ _ ⟨_, _, _, e⟩ φ z => by rw [e] at z; cases z⟩
section
variable {Ps : Tbs} {B : Bs} {M L : Mu} {G G' : Gm} {K : PySem.W.Frag} {ta tb tc te td ty tv : TE} {t u : TS} {D : L2.Ends} {tt tu : TT} {R Ra Rb R' : VRel} {F H F' H' : Hp} {g : TG} {σ : L2.St} {k : L2.St → Hp → Prop}
/-- R tells a list of xs, that stands or may change -/
def Ls (Ps : Tbs) (M : Mu) (K : PySem.W.Frag) (R : VRel) {α : Type} [Rp α] (xs : List α) : Prop := ∀ F H v, Sh Ps M F H → R.R F v → ∃ a vs, v = .ref a ∧ H a = some (.lst vs) ∧ Ps2 K F vs xs
def Sq (Ps : Tbs) (M : Mu) (K : PySem.W.Frag) (R : VRel) {α : Type} [Rp α] (xs : List α) : Prop := ∀ F H v, Sh Ps M F H → R.R F v → ∃ a vs, v = .ref a ∧ (SqL K H a vs ∨ SqT K H a vs) ∧ Ps2 K F vs xs
def Ds (Ps : Tbs) (M : Mu) (K : PySem.W.Frag) (R : VRel) {κ α : Type} [Ky κ] [Rp α] (l : List (κ × α)) : Prop := ∀ F H v, Sh Ps M F H → R.R F v → ∃ a kv, v = .ref a ∧ Rd H a (.dK kv) ∧ Kvs K F kv l
theorem Ls.fz {α : Type} [Rp α] {xs : List α} : Ls Ps M K (Is K xs) xs := fun F H v s ⟨a, vs, e, h, p⟩ => ⟨a, vs, e, s.sub.lst h, p⟩
theorem Ls.mu {α : Type} [Rp α] {xs : List α} {a : Addr} (h : (a, LstM K xs) ∈ M) : Ls Ps M K (At a) xs := fun F H v s e => by
  obtain ⟨o, h1, vs, rfl, p⟩ := s.mu _ h
  exact ⟨a, vs, e, h1, p⟩
theorem Ls.sq {α : Type} [Rp α] {xs : List α} (h : Ls Ps M K R xs) : Sq Ps M K R xs := fun F H v s r => by
  obtain ⟨a, vs, e, h1, p⟩ := h F H v s r
  exact ⟨a, vs, e, .inl (SqL.of h1), p⟩
theorem Sq.tl {α : Type} [Rp α] {xs : Tl α} : Sq Ps M K (Is K xs) xs.l := fun F H v s ⟨a, vs, e, h, p⟩ => ⟨a, vs, e, .inr (s.sub.sqT h), p⟩
theorem Ds.fz {κ α : Type} [Ky κ] [Rp α] {l : Dc κ α} : Ds Ps M K (Is K l) l.l := fun F H v s ⟨a, kv, e, h, p⟩ => ⟨a, kv, e, s.sub.rdK h, p⟩
theorem Ds.mu {κ α : Type} [Ky κ] [Rp α] {l : List (κ × α)} {a : Addr} (h : (a, DicM K l) ∈ M) : Ds Ps M K (At a) l := fun F H v s e => by
  obtain ⟨o, h1, kv, rfl, p⟩ := s.mu _ h
  exact ⟨a, kv, e, .inl h1, p⟩
theorem Ds.lk {κ α : Type} [Ky κ] [Rp α] {l : List (κ × α)} {a : Addr} {od : Obj} {kv : List (Key × V)} {nc : ∀ φ, HO.frz od (.dK kv) ≠ .ext φ} (h : (a, EqM (.frz od (.dK kv)) false nc) ∈ M) (p : ∀ F H, Sh Ps M F H → Kvs K F kv l) : Ds Ps M K (At a) l := fun F H v s e => by
  obtain ⟨o, h1, rfl⟩ := s.mu _ h
  exact ⟨a, kv, e, .inr ⟨od, h1⟩, p F H s⟩
/-! ### tables -/
def lookD {κ α : Type} [DecidableEq κ] (l : List (κ × α)) (k : κ) : Option α := (l.find? fun e => decide (e.1 = k)).map (·.2)
class KyR (κ : Type) [Ky κ] [Rp κ] : Prop where
  r : ∀ K F (v : V) (x : κ), rp K F v x ↔ v = kV (Ky.key x)
instance : KyR Str := ⟨fun _ _ _ _ => Iff.rfl⟩
instance : KyR Int := ⟨fun _ _ _ _ => Iff.rfl⟩
instance : KyR Nat := ⟨fun _ _ _ _ => Iff.rfl⟩
theorem Kvs.val {κ α : Type} [Ky κ] [DecidableEq κ] [Rp α] {kv : List (Key × V)} {l : List (κ × α)} (h : Kvs K F kv l) (k : κ) : (lookD l k = none ∧ valV kv (Ky.key k) = none) ∨ ∃ x v, lookD l k = some x ∧ valV kv (Ky.key k) = some v ∧ rp K F v x := by
  unfold Kvs at h
  induction h with
  | nil => exact .inl ⟨rfl, rfl⟩
  | @cons a b l1 l2 r t ih =>
    obtain ⟨e, r⟩ := r
    by_cases hk : b.1 = k
    · refine .inr ⟨b.2, a.2, ?_, ?_, r⟩
      · simp [lookD, hk]
      · simp [valV, e, hk]
    · have hk' : ¬ a.1 = Ky.key k := fun z => hk (Ky.inj _ _ (e.symm.trans z))
      have e1 : lookD (b :: l2) k = lookD l2 k := by simp [lookD, hk]
      have e2 : valV (a :: l1) (Ky.key k) = valV l1 (Ky.key k) := by simp [valV, hk']
      rw [e1, e2]
      exact ih
theorem Ev.dget {κ α : Type} [Ky κ] [Rp κ] [KyR κ] [DecidableEq κ] [Rp α] {l : List (κ × α)} {k : κ} {x : α} (hd : Ev Ps G M td R) (hs : Ds Ps M K R l) (hk : Ev Ps G M ty (Is K k)) (e : lookD l k = some x) : Ev Ps G M (tDGet td ty) (Is K x) := fun σ F H Q en s q =>
  hd σ F H _ en s fun v F1 H1 e1 r1 => hk σ F1 H1 _ (en.mono e1.le) (s.evo e1) fun w F2 H2 e2 r2 => by
    have s2 := (s.evo e1).evo e2
    obtain ⟨a, kv, rfl, h, p⟩ := hs F2 H2 v s2 (R.mono _ _ _ e2.le r1)
    rcases p.val k with ⟨z, _⟩ | ⟨x', v', h1, h2, r⟩
    · rw [e] at z; cases z
    · rw [e] at h1
      cases h1
      exact ⟨a, v', rfl, .inl ⟨kv, Ky.key k, h, (KyR.r ..).mp r2, h2.symm⟩, q _ F2 H2 (e1.trans e2) r⟩
theorem Ev.din {κ α : Type} [Ky κ] [Rp κ] [KyR κ] [DecidableEq κ] [Rp α] {l : List (κ × α)} {k : κ} (hk : Ev Ps G M ty (Is K k)) (hd : Ev Ps G M td R) (hs : Ds Ps M K R l) : Ev Ps G M (tDIn ty td) (Is K (lookD l k).isSome) := fun σ F H Q en s q =>
  hk σ F H _ en s fun w F1 H1 e1 r1 => hd σ F1 H1 _ (en.mono e1.le) (s.evo e1) fun v F2 H2 e2 r2 => by
    have s2 := (s.evo e1).evo e2
    obtain ⟨a, kv, rfl, h, p⟩ := hs F2 H2 v s2 r2
    refine ⟨a, _, rfl, .inl ⟨kv, Ky.key k, h, (KyR.r ..).mp r1, rfl⟩, q _ F2 H2 (e1.trans e2) ?_⟩
    rcases p.val k with ⟨z, z2⟩ | ⟨x', v', h1, h2, r⟩
    · rw [z, z2]; rfl
    · rw [h1, h2]; rfl
theorem Ev.dnotin {κ α : Type} [Ky κ] [Rp κ] [KyR κ] [DecidableEq κ] [Rp α] {l : List (κ × α)} {k : κ} (hk : Ev Ps G M ty (Is K k)) (hd : Ev Ps G M td R) (hs : Ds Ps M K R l) : Ev Ps G M (tDNotIn ty td) (Is K (!(lookD l k).isSome)) := fun σ F H Q en s q =>
  hk σ F H _ en s fun w F1 H1 e1 r1 => hd σ F1 H1 _ (en.mono e1.le) (s.evo e1) fun v F2 H2 e2 r2 => by
    have s2 := (s.evo e1).evo e2
    obtain ⟨a, kv, rfl, h, p⟩ := hs F2 H2 v s2 r2
    refine ⟨a, _, rfl, .inl ⟨kv, Ky.key k, h, (KyR.r ..).mp r1, rfl⟩, q _ F2 H2 (e1.trans e2) ?_⟩
    rcases p.val k with ⟨z, z2⟩ | ⟨x', v', h1, h2, r⟩
    · rw [z, z2]; rfl
    · rw [h1, h2]; rfl
def putD {κ α : Type} [DecidableEq κ] (l : List (κ × α)) (k : κ) (x : α) : List (κ × α) := if l.any (fun e => decide (e.1 = k)) then l.map fun e => if e.1 = k then (k, x) else e else l ++ [(k, x)]
theorem Paired.map_ {α β γ δ : Type} {P : α → β → Prop} {Q : γ → δ → Prop} {f : α → γ} {g : β → δ} : ∀ {l : List α} {r : List β}, Paired P l r → (∀ x y, P x y → Q (f x) (g y)) → Paired Q (l.map f) (r.map g)
  | _, _, .nil, _ => .nil
  | _, _, .cons h t, k => .cons (k _ _ h) (Paired.map_ t k)
theorem Kvs.any {κ α : Type} [Ky κ] [DecidableEq κ] [Rp α] {kv : List (Key × V)} {l : List (κ × α)} (h : Kvs K F kv l) (k : κ) : (kv.any fun e => decide (e.1 = Ky.key k)) = l.any fun e => decide (e.1 = k) := by
  unfold Kvs at h
  induction h with
  | nil => rfl
  | @cons a b l1 l2 r t ih =>
    rw [List.any_cons, List.any_cons, ih]
    congr 1
    exact decide_eq_decide.mpr ⟨fun z => Ky.inj _ _ (r.1.symm.trans z), fun z => by rw [r.1, z]⟩
theorem Kvs.put {κ α : Type} [Ky κ] [DecidableEq κ] [Rp α] {kv : List (Key × V)} {l : List (κ × α)} {k : κ} {x : α} {v : V} (h : Kvs K F kv l) (r : rp K F v x) : Kvs K F (putK kv (Ky.key k) v) (putD l k x) := by
  unfold putK putD
  rw [h.any k]
  split
  · refine Paired.map_ h fun a b ⟨e, r'⟩ => ?_
    by_cases z : b.1 = k
    · rw [if_pos (by rw [e, z]), if_pos z]
      exact ⟨by rw [e, z], r⟩
    · rw [if_neg (fun z' => z (Ky.inj _ _ (e.symm.trans z'))), if_neg z]
      exact ⟨e, r'⟩
  · exact Paired.snoc h ⟨rfl, r⟩
theorem Nx.dput {κ α : Type} [Ky κ] [Rp κ] [KyR κ] [DecidableEq κ] [Rp α] {l : List (κ × α)} {k : κ} {x : α} {j : Nat} {a : Addr} (hv : Ev Ps G M tv (Is K x)) (hd : Ev Ps G M td (At a)) (hy : Ev Ps G M ty (Is K k)) (hj : M[j]? = some (a, DicM K l)) (ln : l.length ≤ 100000) (nx : Nx Ps B G (M.set j (a, DicM K (putD l k x))) D.nx) : Nx Ps B G M (sDPut td ty tv D) := fun σ F H s =>
  hv σ F H _ s.en s.sh fun v F1 H1 e1 r1 => hd σ F1 H1 _ (s.en.mono e1.le) (s.sh.evo e1) fun d F2 H2 e2 r2 => hy σ F2 H2 _ ((s.en.mono e1.le).mono e2.le) ((s.sh.evo e1).evo e2) fun y F3 H3 e3 r3 => by
    have s3 := ((s.evo e1).evo e2).evo e3
    cases r2
    obtain ⟨o, h1, kv, rfl, p⟩ := s3.sh.mu _ (List.mem_of_getElem? hj)
    have ek := (KyR.r ..).mp r3
    subst ek
    have ll := Paired.length p
    refine ⟨a, _, rfl, DPut.k h1 (by have : 200000 ≤ sizeLine := by decide
                                     omega), nx σ F3 _ (s3.wr hj rfl ⟨_, rfl, p.put (Rp.mono K _ _ _ _ (e2.le.trans e3.le) r1)⟩)⟩
/-- x.append(e) -/
theorem Nx.app {α : Type} [Rp α] {xs : List α} {x : α} {j : Nat} {a : Addr} (hd : Ev Ps G M td (At a)) (hx : Ev Ps G M te (Is K x)) (hj : M[j]? = some (a, LstM K xs)) (ln : xs.length ≤ 100000) (nx : Nx Ps B G (M.set j (a, LstM K (xs ++ [x]))) D.nx) : Nx Ps B G M (tDrop (tBM K "list" rAppend td (tCons te tNil)) D) := fun σ F H s =>
  hd σ F H _ s.en s.sh fun d F1 H1 e1 r1 => by
    cases r1
    obtain ⟨o, h1, vs, rfl, p⟩ := (s.sh.evo e1).mu _ (List.mem_of_getElem? hj)
    refine ⟨.inl ⟨rfl, _, SqL.of h1⟩, hx σ F1 H1 _ (s.en.mono e1.le) (s.sh.evo e1) fun y F2 H2 e2 r2 => ?_⟩
    have s2 := (s.evo e1).evo e2
    obtain ⟨o, h1, vs, rfl, p⟩ := s2.sh.mu _ (List.mem_of_getElem? hj)
    have ll := Paired.length p
    exact ⟨a, vs, y, rfl, rfl, h1, by have : 200000 ≤ sizeLine := by decide
                                      omega, nx σ F2 _ (s2.wr hj rfl ⟨_, rfl, p.snoc r2⟩)⟩
/-- x = [], x = {}: what may change -/
theorem Nx.newL {α : Type} [Rp α] {i : Nat} (nx : ∀ a, Nx Ps B (G.set i (some (At a))) ((a, LstM K ([] : List α)) :: M) D.nx) : Nx Ps B G M (tAsg (tLst tNil) (gName i) D) := fun σ F H s =>
  ⟨Nat.zero_le _, fun p hp => nx p _ F _ (((s.new (r := LstM K ([] : List α)) hp ⟨_, rfl, .nil⟩)).env (s.en.set rfl))⟩
theorem Nx.newD {κ α : Type} [Ky κ] [Rp α] {i : Nat} (nx : ∀ a, Nx Ps B (G.set i (some (At a))) ((a, DicM K ([] : List (κ × α))) :: M) D.nx) : Nx Ps B G M (tAsg tDNewK (gName i) D) := fun σ F H s =>
  fun p hp => nx p _ F _ (((s.new (r := DicM K ([] : List (κ × α))) hp ⟨_, rfl, .nil⟩)).env (s.en.set rfl))
end
end RP

set_option maxRecDepth 100000
set_option maxHeartbeats 4000000
namespace RP
open PySem PySem.Spec PyProof.Rows L2
open Rp (rp)
section
variable {Ps : Tbs} {B : Bs} {M L : Mu} {G G' : Gm} {K : PySem.W.Frag} {ta tb tc te td ty tv : TE} {t u : TS} {D : L2.Ends} {tt tu : TT} {R Ra Rb R' : VRel} {F H F' H' : Hp} {g : TG} {σ : L2.St} {k : L2.St → Hp → Prop} {α β κ : Type} [Rp α] [Rp β] [Ky κ] [Rp κ]
theorem rs1 {vs : List V} (h : RsOk F [R] vs) : ∃ v, vs = [v] ∧ R.R F v := by
  cases h with
  | cons a t => cases t; exact ⟨_, rfl, a⟩
theorem rs2 {vs : List V} (h : RsOk F [Ra, Rb] vs) : ∃ v w, vs = [v, w] ∧ Ra.R F v ∧ Rb.R F w := by
  cases h with
  | cons a t => cases t with
    | cons b t => cases t; exact ⟨_, _, rfl, a, b⟩
theorem rs3 {Rc : VRel} {vs : List V} (h : RsOk F [Ra, Rb, Rc] vs) : ∃ v w x, vs = [v, w, x] ∧ Ra.R F v ∧ Rb.R F w ∧ Rc.R F x := by
  cases h with
  | cons a t => cases t with
    | cons b t => cases t with
      | cons c t => cases t; exact ⟨_, _, _, rfl, a, b, c⟩
/-- a new list of what is told -/
theorem Evo.newL (s : Sh Ps M F H) {vs : List V} {xs : List α} (p : Ps2 K F vs xs) {l : Addr} (hl : H l = none) : Evo Ps M F H (upd F l (.lst vs)) (upd H l (.lst vs)) ∧ (Is K xs).R (upd F l (.lst vs)) (.ref l) :=
  have e := s.new (o := .lst vs) hl
  ⟨e, l, vs, rfl, upd_same, p.mono e.le⟩
theorem Evo.newT (s : Sh Ps M F H) {vs : List V} {xs : List α} (p : Ps2 K F vs xs) {l : Addr} (hl : H l = none) : Evo Ps M F H (upd F l (.tup vs)) (upd H l (.tup vs)) ∧ (Is K (Tl.mk xs)).R (upd F l (.tup vs)) (.ref l) :=
  have e := s.new (o := .tup vs) hl
  ⟨e, l, vs, rfl, SqT.of upd_same, p.mono e.le⟩
theorem Evo.newD (s : Sh Ps M F H) {kv : List (Key × V)} {xs : List (κ × α)} (p : Kvs K F kv xs) {l : Addr} (hl : H l = none) : Evo Ps M F H (upd F l (.dK kv)) (upd H l (.dK kv)) ∧ (Is K (Dc.mk xs)).R (upd F l (.dK kv)) (.ref l) :=
  have e := s.new (o := .dK kv) hl
  ⟨e, l, kv, rfl, upd_same, p.mono e.le⟩
/-! ### built-ins -/
theorem oc_len {xs : List α} (h : Sq Ps M K R xs) : Oc Ps M (fun vs H Q => ∃ p ys, vs = [.ref p] ∧ (SqL K H p ys ∨ SqT K H p ys) ∧ Q (.int ys.length) H) [R] (Is K xs.length) := fun F H vs Q s r q => by
  obtain ⟨v, ev, rr⟩ := rs1 r
  subst ev
  replace r := rr
  clear rr
  obtain ⟨a, ws, rfl, h1, p⟩ := h F H v s r
  refine ⟨a, ws, rfl, h1, q _ F H s.refl ?_⟩
  show V.int _ = V.int _
  rw [Paired.length p]
theorem oc_lenS {z : Str} (h : z.length ≤ 100000) : Oc Ps M (fun vs H Q => ∃ z, vs = [.str z] ∧ z.length ≤ sizeLine ∧ Q (.int z.length) H) [Is K z] (Is K z.length) := fun F H vs Q s r q => by
  obtain ⟨v, ev, rr⟩ := rs1 r
  subst ev
  replace r := rr
  clear rr
  cases r
  exact ⟨z, rfl, Nat.le_trans h (by decide), q _ F H s.refl rfl⟩
theorem oc_lenD {l : List (κ × α)} {a : Addr} (h : (a, DicM K l) ∈ M) : Oc Ps M (fun vs H Q => ∃ a kvs, vs = [V.ref a] ∧ H a = some (.dK kvs) ∧ Q (.int kvs.length) H) [At a] (Is K l.length) := fun F H vs Q s r q => by
  obtain ⟨v, ev, rr⟩ := rs1 r
  subst ev
  replace r := rr
  clear rr
  cases r
  obtain ⟨o, h1, kv, rfl, p⟩ := s.mu _ h
  refine ⟨a, kv, rfl, h1, q _ F H s.refl ?_⟩
  show V.int _ = V.int _
  rw [Paired.length p]
theorem oc_list {xs : List α} (h : Sq Ps M K R xs) : Oc Ps M (fun vs H Q => ∃ p ys, vs = [.ref p] ∧ (SqL K H p ys ∨ SqT K H p ys) ∧ ∀ l, H l = none → Q (.ref l) (upd H l (.lst ys))) [R] (Is K xs) := fun F H vs Q s r q => by
  obtain ⟨v, ev, rr⟩ := rs1 r
  subst ev
  replace r := rr
  clear rr
  obtain ⟨a, ws, rfl, h1, p⟩ := h F H v s r
  exact ⟨a, ws, rfl, h1, fun l hl => q _ _ _ (Evo.newL s p hl).1 (Evo.newL s p hl).2⟩
theorem oc_tuple {xs : List α} (h : Ls Ps M K R xs) : Oc Ps M (fun vs H Q => ∃ p ys, vs = [.ref p] ∧ ((SqL K H p ys ∧ ∀ l, H l = none → Q (.ref l) (upd H l (.tup ys))) ∨ (SqT K H p ys ∧ Q (.ref p) H))) [R] (Is K (Tl.mk xs)) := fun F H vs Q s r q => by
  obtain ⟨v, ev, rr⟩ := rs1 r
  subst ev
  replace r := rr
  clear rr
  obtain ⟨a, ws, rfl, h1, p⟩ := h F H v s r
  exact ⟨a, ws, rfl, .inl ⟨SqL.of h1, fun l hl => q _ _ _ (Evo.newT s p hl).1 (Evo.newT s p hl).2⟩⟩
theorem oc_tupleT {xs : Tl α} : Oc Ps M (fun vs H Q => ∃ p ys, vs = [.ref p] ∧ ((SqL K H p ys ∧ ∀ l, H l = none → Q (.ref l) (upd H l (.tup ys))) ∨ (SqT K H p ys ∧ Q (.ref p) H))) [Is K xs] (Is K xs) := fun F H vs Q s r q => by
  obtain ⟨v, ev, rr⟩ := rs1 r
  subst ev
  replace r := rr
  clear rr
  obtain ⟨a, ws, rfl, h1, p⟩ := r
  exact ⟨a, ws, rfl, .inr ⟨s.sub.sqT h1, q _ F H s.refl ⟨a, ws, rfl, h1, p⟩⟩⟩
theorem ps2_str {vs : List V} {xs : List Str} (h : Ps2 K F vs xs) : vs = xs.map V.str := by
  unfold Ps2 at h
  induction h with
  | nil => rfl
  | cons a _ ih => rw [List.map_cons, ← ih]; cases a; rfl
theorem str_ps2 : ∀ xs : List Str, Ps2 K F (xs.map V.str) xs
  | [] => .nil
  | _ :: r => .cons rfl (str_ps2 r)
theorem ps2_int {vs : List V} {xs : List Int} (h : Ps2 K F vs xs) : vs = xs.map V.int := by
  unfold Ps2 at h
  induction h with
  | nil => rfl
  | cons a _ ih => rw [List.map_cons, ← ih]; cases a; rfl
theorem int_ps2 : ∀ xs : List Int, Ps2 K F (xs.map V.int) xs
  | [] => .nil
  | _ :: r => .cons rfl (int_ps2 r)
theorem ps2_nat {vs : List V} {xs : List Nat} (h : Ps2 K F vs xs) : vs = (xs.map (Int.ofNat)).map V.int := by
  unfold Ps2 at h
  induction h with
  | nil => rfl
  | cons a _ ih => rw [List.map_cons, List.map_cons, ← ih]; cases a; rfl
/-- sorted(a list of texts) -/
theorem oc_sortS {xs : List Str} (h : Ls Ps M K R xs) (n : xs.length < 64) : Oc Ps M (rSortedS K) [R] (Exi K fun ys : List Str => ys.Perm xs ∧ sortedS ys = true) := fun F H vs Q s r q => by
  obtain ⟨v, ev, rr⟩ := rs1 r
  subst ev
  replace r := rr
  clear rr
  obtain ⟨a, ws, rfl, h1, p⟩ := h F H v s r
  rw [ps2_str p] at h1
  exact ⟨a, xs, rfl, SqL.of h1, n, fun ys p pm so hp => q _ _ _ (Evo.newL s (str_ps2 (K := K) ys) hp).1 ⟨ys, ⟨pm, so⟩, (Evo.newL s (str_ps2 (K := K) ys) hp).2⟩⟩
theorem oc_sum {xs : List Int} (h : Ls Ps M K R xs) : Oc Ps M (rSum K) [R] (Is K xs.sum) := fun F H vs Q s r q => by
  obtain ⟨v, ev, rr⟩ := rs1 r
  subst ev
  replace r := rr
  clear rr
  obtain ⟨a, ws, rfl, h1, p⟩ := h F H v s r
  rw [ps2_int p] at h1
  exact ⟨a, xs, rfl, SqL.of h1, q _ F H s.refl rfl⟩
theorem oc_strI {n : Int} (h : n.natAbs.log2 < 1920) : Oc Ps M (fun vs H Q => ∃ i, vs = [.int i] ∧ i.natAbs.log2 < 1920 ∧ Q (.str (toString i)) H) [Is K n] (Is K (Str.ofString (toString n))) := fun F H vs Q s r q => by
  obtain ⟨v, ev, rr⟩ := rs1 r
  subst ev
  replace r := rr
  clear rr
  cases r
  exact ⟨n, rfl, h, q _ F H s.refl rfl⟩
/-- sorted(a list of pairs of texts) -/
theorem oc_sortSS {xs : List (Str × Str)} (h : Ls Ps M K R xs) : Oc Ps M (RU.rSortSS K) [R] (Exi K fun ys : List (Str × Str) => ∃ l l' : List (Addr × Str × Str), l.map (·.2) = xs ∧ l'.map (·.2) = ys ∧ l'.Perm l ∧ l'.Pairwise (fun e f => RU.ltS f e = false)) := fun F H vs Q s r q => by
  obtain ⟨v, ev, rr⟩ := rs1 r
  subst ev
  replace r := rr
  clear rr
  obtain ⟨a, ws, rfl, h1, p⟩ := h F H v s r
  obtain ⟨l, e1, e2, hl⟩ : ∃ l : List (Addr × Str × Str), l.map (fun e => V.ref e.1) = ws ∧ l.map (·.2) = xs ∧ ∀ e ∈ l, F e.1 = some (.tup [.str e.2.1, .str e.2.2]) := by
    clear h1 r h q
    unfold Ps2 at p
    induction p with
    | nil => exact ⟨[], rfl, rfl, fun _ h => nomatch h⟩
    | @cons v x vs xs h t ih =>
      obtain ⟨l, h1, h2, h3⟩ := ih
      obtain ⟨b, u, w, rfl, hb, hu, hw⟩ := h
      cases hu
      cases hw
      refine ⟨(b, x) :: l, by rw [List.map_cons, h1], by rw [List.map_cons, h2], fun e he => ?_⟩
      rcases List.mem_cons.mp he with rfl | he
      · exact hb
      · exact h3 e he
  refine ⟨a, l, rfl, SqL.of (by rw [e1]; exact h1), fun e he => s.sub.tup (hl e he), fun l' b pm pw hb => ?_⟩
  have e := s.new (o := .lst (l'.map fun e => V.ref e.1)) hb
  refine q _ _ _ e ⟨l'.map (·.2), ⟨l, l', e2, rfl, pm, pw⟩, b, _, rfl, upd_same, ?_⟩
  have hl' : ∀ e ∈ l', F e.1 = some (.tup [.str e.2.1, .str e.2.2]) := fun e he => hl e (pm.mem_iff.mp he)
  clear pm pw
  have : ∀ m : List (Addr × Str × Str), (∀ e ∈ m, F e.1 = some (.tup [.str e.2.1, .str e.2.2])) → Ps2 K (upd F b (.lst (l'.map fun e => V.ref e.1))) (m.map fun e => V.ref e.1) (m.map (·.2)) := by
    intro m
    induction m with
    | nil => exact fun _ => .nil
    | cons x m ih => exact fun h => .cons ⟨x.1, _, _, rfl, e.le _ _ (h x (List.mem_cons_self ..)), rfl, rfl⟩ (ih fun y hy => h y (List.mem_cons_of_mem _ hy))
  exact this l' hl'
/-- dict(a list of pairs) -/
def mergeD {κ α : Type} [DecidableEq κ] (l : List (κ × α)) : List (κ × α) := l.foldl (fun acc e => putD acc e.1 e.2) []
theorem oc_dict [KyR κ] [DecidableEq κ] {xs : List (κ × α)} (h : Ls Ps M K R xs) : Oc Ps M (fun vs H Q => ∃ (a : Addr) (ps : List Addr) (kvs : List (Key × V)), vs = [.ref a] ∧ SqL K H a (ps.map V.ref) ∧ Paired (fun p kv => SqT K H p [kV kv.1, kv.2]) ps kvs ∧
    ∀ p, H p = none → Q (.ref p) (upd H p (.dK (mergeK [] kvs)))) [R] (Is K (Dc.mk (mergeD xs))) := fun F H vs Q s r q => by
  obtain ⟨v, ev, rr⟩ := rs1 r
  subst ev
  replace r := rr
  clear rr
  obtain ⟨a, ws, rfl, h1, p⟩ := h F H v s r
  obtain ⟨ps, kvs, e1, e2, e3⟩ : ∃ (ps : List Addr) (kvs : List (Key × V)), ps.map V.ref = ws ∧ Paired (fun p kv => F p = some (.tup [kV kv.1, kv.2])) ps kvs ∧ Kvs K F kvs xs := by
    clear h1 r h q
    unfold Ps2 at p
    induction p with
    | nil => exact ⟨[], [], rfl, .nil, .nil⟩
    | @cons v x vs xs h t ih =>
      obtain ⟨ps, kvs, h1, h2, h3⟩ := ih
      obtain ⟨b, u, w, rfl, hb, hu, hw⟩ := h
      have hu := (KyR.r ..).mp hu
      subst hu
      exact ⟨b :: ps, (Ky.key x.1, w) :: kvs, by rw [List.map_cons, h1], .cons hb h2, .cons ⟨rfl, hw⟩ h3⟩
  refine ⟨a, ps, kvs, rfl, SqL.of (by rw [e1]; exact h1), ?_, fun b hb => ?_⟩
  · clear e1 e3
    induction e2 with
    | nil => exact .nil
    | cons h _ ih => exact .cons (SqT.of (s.sub.tup h)) ih
  · have : ∀ (kvs : List (Key × V)) (xs : List (κ × α)) (acc : List (Key × V)) (acc' : List (κ × α)), Kvs K F kvs xs → Kvs K F acc acc' → Kvs K F (kvs.foldl (fun acc kv => putK acc kv.1 kv.2) acc) (xs.foldl (fun acc e => putD acc e.1 e.2) acc') := by
      intro kvs xs acc acc' h
      unfold Kvs at h
      induction h generalizing acc acc' with
      | nil => exact fun h => h
      | @cons x y l1 l2 r t ih =>
        intro h
        rw [List.foldl_cons, List.foldl_cons]
        refine ih _ _ ?_
        rw [r.1]
        exact h.put r.2
    have k := this kvs xs [] [] e3 .nil
    exact q _ _ _ (Evo.newD s k hb).1 (Evo.newD s k hb).2
theorem kvs_vals {kv : List (Key × V)} {l : List (κ × α)} (h : Kvs K F kv l) : Ps2 K F (kv.map (·.2)) (l.map (·.2)) := Paired.map_ h fun _ _ r => r.2
theorem kvs_keys {kv : List (Key × V)} {l : List (κ × α)} (h : Kvs K F kv l) : kv.map (·.1) = (l.map (·.1)).map Ky.key := by
  unfold Kvs at h
  induction h with
  | nil => rfl
  | cons a _ ih => rw [List.map_cons, List.map_cons, List.map_cons, ih, a.1]
/-- a table that isn't locked -/
def Du (Ps : Tbs) (M : Mu) (K : PySem.W.Frag) (R : VRel) {κ α : Type} [Ky κ] [Rp α] (l : List (κ × α)) : Prop := ∀ F H v, Sh Ps M F H → R.R F v → ∃ a kv, v = .ref a ∧ H a = some (.dK kv) ∧ Kvs K F kv l
theorem Du.mu {l : List (κ × α)} {a : Addr} (h : (a, DicM K l) ∈ M) : Du Ps M K (At a) l := fun F H v s e => by
  obtain ⟨o, h1, kv, rfl, p⟩ := s.mu _ h
  exact ⟨a, kv, e, h1, p⟩
theorem Ev.listVals {l : List (κ × α)} (h : Ev Ps G M td R) (d : Du Ps M K R l) : Ev Ps G M (RU.tListVals td) (Is K (l.map (·.2))) := fun σ F H Q en s q => h σ F H _ en s fun v F1 H1 e1 r1 => by
  obtain ⟨a, kv, rfl, h1, p⟩ := d F1 H1 v (s.evo e1) r1
  exact ⟨a, kv, rfl, h1, fun b hb => q _ _ _ (e1.trans (Evo.newL (s.evo e1) (kvs_vals p) hb).1) (Evo.newL (s.evo e1) (kvs_vals p) hb).2⟩
/-- sorted(a table by texts) -/
theorem oc_sortD {l : List (Str × α)} (h : Ds Ps M K R l) (n : l.length < 64) : Oc Ps M (fun vs H Q => ∃ (a : Addr) (kvs : List (Key × V)) (ks : List Str), vs = [.ref a] ∧ Rd H a (.dK kvs) ∧ kvs.map (·.1) = ks.map Sum.inr ∧ ks.length < 64 ∧ ∀ ys p, ys.Perm ks → sortedS ys = true → H p = none → Q (.ref p) (upd H p (.lst (ys.map V.str)))) [R]
    (Exi K fun ys : List Str => ys.Perm (l.map (·.1)) ∧ sortedS ys = true) := fun F H vs Q s r q => by
  obtain ⟨v, ev, rr⟩ := rs1 r
  subst ev
  replace r := rr
  clear rr
  obtain ⟨a, kv, rfl, h1, p⟩ := h F H v s r
  exact ⟨a, kv, l.map (·.1), rfl, h1, kvs_keys p, by rw [List.length_map]; exact n, fun ys p pm so hp => q _ _ _ (Evo.newL s (str_ps2 (K := K) ys) hp).1 ⟨ys, ⟨pm, so⟩, (Evo.newL s (str_ps2 (K := K) ys) hp).2⟩⟩
/-! ### subscripts, slices, in, + -/
theorem Paired.at {α β : Type} {P : α → β → Prop} : ∀ {l : List α} {r : List β}, Paired P l r → ∀ {i : Nat} {y : β}, r[i]? = some y → ∃ x, l[i]? = some x ∧ P x y
  | _, _, .nil, _, _, h => by simp at h
  | _, _, .cons h t, 0, _, e => by
    simp at e
    subst e
    exact ⟨_, by simp, h⟩
  | _, _, .cons h t, i + 1, _, e => by
    simp at e
    obtain ⟨x, h1, h2⟩ := Paired.at t e
    exact ⟨x, by simpa using h1, h2⟩
theorem atI_P {vs : List V} {xs : List α} (p : Ps2 K F vs xs) {i : Int} {x : α} (h : atI xs i = some x) : ∃ v, atI vs i = some v ∧ rp K F v x := by
  unfold atI at *
  rw [Paired.length p]
  cases q : ixN xs.length i with
  | none => rw [q] at h; cases h
  | some j =>
    rw [q] at h
    obtain ⟨v, h1, h2⟩ := Paired.at p h
    exact ⟨v, h1, h2⟩
theorem o2_ixL {xs : List α} {i : Int} {x : α} (h : Ls Ps M K R xs) (e : atI xs i = some x) : O2 Ps M (rIxL K) R (Is K i) (Is K x) := fun F H v w Q s a b q => by
  obtain ⟨p, vs, rfl, h1, pp⟩ := h F H v s a
  cases b
  obtain ⟨y, hy, r⟩ := atI_P pp e
  exact ⟨p, vs, i, y, rfl, rfl, SqL.of h1, hy, q _ F H s.refl r⟩
/-- xs[an index that isn't told] -/
theorem o2_ixLx {xs : List α} {P : Int → Prop} (h : Ls Ps M K R xs) (e : ∀ i, P i → 0 ≤ i ∧ i < xs.length) : O2 Ps M (rIxL K) R (Exi K P) (Exi K (· ∈ xs)) := fun F H v w Q s a ⟨i, hi, b⟩ q => by
  obtain ⟨p, vs, rfl, h1, pp⟩ := h F H v s a
  cases b
  obtain ⟨i0, i1⟩ := e i hi
  have hx : xs[i.toNat]? = some (xs[i.toNat]'(by omega)) := List.getElem?_eq_getElem _
  have hx2 : atI xs i = some (xs[i.toNat]'(by omega)) := by
    have := atI_nat hx
    rw [show ((i.toNat : Nat) : Int) = i by omega] at this
    exact this
  obtain ⟨y, hy, r⟩ := atI_P pp hx2
  exact ⟨p, vs, i, y, rfl, rfl, SqL.of h1, hy, q _ F H s.refl ⟨_, List.getElem_mem _, r⟩⟩
theorem o2_ixT {xs : List α} {i : Int} {x : α} (h : ∀ F H v, Sh Ps M F H → R.R F v → ∃ a vs, v = .ref a ∧ SqT K H a vs ∧ Ps2 K F vs xs) (e : atI xs i = some x) : O2 Ps M (rIxT K) R (Is K i) (Is K x) := fun F H v w Q s a b q => by
  obtain ⟨p, vs, rfl, h1, pp⟩ := h F H v s a
  cases b
  obtain ⟨y, hy, r⟩ := atI_P pp e
  exact ⟨p, vs, i, y, rfl, rfl, h1, hy, q _ F H s.refl r⟩
theorem Tl.st {xs : Tl α} : ∀ F H v, Sh Ps M F H → (Is K xs).R F v → ∃ a vs, v = .ref a ∧ SqT K H a vs ∧ Ps2 K F vs xs.l := fun F H v s ⟨a, vs, e, h, p⟩ => ⟨a, vs, e, s.sub.sqT h, p⟩
theorem o2_addS {a b : Str} (h : a.length + b.length ≤ 100000) : O2 Ps M (fun x y H Q => ∃ i j, x = .str i ∧ y = .str j ∧ i.length + j.length ≤ sizeLine ∧ Q (.str (i ++ j)) H) (Is K a) (Is K b) (Is K (a ++ b)) := fun F H v w Q s r1 r2 q => by
  cases r1
  cases r2
  exact ⟨a, b, rfl, rfl, Nat.le_trans h (by decide), q _ F H s.refl rfl⟩
theorem o2_cat {xs ys : List α} (h1 : Ls Ps M K Ra xs) (h2 : Ls Ps M K Rb ys) (n : xs.length + ys.length ≤ 100000) : O2 Ps M rCat Ra Rb (Is K (xs ++ ys)) := fun F H v w Q s a b q => by
  obtain ⟨p, vs, rfl, e1, p1⟩ := h1 F H v s a
  obtain ⟨p', ws, rfl, e2, p2⟩ := h2 F H w s b
  have l1 := Paired.length p1
  have l2 := Paired.length p2
  have p3 : Ps2 K F (vs ++ ws) (xs ++ ys) := by
    clear e1 l1 n a q h1
    unfold Ps2 at *
    induction p1 with
    | nil => exact p2
    | cons h _ ih => exact .cons h ih
  exact ⟨p, p', vs, ws, rfl, rfl, e1, e2, by rw [l1, l2]; exact Nat.le_trans n (by decide), fun l hl => q _ _ _ (Evo.newL s p3 hl).1 (Evo.newL s p3 hl).2⟩
theorem inV_str {x : Str} {xs : List Str} : inV (.str x) (xs.map V.str) = decide (x ∈ xs) := by
  unfold inV
  induction xs with
  | nil => rfl
  | cons y r ih =>
    rw [List.map_cons, List.any_cons, ih]
    show ((y == x) || _) = _
    rw [Bool.eq_iff_iff]
    simp
    constructor
    · rintro (h | h)
      · exact .inl h.symm
      · exact .inr h
    · rintro (h | h)
      · exact .inl h.symm
      · exact .inr h
theorem flat_str {xs : List Str} : (xs.map V.str).all flatV = true := by
  induction xs with
  | nil => rfl
  | cons y r ih => rw [List.map_cons, List.all_cons, ih]; rfl
theorem o2_inS {x : Str} {xs : List Str} {neg : Bool} (h : Sq Ps M K R xs) : O2 Ps M (rIn K neg) (Is K x) R (Is K (if neg then !decide (x ∈ xs) else decide (x ∈ xs))) := fun F H v w Q s a b q => by
  obtain ⟨p, vs, rfl, e1, p1⟩ := h F H w s b
  cases a
  have ev := ps2_str p1
  subst ev
  exact ⟨p, _, rfl, e1, rfl, flat_str, q _ F H s.refl (by rw [inV_str]; rfl)⟩
theorem o1_slS {z : Str} {lo hi : Option Int} : True := trivial
end
end RP

set_option maxRecDepth 100000
set_option maxHeartbeats 4000000
namespace RP
open PySem PySem.Spec PyProof.Rows L2
open Rp (rp)
section
variable {Ps : Tbs} {B : Bs} {M L : Mu} {G G' : Gm} {K : PySem.W.Frag} {ta tb tc te td ty tv : TE} {t u : TS} {D : L2.Ends} {tt tu : TT} {R Ra Rb R' : VRel} {Rs : List VRel} {F H F' H' : Hp} {g : TG} {σ : L2.St} {k : L2.St → Hp → Prop} {α β κ : Type} [Rp α] [Rp β] [Ky κ] [Rp κ]
/-! ### a table, held while it is walked -/
/-- the table at a is kv, that tells l -/
def AtK (K : PySem.W.Frag) (a : Addr) (kv : List (Key × V)) (l : List (κ × α)) : VRel := ⟨fun F v => v = .ref a ∧ Kvs K F kv l, fun F F' v le ⟨e, h⟩ => ⟨e, h.mono le⟩⟩
abbrev lkM (od : Obj) (kv : List (Key × V)) : MRel := EqM (.frz od (.dK kv)) false (fun _ z => nomatch z)
theorem EnvOk.re {i : Nat} {v : V} (h : EnvOk F σ G) (hv : σ[i]? = some (some v)) (r : R.R F v) : EnvOk F σ (G.set i (some R)) := ⟨by rw [List.length_set]; exact h.1, fun j R' e => by
  by_cases hj : i = j
  · subst hj
    have hl : i < G.length := by
      have := (List.getElem?_eq_some_iff.mp e).1
      rw [List.length_set] at this
      exact this
    rw [List.getElem?_set_self hl] at e
    cases e
    exact ⟨v, hv, r⟩
  · rw [List.getElem?_set_ne hj] at e
    exact h.2 j R' e⟩
/-- the heap with a told table locked -/
theorem Sh.lock (s : Sh Ps M F H) (ow : ∀ e ∈ M, e.2.own = true) {a : Addr} {kv : List (Key × V)} (h : F a = some (.dK kv)) (od : Obj) : H a = some (.dK kv) ∧ a ∉ tk Ps ∧ Sh Ps ((a, lkM od kv) :: M) F (upd H a (.frz od (.dK kv))) := by
  have hH := s.fz a kv h fun e he _ => ow e he
  have nP : a ∉ tk Ps := fun z => by
    rw [s.fp a z] at h
    cases h
  have ne : ∀ e ∈ M, e.1 ≠ a := fun e he z => by
    have := (s.ow e he).2 (ow e he)
    rw [z, h] at this
    cases this
  refine ⟨hH, nP, fun b u hb => ?_, s.tb.upd nP (by rw [hH]; exact fun _ z => nomatch z), s.fp, fun e he => ?_, fun e he => ?_, ?_, fun b kvs hb c => ?_⟩
  · by_cases z : b = a
    · subst z
      rw [h] at hb
      cases hb
      exact .inr ⟨od, kv, rfl, upd_same⟩
    · exact (s.sub b u hb).upd z
  · rcases List.mem_cons.mp he with rfl | he
    · exact ⟨_, upd_same, rfl⟩
    · obtain ⟨o, h1, h2⟩ := s.mu e he
      exact ⟨o, by rw [upd_ne (ne e he)]; exact h1, h2⟩
  · rcases List.mem_cons.mp he with rfl | he
    · exact ⟨nP, fun z => nomatch z⟩
    · exact s.ow e he
  · refine List.nodup_cons.mpr ⟨fun z => ?_, s.nd⟩
    obtain ⟨e, he, z⟩ := List.mem_map.mp z
    exact ne e he z
  · have z : b ≠ a := fun z => by
      have := c _ (List.mem_cons_self ..) z.symm
      exact nomatch this
    rw [upd_ne z]
    exact s.fz b kvs hb fun e he => c e (List.mem_cons_of_mem _ he)
theorem Evo.unlock (s : Sh Ps M F H) (ow : ∀ e ∈ M, e.2.own = true) {a : Addr} {kv : List (Key × V)} (h : F a = some (.dK kv)) {od : Obj} (v : Evo Ps ((a, lkM od kv) :: M) F (upd H a (.frz od (.dK kv))) F' H') : H' a = some (.frz od (.dK kv)) ∧ Evo Ps M F H F' (upd H' a (.dK kv)) := by
  obtain ⟨hH, nP, _⟩ := s.lock ow h od
  obtain ⟨o, hl, rfl⟩ := v.mu _ (List.mem_cons_self ..)
  have hF' := v.le _ _ h
  have ne : ∀ e ∈ M, e.1 ≠ a := fun e he z => by
    have := (s.ow e he).2 (ow e he)
    rw [z, h] at this
    cases this
  refine ⟨hl, v.le, fun b u hb => ?_, fun b u hb p m => ?_, fun b u hb => ?_, v.tb.upd nP (by rw [hl]; exact fun _ z => nomatch z), fun e he => ?_, fun b kvs hb c => ?_⟩
  · by_cases z : b = a
    · subst z
      rw [hF'] at hb
      cases hb
      exact .inl upd_same
    · exact (v.sub b u hb).upd z
  · by_cases z : b = a
    · subst z
      rw [hH] at hb
      cases hb
      exact upd_same
    · rw [upd_ne z]
      refine v.keep b u (by rw [upd_ne z]; exact hb) p fun q => ?_
      rcases List.mem_cons.mp q with q | q
      · exact z q
      · exact m q
  · rcases v.nw b u hb with h' | h'
    · exact .inl h'
    · by_cases z : b = a
      · subst z
        rw [upd_same] at h'
        cases h'
      · rw [upd_ne z] at h'
        exact .inr h'
  · obtain ⟨o, h1, h2⟩ := v.mu e (List.mem_cons_of_mem _ he)
    exact ⟨o, by rw [upd_ne (ne e he)]; exact h1, h2⟩
  · by_cases z : b = a
    · subst z
      rw [hF'] at hb
      cases hb
      exact upd_same
    · rw [upd_ne z]
      refine v.fz b kvs hb fun e he y => ?_
      rcases List.mem_cons.mp he with rfl | he
      · exact absurd y.symm z
      · exact c e he y
/-- an expression over a told table in a slot, that is locked meanwhile -/
theorem Ev.lockF {l : Dc κ α} {i : Nat} (hi : G[i]? = some (some (Is K l))) (ow : ∀ e ∈ M, e.2.own = true) (h : ∀ a kv od, kv.map (·.1) = (l.l.map (·.1)).map Ky.key → Ev Ps (G.set i (some (AtK K a kv l.l))) ((a, lkM od kv) :: M) te R) : Ev Ps G M (tLockE te) R := fun σ F H Q en s q => by
  obtain ⟨v, hv, a, kv, rfl, hF, hk⟩ := en.2 i _ hi
  obtain ⟨hH, _, _⟩ := s.lock ow hF ⟨.none, none, .fields #[], #[]⟩
  refine ⟨a, .dK kv, hH, True.intro, fun od => ?_⟩
  refine h a kv od (kvs_keys hk) σ F _ _ (en.re hv ⟨rfl, hk⟩) (s.lock ow hF od).2.2 fun v F' H' ev r => ?_
  obtain ⟨h1, h2⟩ := Evo.unlock s ow hF ev
  exact ⟨h1, q v F' _ h2 r⟩
/-- a table that may change, locked meanwhile -/
theorem Sh.lockM {j : Nat} {a : Addr} {l : List (κ × α)} (s : Sh Ps M F H) (hj : M[j]? = some (a, DicM K l)) : ∃ kv, H a = some (.dK kv) ∧ Kvs K F kv l ∧ ∀ od, Sh Ps (M.set j (a, lkM od kv)) F (upd H a (.frz od (.dK kv))) ∧
    ∀ F' H', Evo Ps (M.set j (a, lkM od kv)) F (upd H a (.frz od (.dK kv))) F' H' → H' a = some (.frz od (.dK kv)) ∧ Evo Ps M F H F' (upd H' a (.dK kv)) := by
  have hm : (a, DicM K l) ∈ M := List.mem_of_getElem? hj
  have hl : j < M.length := (List.getElem?_eq_some_iff.mp hj).1
  obtain ⟨o, h1, kv, rfl, hk⟩ := s.mu _ hm
  obtain ⟨nP, nF⟩ := s.ow _ hm
  have nF := nF rfl
  have keys : ∀ r : MRel, (M.set j (a, r)).map (·.1) = M.map (·.1) := fun r => by
    rw [List.map_set]
    refine List.ext_getElem? fun i => ?_
    by_cases hi : j = i
    · subst hi
      rw [List.getElem?_set_self (by rw [List.length_map]; exact hl), List.getElem?_map, hj]
      rfl
    · rw [List.getElem?_set_ne hi]
  have mem : ∀ (r : MRel), ∀ e ∈ M.set j (a, r), e = (a, r) ∨ (e ∈ M ∧ e.1 ≠ a) := fun r e he => by
    obtain ⟨i, hi⟩ := List.getElem?_of_mem he
    by_cases hij : j = i
    · subst hij
      rw [List.getElem?_set_self hl] at hi
      exact .inl (Option.some.inj hi).symm
    · rw [List.getElem?_set_ne hij] at hi
      refine .inr ⟨List.mem_of_getElem? hi, fun z => hij ?_⟩
      have g1 : (M.map (·.1))[i]? = some a := by rw [List.getElem?_map, hi]; exact congrArg some z
      have g2 : (M.map (·.1))[j]? = some a := by rw [List.getElem?_map, hj]; rfl
      have hjl : j < (M.map (·.1)).length := (List.getElem?_eq_some_iff.mp g2).1
      exact List.Nodup.getElem?_inj_ s.nd hjl (g2.trans g1.symm)
  have mem2 : ∀ r : MRel, ∀ e ∈ M, e = (a, DicM K l) ∨ (e ∈ M.set j (a, r) ∧ e.1 ≠ a) := fun r e he => by
    obtain ⟨i, hi⟩ := List.getElem?_of_mem he
    by_cases hij : j = i
    · subst hij
      rw [hj] at hi
      exact .inl (Option.some.inj hi).symm
    · refine .inr ⟨List.mem_of_getElem? (i := i) (by rw [List.getElem?_set_ne hij]; exact hi), fun z => hij ?_⟩
      have g1 : (M.map (·.1))[i]? = some a := by rw [List.getElem?_map, hi]; exact congrArg some z
      have g2 : (M.map (·.1))[j]? = some a := by rw [List.getElem?_map, hj]; rfl
      have hjl : j < (M.map (·.1)).length := (List.getElem?_eq_some_iff.mp g2).1
      exact List.Nodup.getElem?_inj_ s.nd hjl (g2.trans g1.symm)
  refine ⟨kv, h1, hk, fun od => ⟨⟨fun b u hb => (s.sub b u hb).upd (fun z => by rw [z, nF] at hb; exact nomatch hb), s.tb.upd nP (by rw [h1]; exact fun _ z => nomatch z), s.fp, fun e he => ?_, fun e he => ?_, by rw [keys]; exact s.nd, fun b kvs hb c => ?_⟩, fun F' H' v => ?_⟩⟩
  · rcases mem _ e he with rfl | ⟨he, ne⟩
    · exact ⟨_, upd_same, rfl⟩
    · obtain ⟨o, g1, g2⟩ := s.mu e he
      exact ⟨o, by rw [upd_ne ne]; exact g1, g2⟩
  · rcases mem _ e he with rfl | ⟨he, ne⟩
    · exact ⟨nP, fun z => nomatch z⟩
    · exact s.ow e he
  · have z : b ≠ a := fun z => by rw [z, nF] at hb; exact nomatch hb
    rw [upd_ne z]
    refine s.fz b kvs hb fun e he y => ?_
    rcases mem2 (lkM od kv) e he with rfl | ⟨he, ne⟩
    · rfl
    · exact c e he y
  · have hlk : (a, lkM od kv) ∈ M.set j (a, lkM od kv) := List.mem_of_getElem? (i := j) (by rw [List.getElem?_set_self hl])
    obtain ⟨o, hl2, rfl⟩ := v.mu _ hlk
    have nF' : F' a = none := by
      cases z : F' a with
      | none => rfl
      | some o =>
        rcases v.nw _ _ z with y | y
        · rw [nF] at y; cases y
        · rw [upd_same] at y; cases y
    refine ⟨hl2, v.le, fun b u hb => (v.sub b u hb).upd (fun z => by rw [z, nF'] at hb; exact nomatch hb), fun b u hb p m => ?_, fun b u hb => ?_, v.tb.upd nP (by rw [hl2]; exact fun _ z => nomatch z), fun e he => ?_, fun b kvs hb c => ?_⟩
    · have z : b ≠ a := fun z => m (by rw [z]; exact List.mem_map.mpr ⟨_, hm, rfl⟩)
      rw [upd_ne z]
      exact v.keep b u (by rw [upd_ne z]; exact hb) p (by rw [keys]; exact m)
    · rcases v.nw b u hb with y | y
      · exact .inl y
      · by_cases z : b = a
        · rw [z, upd_same] at y; cases y
        · rw [upd_ne z] at y
          exact .inr y
    · rcases mem2 (lkM od kv) e he with rfl | ⟨he, ne⟩
      · exact ⟨_, upd_same, kv, rfl, hk.mono v.le⟩
      · obtain ⟨o, g1, g2⟩ := v.mu e he
        exact ⟨o, by rw [upd_ne ne]; exact g1, g2⟩
    · have z : b ≠ a := fun z => by rw [z, nF'] at hb; exact nomatch hb
      rw [upd_ne z]
      refine v.fz b kvs hb fun e he y => ?_
      rcases mem _ e he with rfl | ⟨he, ne⟩
      · exact absurd y.symm z
      · exact c e he y
theorem Ev.lockM {i j : Nat} {a : Addr} {l : List (κ × α)} (hi : G[i]? = some (some (At a))) (hj : M[j]? = some (a, DicM K l)) (h : ∀ kv od, kv.map (·.1) = (l.map (·.1)).map Ky.key → Ev Ps (G.set i (some (AtK K a kv l))) (M.set j (a, lkM od kv)) te R) : Ev Ps G M (tLockE te) R := fun σ F H Q en s q => by
  obtain ⟨v, hv, hr⟩ := en.2 i _ hi
  cases hr
  obtain ⟨kv, hH, hk, lk⟩ := s.lockM hj
  refine ⟨a, .dK kv, hH, True.intro, fun od => ?_⟩
  refine h kv od (kvs_keys hk) σ F _ _ (en.re hv ⟨rfl, hk⟩) (lk od).1 fun v F' H' ev r => ?_
  obtain ⟨h1, h2⟩ := (lk od).2 F' H' ev
  exact ⟨h1, q v F' _ h2 r⟩
/-! ### what is walked: a locked table -/
theorem lk_at {a : Addr} {od : Obj} {kv : List (Key × V)} (s : Sh Ps M F H) (hM : (a, lkM od kv) ∈ M) : H a = some (.frz od (.dK kv)) := by
  obtain ⟨o, h1, rfl⟩ := s.mu _ hM
  exact h1
theorem Ei.keys [KyR κ] {a : Addr} {od : Obj} {kv : List (Key × V)} {l : List (κ × α)} (hd : Ev Ps G M td (AtK K a kv l)) (hM : (a, lkM od kv) ∈ M) (hk : kv.map (·.1) = (l.map (·.1)).map Ky.key) : Ei Ps G M [(a, lkM od kv)] (iKeys td) (l.map (·.1)).length (Nth K (l.map (·.1))) := fun σ F H R e s q => hd σ F H _ e s fun v F1 H1 e1 ⟨ev, hp⟩ => by
  subst ev
  have ln : kv.length = (l.map (·.1)).length := by
    have := congrArg List.length hk
    simpa using this
  have lk : ∀ {M' : Mu} {F' H' : Hp}, (∀ e ∈ [(a, lkM od kv)], e ∈ M') → Sh Ps M' F' H' → H' a = some (.frz od (.dK kv)) := fun h s' => lk_at s' (h _ (List.mem_singleton.mpr rfl))
  refine ⟨a, od, rfl, .inl ⟨kv, lk_at (s.evo e1) hM, q _ F1 H1 e1 ⟨fun _ i F' H' h hi _ s' => ?_, fun _ F' H' h _ s' => ?_, fun _ i F' H' x H'' h hi _ s' y => ?_⟩⟩⟩
  · rw [← ln] at hi
    exact walk_keys.goes i H' hi (lk h s')
  · rw [← ln]
    exact walk_keys.stops H' (lk h s')
  · obtain ⟨rfl, k, w, h1, h2⟩ := walk_keys.yields i H' x H'' (by rw [ln]; exact hi) (lk h s') y
    refine ⟨F', s'.refl, (l.map (·.1))[i], List.getElem?_eq_getElem hi, (KyR.r ..).mpr ?_⟩
    have h3 : (kv.map (·.1))[i]? = some k := by rw [List.getElem?_map, h1]; rfl
    rw [hk, List.getElem?_map, List.getElem?_eq_getElem hi] at h3
    rw [h2, ← Option.some.inj h3]
theorem Ei.vals {a : Addr} {od : Obj} {kv : List (Key × V)} {l : List (κ × α)} (hd : Ev Ps G M td (AtK K a kv l)) (hM : (a, lkM od kv) ∈ M) : Ei Ps G M [(a, lkM od kv)] (iVals td) (l.map (·.2)).length (Nth K (l.map (·.2))) := fun σ F H R e s q => hd σ F H _ e s fun v F1 H1 e1 ⟨ev, hp⟩ => by
  subst ev
  have ln : kv.length = (l.map (·.2)).length := by rw [Paired.length hp, List.length_map]
  have lk : ∀ {M' : Mu} {F' H' : Hp}, (∀ e ∈ [(a, lkM od kv)], e ∈ M') → Sh Ps M' F' H' → H' a = some (.frz od (.dK kv)) := fun h s' => lk_at s' (h _ (List.mem_singleton.mpr rfl))
  refine ⟨a, od, kv, rfl, lk_at (s.evo e1) hM, q _ F1 H1 e1 ⟨fun _ i F' H' h hi _ s' => ?_, fun _ F' H' h _ s' => ?_, fun _ i F' H' x H'' h hi le s' y => ?_⟩⟩
  · rw [← ln] at hi
    exact walk_values.goes i H' hi (lk h s')
  · rw [← ln]
    exact walk_values.stops H' (lk h s')
  · obtain ⟨rfl, k, h1⟩ := walk_values.yields i H' x H'' (by rw [ln]; exact hi) (lk h s') y
    refine ⟨F', s'.refl, (l.map (·.2))[i], List.getElem?_eq_getElem hi, Rp.mono K _ _ _ _ le ?_⟩
    exact Paired.get? (kvs_vals hp) (by rw [List.getElem?_map, h1]; rfl) (List.getElem?_eq_getElem hi)
theorem Ei.items [KyR κ] {a : Addr} {od : Obj} {kv : List (Key × V)} {l : List (κ × α)} (hd : Ev Ps G M td (AtK K a kv l)) (hM : (a, lkM od kv) ∈ M) : Ei Ps G M [(a, lkM od kv)] (iItems td) l.length (Nth K l) := fun σ F H R e s q => hd σ F H _ e s fun v F1 H1 e1 ⟨ev, hp⟩ => by
  subst ev
  have ln : kv.length = l.length := Paired.length hp
  have lk : ∀ {M' : Mu} {F' H' : Hp}, (∀ e ∈ [(a, lkM od kv)], e ∈ M') → Sh Ps M' F' H' → H' a = some (.frz od (.dK kv)) := fun h s' => lk_at s' (h _ (List.mem_singleton.mpr rfl))
  refine ⟨a, od, kv, rfl, lk_at (s.evo e1) hM, q _ F1 H1 e1 ⟨fun _ i F' H' h hi _ s' => ?_, fun _ F' H' h _ s' => ?_, fun _ i F' H' x H'' h hi le s' y => ?_⟩⟩
  · rw [← ln] at hi
    exact walk_items.goes i H' hi (lk h s')
  · rw [← ln]
    exact walk_items.stops H' (lk h s')
  · obtain ⟨T, u, w, rfl, hT, rfl, h1, h2⟩ := walk_items.yields i H' x H'' (by rw [ln]; exact hi) (lk h s') y
    have he : kv[i]? = some (kv[i]'(by omega)) := List.getElem?_eq_getElem _
    have h1 : kv[i]?.map (fun kv => kV kv.1) = some u := h1
    have h2 : kv[i]?.map Prod.snd = some w := h2
    rw [he] at h1 h2
    have r := Paired.get? hp he (List.getElem?_eq_getElem hi)
    have e' := s'.new (o := .tup [u, w]) hT
    refine ⟨_, e', l[i], List.getElem?_eq_getElem hi, T, u, w, rfl, upd_same, (KyR.r ..).mpr ?_, ?_⟩
    · rw [← Option.some.inj h1, ← r.1]
    · have e2 : (kv[i]'(by omega)).2 = w := Option.some.inj h2
      have r2 := r.2
      rw [e2] at r2
      exact Rp.mono K _ _ _ _ (le.trans e'.le) r2
end
end RP

set_option maxRecDepth 100000
set_option maxHeartbeats 4000000
namespace RP
open PySem PySem.Spec PyProof.Rows L2
open Rp (rp)
section
variable {Ps : Tbs} {B : Bs} {M L : Mu} {G G' : Gm} {K : PySem.W.Frag} {ta tb tc te td ty tv : TE} {t u : TS} {D : L2.Ends} {tt tu : TT} {R Ra Rb R' : VRel} {Rs : List VRel} {F H F' H' : Hp} {g : TG} {σ : L2.St} {k : L2.St → Hp → Prop} {α β κ : Type} [Rp α] [Rp β] [Ky κ] [Rp κ]
/-! ### own objects -/
/-- an instance with its fields -/
def Obj (a C : Addr) (fs : List (Str × V)) : VRel := ⟨fun F v => v = .ref a ∧ ∃ dx, F a = some (.ins C dx fs), fun F F' v l ⟨e, dx, h⟩ => ⟨e, dx, l _ _ h⟩⟩
theorem Sub.ins {a C dx : Addr} {fs : List (Str × V)} (s : Sub F H) (h : F a = some (.ins C dx fs)) : H a = some (.ins C dx fs) := by
  rcases s _ _ h with h | ⟨_, _, e, _⟩
  · exact h
  · cases e
theorem Ev.fld {a C : Addr} {fs : List (Str × V)} {f : Str} {v : V} (ho : Ev Ps G M ta (Obj a C fs)) (cl : Cls K C) (na : NoAttr K C f) (e : fs.lookup f = some v) (hR : ∀ F, R.R F v) : Ev Ps G M (tFld K ta f) R := fun σ F H Q en s q => ho σ F H _ en s fun w F1 H1 e1 ⟨ew, dx, h⟩ =>
  ⟨a, C, dx, fs, v, ew, (s.evo e1).sub.ins h, cl, na, e, q v F1 H1 e1 (hR F1)⟩
/-- a method's promise, by what is told of its arguments -/
theorem Ev.meth {a C : Addr} {fs : List (Str × V)} {m : Str} {sp : Sp} {E : XK} {t : TA} (ho : Ev Ps G M ta (Obj a C fs)) (nm : fs.lookup m = none) (ha : Ea Ps G M t Rs) (o : Oc Ps M (fun vs H Q => sp (vs ++ []) H Q E) (Obj a C fs :: Rs) R) : Ev Ps G M (tMeth C m sp [] E ta t) R := fun σ F H Q en s q => ho σ F H _ en s fun w F1 H1 e1 r1 => by
  obtain ⟨ew, dx, h⟩ := id r1
  exact ⟨a, dx, fs, ew, (s.evo e1).sub.ins h, nm, ha σ F1 H1 _ (en.mono e1.le) (s.evo e1) fun vs F2 H2 e2 r2 => o F2 H2 (w :: vs) Q ((s.evo e1).evo e2) (.cons ((Obj a C fs).mono _ _ _ e2.le r1) r2) fun z F3 H3 e3 r3 => q z F3 H3 ((e1.trans e2).trans e3) r3⟩
/-! ### promises that tell of the heap alone -/
/-- all but the tables Ps0 stays -/
def Gw0 (Ps0 : List Addr) (H H' : Hp) : Prop := (∀ P ∈ Ps0, GxR.TabG H' P) ∧ ∀ b o, b ∉ Ps0 → H b = some o → H' b = some o
def mkPs (Ps0 : List Addr) (pT : Addr) (q : Str) : Tbs := (pT, some q) :: Ps0.map fun p => (p, none)
theorem tk_mk {Ps0 : List Addr} {pT : Addr} {q : Str} : tk (mkPs Ps0 pT q) = pT :: Ps0 := by
  unfold tk mkPs
  rw [List.map_cons, List.map_map]
  congr 1
  show Ps0.map (fun p => p) = Ps0
  exact List.map_id' _
theorem Tb.tb0 {Ps0 : List Addr} {pT : Addr} {q : Str} (t : Tb (mkPs Ps0 pT q) H) : ∀ P ∈ Ps0, GxR.TabG H P := fun P hP => t (P, none) (List.mem_cons_of_mem _ (List.mem_map.mpr ⟨P, hP, rfl⟩))
/-- behind a call that changes but the things that are told -/
theorem tb_gp {Ps0 : List Addr} {pT : Addr} {q : Str} (t : Tb (mkPs Ps0 pT q) H) (nP : pT ∉ Ps0) {ex : Addr → Prop} (tb : ∀ P ∈ Ps0, GxR.TabG H' P) (keep : ∀ b o, b ∉ Ps0 → ¬ ex b → H b = some o → H' b = some o) (exT : ¬ ex pT) (exC : ∀ b φ, ex b → H b ≠ some (.ext φ)) : Tb (mkPs Ps0 pT q) H' := fun e he => by
  rcases List.mem_cons.mp he with rfl | he
  · obtain ⟨ps, h1, h2, h3⟩ := t (pT, some q) (List.mem_cons_self ..)
    refine ⟨ps, keep _ _ nP exT h1, h2, fun pos cv hc => ?_⟩
    obtain ⟨c, e1, e2⟩ := h3 pos cv hc
    refine ⟨c, e1, keep _ _ (fun z => ?_) (fun z => exC c _ z e2) e2⟩
    obtain ⟨ps', h4, _⟩ := Tb.tb0 t c z
    rw [h4] at e2
    cases e2
  · obtain ⟨P, hP, rfl⟩ := List.mem_map.mp he
    exact tb P hP
theorem Evo.gw {Ps0 : List Addr} {pT : Addr} {q : Str} (s : Sh (mkPs Ps0 pT q) M F H) (nP : pT ∉ Ps0) (g : Gw0 Ps0 H H') : Evo (mkPs Ps0 pT q) M F H F H' := by
  have out : ∀ {a : Addr}, a ∉ tk (mkPs Ps0 pT q) → a ∉ Ps0 := fun h z => h (by rw [tk_mk]; exact List.mem_cons_of_mem _ z)
  have nF : ∀ {a : Addr} {o : HO}, F a = some o → a ∉ tk (mkPs Ps0 pT q) := fun h z => by
    rw [s.fp _ z] at h
    cases h
  refine ⟨Le.refl F, fun a o h => ?_, fun a o h p _ => g.2 a o (out p) h, fun a o h => .inl h, ?_, fun e he => ?_, fun a kvs h c => g.2 _ _ (out (nF h)) (s.fz a kvs h c)⟩
  · rcases s.sub a o h with h' | ⟨od, kvs, e, h'⟩
    · exact .inl (g.2 _ _ (out (nF h)) h')
    · exact .inr ⟨od, kvs, e, g.2 _ _ (out (nF h)) h'⟩
  · exact tb_gp s.tb nP (ex := fun _ => False) g.1 (fun b o n _ h => g.2 b o n h) (fun z => z) (fun b φ z => z.elim)
  · obtain ⟨o, h1, h2⟩ := s.mu e he
    exact ⟨o, g.2 _ _ (out (s.ow e he).1) h1, h2⟩
/-- the object at d, that is of M, and no other has changed -/
theorem Sa.gp {Ps0 : List Addr} {pT : Addr} {q : Str} {j : Nat} {d : Addr} {r r' : MRel} {o : HO} (s : Sa (mkPs Ps0 pT q) B G M σ F H) (nP : pT ∉ Ps0) (hj : M[j]? = some (d, r)) (ow : r.own = true) (tb : ∀ P ∈ Ps0, GxR.TabG H' P) (keep : ∀ b o, b ∉ Ps0 → b ≠ d → H b = some o → H' b = some o) (hd : H' d = some o) (hr : r'.R F o) : Sa (mkPs Ps0 pT q) B G (M.set j (d, r')) σ F H' := by
  have hm : (d, r) ∈ M := List.mem_of_getElem? hj
  -- as if d were written at once, then all that is new came
  have s1 := s.wr (r' := r') hj ow hr
  have nd : d ∉ tk (mkPs Ps0 pT q) := (s.sh.ow _ hm).1
  have ex : Evo (mkPs Ps0 pT q) (M.set j (d, r')) F (upd H d o) F H' := by
    refine Evo.gw s1.sh nP ⟨tb, fun b u n h => ?_⟩
    by_cases z : b = d
    · subst z
      rw [upd_same] at h
      rw [hd, Option.some.inj h]
    · rw [upd_ne z] at h
      exact keep b u n z h
  exact s1.evo ex
/-! ### a lambda told -/
/-- what is called with the lambda tells its refusals by Ef -/
def EvX (Ps : Tbs) (G : Gm) (M : Mu) (t : XK → TE) (Ef : VK → XK) (R : VRel) : Prop := ∀ σ F H Q, EnvOk F σ G → Sh Ps M F H → (∀ v F' H', Evo Ps M F H F' H' → R.R F' v → Q v H') → t (Ef Q) σ H Q
theorem Ev.told {pT : Addr} {q : Str} {t : XK → TE} {Ef : VK → XK} (hT : (pT, some q) ∈ Ps) (un : ∀ e ∈ Ps, e.1 = pT → e.2 = some q) (h : EvX Ps G M t Ef R) : Ev Ps G M (LX.tLam3 [(pT, q)] pT (fun tl H Q => tl (Ef Q) H Q) t) R := fun σ F H Q en s qq => by
  have tab : LamX.TabS H pT q := s.tb _ hT
  refine ⟨fun p hp => by rw [List.mem_singleton.mp hp]; exact tab, fun H1 _ tab1 kp => ?_⟩
  have tab1 : LamX.TabS H1 pT q := tab1 (pT, q) (List.mem_singleton.mpr rfl)
  obtain ⟨ps0, hp0, _⟩ := tab
  have inP : pT ∈ tk Ps := List.mem_map.mpr ⟨_, hT, rfl⟩
  have neF : ∀ {a : Addr} {o : HO}, F a = some o → a ≠ pT := fun h z => by
    rw [z, s.fp _ inP] at h
    cases h
  have ev : Evo Ps M F H F H1 := by
    refine ⟨Le.refl F, fun a o h => ?_, fun a o h p _ => kp a o (fun z => p (by rw [z]; exact inP)) h, fun a o h => .inl h, fun e he => ?_, fun e he => ?_, fun a kvs h c => kp _ _ (neF h) (s.fz a kvs h c)⟩
    · rcases s.sub a o h with h' | ⟨od, kvs, e, h'⟩
      · exact .inl (kp _ _ (neF h) h')
      · exact .inr ⟨od, kvs, e, kp _ _ (neF h) h'⟩
    · by_cases z : e.1 = pT
      · rw [un e he z, z]
        exact tab1
      · have t0 := s.tb e he
        obtain ⟨P, o⟩ := e
        cases o with
        | none =>
          obtain ⟨ps, h1, h2⟩ := t0
          exact ⟨ps, kp _ _ z h1, h2⟩
        | some q' =>
          obtain ⟨ps, h1, h2, h3⟩ := t0
          refine ⟨ps, kp _ _ z h1, h2, fun pos cv hc => ?_⟩
          obtain ⟨c, e1, e2⟩ := h3 pos cv hc
          exact ⟨c, e1, kp _ _ (fun y => by rw [y, hp0] at e2; cases e2) e2⟩
    · obtain ⟨o, h1, h2⟩ := s.mu e he
      exact ⟨o, kp _ _ (fun z => (s.ow e he).1 (by rw [z]; exact inP)) h1, h2⟩
  exact h σ F H1 Q en (s.evo ev) fun v F' H' e2 r => qq v F' H' (ev.trans e2) r
/-- a call within it -/
theorem EvX.call {sp : Sp} {Ef : VK → XK} {t : TA} (ha : Ea Ps G M t Rs) (o : ∀ F H vs Q, Sh Ps M F H → RsOk F Rs vs → (∀ z F' H', Evo Ps M F H F' H' → R.R F' z → Q z H') → sp (vs ++ []) H Q (Ef Q)) : EvX Ps G M (fun E => tCall sp [] E t) Ef R := fun σ F H Q en s q =>
  ha σ F H _ en s fun vs F1 H1 e1 r1 => o F1 H1 vs Q (s.evo e1) r1 fun z F3 H3 e3 r3 => q z F3 H3 (e1.trans e3) r3
theorem EvX.meth {a C : Addr} {fs : List (Str × V)} {m : Str} {sp : Sp} {Ef : VK → XK} {t : TA} (ho : Ev Ps G M ta (Obj a C fs)) (nm : fs.lookup m = none) (ha : Ea Ps G M t Rs) (o : ∀ F H vs Q, Sh Ps M F H → RsOk F (Obj a C fs :: Rs) vs → (∀ z F' H', Evo Ps M F H F' H' → R.R F' z → Q z H') → sp (vs ++ []) H Q (Ef Q)) : EvX Ps G M (fun E => tMeth C m sp [] E ta t) Ef R := fun σ F H Q en s q => ho σ F H _ en s fun w F1 H1 e1 r1 => by
  obtain ⟨ew, dx, h⟩ := id r1
  exact ⟨a, dx, fs, ew, (s.evo e1).sub.ins h, nm, ha σ F1 H1 _ (en.mono e1.le) (s.evo e1) fun vs F2 H2 e2 r2 => o F2 H2 (w :: vs) Q ((s.evo e1).evo e2) (.cons ((Obj a C fs).mono _ _ _ e2.le r1) r2) fun z F3 H3 e3 r3 => q z F3 H3 ((e1.trans e2).trans e3) r3⟩
/-! ### dice -/
theorem DiceM.at {d : Addr} (s : Sh Ps M F H) (hM : (d, DiceM) ∈ M) : ∃ a b c : Int, H d = some (.lst [.int a, .int b, .int c]) := by
  obtain ⟨o, h1, a, b, c, rfl⟩ := s.mu _ hM
  exact ⟨a, b, c, h1⟩
/-- the dice are rolled -/
theorem Evo.roll {d : Addr} (s : Sh Ps M F H) (hM : (d, DiceM) ∈ M) (a b c : Int) : Evo Ps M F H F (upd H d (.lst [.int a, .int b, .int c])) := by
  obtain ⟨x, y, z, hd⟩ := DiceM.at s hM
  obtain ⟨nP, nF⟩ := s.ow _ hM
  have nF := nF rfl
  have inM : d ∈ M.map (·.1) := List.mem_map.mpr ⟨_, hM, rfl⟩
  refine ⟨Le.refl F, fun b u h => (s.sub b u h).upd (fun z => by rw [z, nF] at h; exact nomatch h), fun b u h p m => by rw [upd_ne (fun z => m (by rw [z]; exact inM))]; exact h, fun b u h => .inl h, s.tb.upd nP (by rw [hd]; exact fun _ z => nomatch z), fun e he => ?_, fun b kvs h k => by rw [upd_ne (fun z => by rw [z, nF] at h; exact nomatch h)]; exact s.fz b kvs h k⟩
  by_cases q : e.1 = d
  · have : e = (d, DiceM) := by
      obtain ⟨i, hi⟩ := List.getElem?_of_mem he
      obtain ⟨j, hj⟩ := List.getElem?_of_mem hM
      have g1 : (M.map (·.1))[i]? = some d := by rw [List.getElem?_map, hi]; exact congrArg some q
      have g2 : (M.map (·.1))[j]? = some d := by rw [List.getElem?_map, hj]; rfl
      have := List.Nodup.getElem?_inj_ s.nd (List.getElem?_eq_some_iff.mp g1).1 (g1.trans g2.symm)
      subst this
      rw [hi] at hj
      exact Option.some.inj hj
    subst this
    exact ⟨_, upd_same, a, b, c, rfl⟩
  · obtain ⟨o, h1, h2⟩ := s.mu e he
    exact ⟨o, by rw [upd_ne q]; exact h1, h2⟩
theorem Oc.roll {d : Addr} {n : Int} {sp : Sp} {E : XK} (hM : (d, DiceM) ∈ M) (n1 : 1 ≤ n) (n2 : n ≤ 1000) (h : ∀ H Q E, (∃ a b c : Int, H d = some (.lst [.int a, .int b, .int c])) → (∀ (r : Nat) a b c, (r : Int) < n → Q (.int (r : Nat)) (upd H d (.lst [.int a, .int b, .int c]))) → sp [.ref d, .int n] H Q E) :
    Oc Ps M (fun vs H Q => sp (vs ++ []) H Q E) [At d, Is K n] (Exi K fun r : Int => 0 ≤ r ∧ r < n) := fun F H vs Q s r q => by
  obtain ⟨v, w, rfl, h1, h2⟩ := rs2 r
  cases h1
  cases h2
  refine h H Q E (DiceM.at s hM) fun r a b c hr => q _ F _ (Evo.roll s hM a b c) ⟨(r : Int), ⟨by omega, hr⟩, rfl⟩
end
end RP

set_option maxRecDepth 100000
set_option maxHeartbeats 4000000
/-! x in d.values(), texts; d == e, flat -/
namespace RU
open PySem PySem.Spec PyProof.Rows L2
section
theorem plain_ci : plainId "proto.contains_iter" = true := by decide +kernel
theorem entry_ci : entryFor table "proto.contains_iter" = some Builtin.«proto.contains_iter» := entryFor_of_fast (by kernel_rfl)
theorem noContains_vals : typeLookup (.type "dict_values") "__contains__" = pure none := by rw [typeLookup_type, builtinLookup_eq_fast]; kernel_rfl
variable {P : Program} {w : World} {A : Around} {E : Value → Shared → Prop}
abbrev vview (a : Addr) : Obj := ⟨.type "dict_values", none, .fields #[.ref a], #[]⟩
/-- the walk over values, until the text is met -/
theorem seek {R : Result → Shared → Prop} {I : Addr} {fp wr : List Addr} {n : Nat} {Pv : Nat → Value → Prop} {St : Nat → Heap → Prop} (W : Walks P w A.in1 I fp wr n Pv St) (ts : List Str) (hn : ts.length = n) (hP : ∀ i v, Pv i v → ∃ t u, ts[i]? = some t ∧ v = .str t u) {k : Str} {u : Tok} :
    ∀ (m i : Nat), n - i = m → i ≤ n → ∀ s : Shared, St i s.heap → (∀ h' tk, (∀ b o, b ∉ wr → s.heap.get? b = some o → h'.get? b = some o) → R (.ok (.ret (.bool (decide (k ∈ ts.drop i))))) { s with heap := h', toks := tk }) →
      codeAny (model P w) A (.builtin "proto.contains_iter" ⟨[.ref I, .str k u], []⟩) R s := by
  intro m
  induction m with
  | zero =>
    intro i hm hi s st h
    have e : i = n := by omega
    subst e
    refine codeAny_builtin entry_ci ?_
    rw [Around.under_plainId plain_ci _]
    show wpAny _ A.in1 (pyNext (.ref I) >>= _) _ _ s
    refine wpAny_bind (W.done s _ _ st fun h' tk hk => ?_)
    refine wpAny_bind (wpAny_rule ?_)
    refine wpAny_pure ?_
    have := h h' tk hk
    rw [← hn, List.drop_length] at this
    exact this
  | succ m ih =>
    intro i hm hi s st h
    have hlt : i < n := by omega
    refine codeAny_builtin entry_ci ?_
    rw [Around.under_plainId plain_ci _]
    show wpAny _ A.in1 (pyNext (.ref I) >>= _) _ _ s
    refine wpAny_bind (W.item i s _ _ hlt st fun v h' tk hv st' hk => ?_)
    obtain ⟨t, u', ht, rfl⟩ := hP i v hv
    have ed : ts.drop i = t :: ts.drop (i + 1) := by
      rw [List.drop_eq_getElem_cons (by omega)]
      congr 1
      rw [List.getElem?_eq_getElem (by omega)] at ht
      exact Option.some.inj ht
    dsimp only
    refine wpAny_bind (wpAny_eqBool_str ?_)
    by_cases c : t = k
    · rw [decide_eq_true c]
      refine wpAny_ite ?_
      rw [if_pos rfl]
      refine wpAny_bind (wpAny_rule (wpAny_pure ?_))
      have := h h' tk hk
      rw [ed, decide_eq_true (by rw [c]; exact List.mem_cons_self ..)] at this
      exact this
    · rw [decide_eq_false c]
      refine wpAny_ite ?_
      rw [if_neg (by simp)]
      refine wpAny_pure ⟨plainId_quiet plain_ci _, ih (i + 1) (by omega) hlt _ st' fun h2 tk2 hk2 => ?_⟩
      have := h h2 tk2 fun b o hb e => hk2 b o hb (hk b o hb e)
      rw [ed] at this
      have e2 : decide (k ∈ t :: ts.drop (i + 1)) = decide (k ∈ ts.drop (i + 1)) := decide_eq_decide.mpr ⟨fun z => (List.mem_cons.mp z).resolve_left fun y => c y.symm, fun z => List.mem_cons_of_mem _ z⟩
      rw [e2] at this
      exact this
/-- k in a view of values -/
theorem contains_view {s : Shared} {K : Type} [DecidableEq K] {knd : KeyKind P w K} {v d : Addr} {kvs : List (K × Value)} {ep : Nat} {k : Str} {u : Tok} {Q : Bool → Shared → Prop} (calm : A.handled = none) (hv : s.heap.get? v = some (vview d)) (hd : s.heap.DictAt knd d kvs ep)
    (ts : List Str) (hl : ts.length = kvs.length) (ht : ∀ (i : Nat) (key : K) (x : Value), kvs[i]? = some (key, x) → ∃ t u, ts[i]? = some t ∧ x = Value.str t u) (go : ∀ h' tk, (∀ b o, s.heap.get? b = some o → h'.get? b = some o) → Q (decide (k ∈ ts)) { s with heap := h', toks := tk }) : wpAny (model P w) A (contains (.ref v) (.str k u)) Q E s := by
  have ty : s.TypeIs (.ref v) "dict_values" := ⟨_, hv, rfl⟩
  unfold contains
  refine wpAny_holding ?_
  rw [stdlibNamesSay?_of_typeIs ty]
  refine wpAny_bind (wpAny_specialOf ty noContains_vals ?_)
  refine wpAny_ite ?_
  rw [if_neg (by simp)]
  refine wpAny_bind (wpAny_callSpecialUnlessNone?_none ty noContains_vals ?_)
  dsimp only
  refine wpAny_bind (wpAny_rule ?_)
  have lt : d < s.heap.objs.size := by
    obtain ⟨o, es, ho, _⟩ := id hd
    exact Heap.lt_size ho
  refine wpAny_bind (wpAny_tryCatch (wpAny_pyIter_values (v := v) (d := d) ⟨_, hv, rfl, rfl⟩ hd ?_))
  have keep : ∀ b o, s.heap.get? b = some o → (s.heap.push { cls := .type "dict_valueiterator", data := .fields #[.ref d, .int 0 0, .int kvs.length 0, .int ep 0] }).get? b = some o := fun b o e => Heap.get?_push_of_some _ e
  refine wpAny_bind (wpAny_runValue (seek (Walks.dictValues (knd := knd) (A := A.in1) calm s.heap.objs.size d (Nat.ne_of_lt lt) kvs ep) ts hl (fun i x ⟨key, hx⟩ => ht i key x hx) _ 0 rfl (Nat.zero_le _) _ ⟨⟨_, Heap.get?_push_size _ rfl, rfl, rfl⟩, hd.keep keep⟩ fun h' tk hk => ?_))
  refine wpAny_pure ?_
  rw [List.drop_zero]
  exact go h' tk fun b o e => hk b o (fun z => by
    have := Heap.lt_size e
    rw [List.mem_singleton.mp z] at this
    exact Nat.lt_irrefl _ this) (keep b o e)
end
section
variable {X : Cx} {o : Expr} {p pos apos mpos : Pos} {td : TE}
/-- a view of the values of the dict at d -/
def ViewO (v d : Addr) : HO := .ext fun h => h.get? v = some (vview d)
def tVals (td : TE) : TE := fun σ H Q => td σ H fun x H1 => ∃ (d : Addr) (kvs : List (Key × V)), x = V.ref d ∧ Rd H1 d (.dK kvs) ∧ ∀ v, H1 v = none → Q (.ref v) (upd H1 v (ViewO v d))
theorem pe_vals (hd : PE X o td) (hbase : attributeBase o "values" X.env (eval o X.env) = eval o X.env := by rfl) (hline : (apos.endLine == mpos.line) = true := by rfl) : PE X (.Call (.Attribute o "values" apos) [] [] mpos) (tVals td) := by
  refine ⟨fun pins s σ H Q I h => ?_⟩
  refine wpAny_Call_method0_late hbase hline (thn (hd.run pins s σ H _ I h) fun v t ⟨x, G, J, r1, a, kvs, ex, ha, q⟩ => ?_)
  subst ex
  obtain rfl : v = Value.ref a := r1
  obtain ⟨_, nsys, vs, rel, dof⟩ := dk_rd J.hok ha
  obtain ⟨ep, dat⟩ := dof.dictAt
  obtain ⟨ob, es, at_a, ex, _, _, _, _⟩ := id dat
  refine ⟨"dict", "dict.values", F.plainAttrs_dict, F.slot_dict_values, F.type_dict_values, ⟨ob, at_a, ex.1⟩, fun b e => ?_, Calls.callWith_builtin rfl (PySem.evalArgs_none ?_)⟩
  · cases e
    exact ⟨ob, at_a, ex.2.1⟩
  refine call_meetsIn F.slot_dict_values ⟨ob, at_a, ex.1⟩ F.entry_dict_values (F.args_dict_values_1 _) (meets_dict_values (mixKind X.prog X.w) a nsys) ⟨⟨vs, dof⟩, ?_⟩
  refine ⟨.ref t.heap.objs.size, upd G t.heap.objs.size (ViewO t.heap.objs.size a), J.laid (t' := t.toks) (fun b o e => Heap.get?_push_of_some _ e) (Nat.le_refl _) ⟨Heap.get?_push_size _ rfl, ⟨_, Heap.get?_push_size _ rfl⟩, fun h1 h2 q k => k _ q⟩, rfl, q _ (J.hok.fresh (Nat.le_refl _))⟩
/-- in, not in, of a text and a view -/
def rInVals (neg : Bool) : R2 := fun x y H Q => ∃ (k : Str) (v d : Addr) (kvs : List (Key × V)) (ts : List Str), x = .str k ∧ y = .ref v ∧ H v = some (ViewO v d) ∧ Rd H d (.dK kvs) ∧ kvs.map (·.2) = ts.map V.str ∧ Q (.bl (if neg then !decide (k ∈ ts) else decide (k ∈ ts))) H
theorem view_in {pins : List (Addr × Obj)} {σ : L2.St} {H : Hp} {s : Shared} {k : Str} {tk : Tok} {v d : Addr} {kvs : List (Key × V)} {ts : List Str} {Q : Bool → Shared → Prop} {E : Value → Shared → Prop} (calm : X.calm = true) (I : Inv X pins σ H s) (hv : H v = some (ViewO v d)) (hd : Rd H d (.dK kvs)) (ht : kvs.map (·.2) = ts.map V.str)
    (go : ∀ s', Inv X pins σ H s' → Q (decide (k ∈ ts)) s') : wpAny (model X.prog X.w) X.A (contains (.ref v) (.str k tk)) Q E s := by
  have e1 : s.heap.get? v = some (vview d) := (I.hok v _ hv).1
  obtain ⟨_, nsys, vs, rel, dof⟩ := dk_rd I.hok hd
  obtain ⟨ep, dat⟩ := dof.dictAt
  have lv : ts.length = vs.length := by
    have e1 := congrArg List.length ht
    simp only [List.length_map] at e1
    rw [← e1, KV.length rel]
  refine contains_view (I.ok.hd calm) e1 dat ts lv (fun i key x hx => ?_) fun h' t' hk => go _ (I.kept (t' := t') hk)
  obtain ⟨y, h1, h2⟩ := KV.at' rel hx
  have e2 : (kvs.map (·.2))[i]? = some y := by
    rw [List.getElem?_map, h1]
    rfl
  rw [ht, List.getElem?_map] at e2
  obtain ⟨t, h3, rfl⟩ := Option.map_eq_some_iff.mp e2
  obtain ⟨u, e3⟩ := h2
  exact ⟨t, u, h3, e3⟩
theorem op_inVals (calm : X.calm = true) : OpR X (compareOp .In) (rInVals false) := by
  intro pins s σ H x y v u Q I rx ry h
  obtain ⟨k, vv, d, kvs, ts, rfl, rfl, hv, hd, ht, q⟩ := h
  obtain ⟨tk, rfl⟩ := rx
  cases ry
  show wpAny _ _ (do return Value.bool (← contains _ _)) _ _ s
  exact wpAny_bind (view_in calm I hv hd ht fun s' I' => wpAny_pure ⟨.bl _, H, I', rfl, q⟩)
theorem op_notInVals (calm : X.calm = true) : OpR X (compareOp .NotIn) (rInVals true) := by
  intro pins s σ H x y v u Q I rx ry h
  obtain ⟨k, vv, d, kvs, ts, rfl, rfl, hv, hd, ht, q⟩ := h
  obtain ⟨tk, rfl⟩ := rx
  cases ry
  show wpAny _ _ (do return Value.bool (!(← contains _ _))) _ _ s
  exact wpAny_bind (view_in calm I hv hd ht fun s' I' => wpAny_pure ⟨.bl _, H, I', rfl, q⟩)
/-- == and != of dicts of flat values -/
def deqV (ks ls : List (Key × V)) : Bool := decide (ks.length = ls.length) && ks.all fun e => match valV ls e.1 with | none => false | some w => eqV e.2 w
def rDeq (neg : Bool) : R2 := fun x y H Q => ∃ (a b : Addr) (ks ls : List (Key × V)), x = .ref a ∧ y = .ref b ∧ Rd H a (.dK ks) ∧ Rd H b (.dK ls) ∧ (∀ e ∈ ks, flatV e.2 = true) ∧ (∀ e ∈ ls, flatV e.2 = true) ∧ Q (.bl (if neg then !deqV ks ls else deqV ks ls)) H
theorem kv_val {ls : List (Key × V)} {vs : List (Key × Value)} (r : KV ls vs) (k : Key) : (valV ls k = none ∧ valueAt vs k = none) ∨ ∃ w y, valV ls k = some w ∧ valueAt vs k = some y ∧ RelV w y := by
  unfold KV at r
  induction r with
  | nil => exact .inl ⟨rfl, rfl⟩
  | @cons a b l1 l2 h t ih =>
    obtain ⟨e, h⟩ := h
    by_cases c : a.1 = k
    · refine .inr ⟨a.2, b.2, by simp [valV, c], ?_, h⟩
      have c2 : b.1 = k := e ▸ c
      simp [valueAt, c2]
    · have c2 : ¬ b.1 = k := fun z => c (e.trans z)
      have e1 : valV (a :: l1) k = valV l1 k := by simp [valV, c]
      have e2 : valueAt (b :: l2) k = valueAt l2 k := by simp [valueAt, c2]
      rw [e1, e2]
      exact ih
theorem val_mem {ls : List (Key × V)} {k : Key} {w : V} (h : valV ls k = some w) : ∃ e ∈ ls, e.2 = w := by
  unfold valV at h
  obtain ⟨e, he, rfl⟩ := Option.map_eq_some_iff.mp h
  exact ⟨e, List.mem_of_find?_eq_some he, rfl⟩
theorem hits_flat {A : Around} {s : Shared} {ls : List (Key × V)} {vs : List (Key × Value)} (r : KV ls vs) (fl : ∀ e ∈ ls, flatV e.2 = true) : ∀ {ks : List (Key × V)} {us : List (Key × Value)}, KV ks us → (∀ e ∈ ks, flatV e.2 = true) → PySem.W.KeqHits A s vs us (ks.all fun e => match valV ls e.1 with | none => false | some w => eqV e.2 w)
  | _, _, .nil, _ => .nil
  | (k, v) :: ks, (k', u) :: us, .cons h t, f => by
    obtain ⟨e, h⟩ := h
    simp only at e
    subst e
    have ih := hits_flat (A := A) (s := s) r fl t fun e he => f e (List.mem_cons_of_mem _ he)
    rw [List.all_cons]
    rcases kv_val r k with ⟨z1, z2⟩ | ⟨w, y, z1, z2, z3⟩
    · simp only [z1, Bool.false_and]
      exact .miss z2
    · simp only [z1]
      obtain ⟨e2, he2, rfl⟩ := val_mem z1
      exact .hit z2 (eqAt_V h z3 (f _ (List.mem_cons_self ..)) (fl e2 he2)) ih
theorem op_eqF (hu : X.A.units < cLine) : OpR X (compareOp .Eq) (rDeq false) := by
  intro pins s σ H x y v u Q I rx ry h
  obtain ⟨a, b, ks, ls, rfl, rfl, ea, eb, f1, f2, q⟩ := h
  obtain rfl : v = Value.ref a := rx
  obtain rfl : u = Value.ref b := ry
  obtain ⟨_, ya, va, ra, da⟩ := dk_rd I.hok ea
  obtain ⟨_, yb, vb, rb, db⟩ := dk_rd I.hok eb
  refine PySem.W.keq_eq (knd := mixKind X.prog X.w) ya yb da db hu (fun _ => hits_flat rb f2 ra f1) (fin_bl I q ?_)
  unfold deqV
  rw [← KV.length ra, ← KV.length rb]
  rfl
theorem op_neF (hu : X.A.units < cLine) : OpR X (compareOp .NotEq) (rDeq true) := by
  intro pins s σ H x y v u Q I rx ry h
  obtain ⟨a, b, ks, ls, rfl, rfl, ea, eb, f1, f2, q⟩ := h
  obtain rfl : v = Value.ref a := rx
  obtain rfl : u = Value.ref b := ry
  obtain ⟨_, ya, va, ra, da⟩ := dk_rd I.hok ea
  obtain ⟨_, yb, vb, rb, db⟩ := dk_rd I.hok eb
  refine PySem.W.keq_ne (knd := mixKind X.prog X.w) ya yb da db hu (fun _ => hits_flat rb f2 ra f1) (fin_bl I q ?_)
  unfold deqV
  rw [← KV.length ra, ← KV.length rb]
  rfl
end
end RU

set_option maxRecDepth 100000
set_option maxHeartbeats 4000000
namespace RP
open PySem PySem.Spec PyProof.Rows L2
open Rp (rp)
/-- flat values that == tells -/
class Fl (α : Type) [Rp α] extends Sc α where
  fl : ∀ x, flatV (v x) = true
  eqf : ∀ x y, eqV (v x) (v y) = true ↔ x = y
instance : Fl Int := ⟨fun _ => rfl, fun x y => beq_iff_eq⟩
instance : Fl Nat := ⟨fun _ => rfl, fun x y => by show ((x : Int) == (y : Int)) = true ↔ _; rw [beq_iff_eq]; omega⟩
instance : Fl Bool := ⟨fun _ => rfl, fun x y => beq_iff_eq⟩
instance : Fl Str := ⟨fun _ => rfl, fun x y => beq_iff_eq⟩
instance : Fl (Option Str) := ⟨fun o => by cases o <;> rfl, fun x y => by
  cases x <;> cases y
  · exact ⟨fun _ => rfl, fun _ => rfl⟩
  · exact ⟨fun z => absurd (show false = true from z) Bool.false_ne_true, fun z => nomatch z⟩
  · exact ⟨fun z => absurd (show false = true from z) Bool.false_ne_true, fun z => nomatch z⟩
  · rename_i a b
    show (a == b) = true ↔ _
    rw [beq_iff_eq, Option.some.injEq]⟩
def deqL {κ α : Type} [DecidableEq κ] [DecidableEq α] (l m : List (κ × α)) : Bool := decide (l.length = m.length) && l.all fun e => decide (lookD m e.1 = some e.2)
section
variable {Ps : Tbs} {B : Bs} {M L : Mu} {G G' : Gm} {K : PySem.W.Frag} {ta tb tc te td ty tv : TE} {t u : TS} {D : L2.Ends} {tt tu : TT} {R Ra Rb R' : VRel} {Rs : List VRel} {F H F' H' : Hp} {g : TG} {σ : L2.St} {k : L2.St → Hp → Prop} {α β κ : Type} [Rp α] [Rp β] [Ky κ] [Rp κ]
theorem Kvs.flat [Fl α] {kv : List (Key × V)} {l : List (κ × α)} (h : Kvs K F kv l) : ∀ e ∈ kv, flatV e.2 = true := by
  unfold Kvs at h
  induction h with
  | nil => exact fun _ z => nomatch z
  | @cons a b l1 l2 r _ ih =>
    intro e he
    rcases List.mem_cons.mp he with rfl | he
    · have := Sc.eq K F e.2 b.2 r.2
      rw [this]
      exact Fl.fl b.2
    · exact ih e he
theorem deq_is [Fl α] [DecidableEq κ] [DecidableEq α] {kv kw : List (Key × V)} {l m : List (κ × α)} (h : Kvs K F kv l) (h2 : Kvs K F kw m) : RU.deqV kv kw = deqL l m := by
  unfold RU.deqV deqL
  rw [Paired.length h, Paired.length h2]
  congr 1
  unfold Kvs at h
  induction h with
  | nil => rfl
  | @cons a b l1 l2 r _ ih =>
    rw [List.all_cons, List.all_cons, ih]
    congr 1
    have e1 := Sc.eq K F a.2 b.2 r.2
    rcases h2.val b.1 with ⟨z1, z2⟩ | ⟨x, v, z1, z2, z3⟩
    · rw [r.1, z2, z1]
      simp
    · rw [r.1, z2, z1]
      have e2 := Sc.eq K F v x z3
      rw [e1, e2, Bool.eq_iff_iff]
      show eqV (Sc.v b.2) (Sc.v x) = true ↔ _
      rw [Fl.eqf, decide_eq_true_iff, Option.some.injEq]
      exact eq_comm
theorem o2_deq [Fl α] [DecidableEq κ] [DecidableEq α] {l m : List (κ × α)} {neg : Bool} (h1 : Ds Ps M K Ra l) (h2 : Ds Ps M K Rb m) : O2 Ps M (RU.rDeq neg) Ra Rb (Is K (if neg then !deqL l m else deqL l m)) := fun F H v w Q s a b q => by
  obtain ⟨p, kv, rfl, e1, k1⟩ := h1 F H v s a
  obtain ⟨p', kw, rfl, e2, k2⟩ := h2 F H w s b
  exact ⟨p, p', kv, kw, rfl, rfl, e1, e2, k1.flat, k2.flat, q _ F H s.refl (by rw [deq_is k1 k2]; rfl)⟩
/-- a view of the values of the table at d -/
def Vw (d : Addr) : VRel := ⟨fun F v => ∃ a, v = .ref a ∧ F a = some (RU.ViewO a d), fun F F' v l ⟨a, e, h⟩ => ⟨a, e, l _ _ h⟩⟩
theorem Ev.vals {l : List (κ × α)} {d : Addr} (h : Ev Ps G M td (At d)) (hd : (d, DicM K l) ∈ M) : Ev Ps G M (RU.tVals td) (Vw d) := fun σ F H Q en s q => h σ F H _ en s fun v F1 H1 e1 r1 => by
  cases r1
  obtain ⟨o, h1, kv, rfl, p⟩ := (s.evo e1).mu _ hd
  exact ⟨d, kv, rfl, .inl h1, fun a ha => q _ _ _ (e1.trans ((s.evo e1).new ha)) ⟨a, rfl, upd_same⟩⟩
theorem Sub.view {a d : Addr} (s : Sub F H) (h : F a = some (RU.ViewO a d)) : H a = some (RU.ViewO a d) := by
  rcases s _ _ h with h | ⟨_, _, e, _⟩
  · exact h
  · unfold RU.ViewO at e
    cases e
theorem kvs_str {kv : List (Key × V)} {l : List (κ × Str)} (h : Kvs K F kv l) : kv.map (·.2) = (l.map (·.2)).map V.str := ps2_str (K := K) (F := F) (kvs_vals h)
theorem o2_inVals {l : List (κ × Str)} {d : Addr} {x : Str} {neg : Bool} (hd : (d, DicM K l) ∈ M) : O2 Ps M (RU.rInVals neg) (Is K x) (Vw d) (Is K (if neg then !decide (x ∈ l.map (·.2)) else decide (x ∈ l.map (·.2)))) := fun F H v w Q s a b q => by
  cases a
  obtain ⟨vv, rfl, hv⟩ := b
  obtain ⟨o, h1, kv, rfl, p⟩ := s.mu _ hd
  have ts : List Str := l.map (·.2)
  exact ⟨x, vv, d, kv, List.map (fun (e : κ × Str) => e.2) l, rfl, rfl, s.sub.view hv, .inl h1, kvs_str p, q _ F H s.refl rfl⟩
/-- sorted(d.values()), sum, list of them: a view walked as a list -/
theorem Sh.same {d : Addr} (s : Sh Ps M F H) : Evo Ps M F H F H := s.refl
end
end RP

set_option maxRecDepth 100000
set_option maxHeartbeats 4000000
/-! sorted(d.values()), texts -/
namespace RU
open PySem PySem.Spec PyProof.Rows L2
section
variable {X : Cx}
def rSortVals : List V → Hp → VK → Prop := fun xs H Q => ∃ (v d : Addr) (kvs : List (Key × V)) (ks : List Str), xs = [.ref v] ∧ H v = some (ViewO v d) ∧ Rd H d (.dK kvs) ∧ kvs.map (·.2) = ks.map V.str ∧ ks.length < 64 ∧
  ∀ (ys : List Str) (p : Addr), ys.Perm ks → sortedS ys = true → H p = none → Q (.ref p) (upd H p (.lst (ys.map V.str)))
theorem cr_sortVals (calm : X.calm = true) : CallR X (.builtin "sorted") rSortVals := by
  intro pins s σ H xs us Q I r q
  obtain ⟨v, d, kvs, ks, rfl, hv, hd, hks, few, q⟩ := q
  rw [Vals.ref1 r]
  have e1 : s.heap.get? v = some (vview d) := (I.hok v _ hv).1
  obtain ⟨z, lo, vs, rel, dd⟩ := dk_rd I.hok hd
  obtain ⟨ep, dat⟩ := dd.dictAt
  have lv : vs.length = ks.length := by
    have e1 := congrArg List.length hks
    simp only [List.length_map] at e1
    rw [← e1, KV.length rel]
  refine Calls.call_function_entry kind_sorted plain_sorted entry_sorted (args_sorted1 _) ?_
  unfold Builtin.«sorted»
  refine wpAny_bind (m := checkCount "sorted" 1 1 _) (wpAny_pure ?_)
  refine wpAny_bind (PySem.W.kdu_collect (A := X.A.in1) (PySem.W.kdl_values (knd := mixKind X.prog X.w) (r := v) (d := d) (kvs := vs) (ep := ep)) (I.ok.hd calm) ⟨⟨_, e1, rfl, rfl⟩, dat⟩ (by rw [lv, sizeLine_eq]; omega) fun h' tk acc keep got => ?_)
  have la : acc.toList.length = ks.length := by rw [Array.length_toList, got.1, lv]
  have tx : StrsAre acc.toList ks := strs_at la fun j x e => by
    obtain ⟨k, hk⟩ := got.2 j x (by rw [← Array.getElem?_toList]; exact e)
    obtain ⟨y, h1, h2⟩ := KV.at' rel hk
    have e2 : (kvs.map (·.2))[j]? = some y := by
      rw [List.getElem?_map, h1]
      rfl
    rw [hks, List.getElem?_map] at e2
    obtain ⟨t, h3, rfl⟩ := Option.map_eq_some_iff.mp e2
    obtain ⟨u, e3⟩ := h2
    exact ⟨t, u, h3, e3⟩
  have I1 : Inv X pins σ H { s with heap := h', toks := tk } := I.kept keep
  refine wpAny_bind (wpAny_newList ?_ (by rw [la, sizeLine_eq]; omega))
  have hoL : (h'.push (seqObj "list" acc.toList.toArray 0)).get? h'.objs.size = some (seqObj "list" acc.toList.toArray 0) := Heap.get?_push_size _ rfl
  show wpAny _ _ _ _ _ { s with heap := h'.push (seqObj "list" acc.toList.toArray 0), toks := tk }
  refine wpAny_bind (wpAny_holding (wpAny_call_entry slot_list_sort ⟨_, hoL, rfl⟩ entry_list_sort (list_sort_treeK strKind_oneLt (s := { s with heap := h'.push (seqObj "list" acc.toList.toArray 0), toks := tk }) hoL tx.keysOf (fun v1 v2 rest e => keyKind_strs (by rw [← e]; exact tx)) (by rw [la]; exact few) fun st' hp hs => ⟨_, rfl, ?_⟩) (args_list_sort _)))
  obtain ⟨ys, g3, g4, g5⟩ := sorted_out_str tx hp hs
  obtain ⟨c, hc⟩ := sortedHeap_at (vs := acc.toList) (out := (arrOf st').map (·.2)) hoL
  have ln : (ys.map V.str).length ≤ sizeLine := by rw [List.length_map, g4.length_eq, sizeLine_eq]; omega
  refine wpAny_pure ⟨_, rfl, .ref h'.objs.size, upd H h'.objs.size (.lst (ys.map V.str)), I1.laid (t' := tk) (fun b u e => ?_) (Nat.le_refl _) (show ObjOk X.prog X.w _ _ _ (.lst (ys.map V.str)) from ⟨ln, ((arrOf st').map (·.2)).toList, c, vals_of_strs g3, by rw [Array.toArray_toList]; exact hc⟩), rfl, q ys _ g4 g5 (I1.hok.fresh (Nat.le_refl _))⟩
  have lt : b < h'.objs.size := Heap.lt_size e
  rw [sortedHeap_old (Nat.ne_of_lt lt) (by rw [size_push']; exact Nat.lt_succ_of_lt lt)]
  exact Heap.get?_push_of_some _ e
end
end RU

set_option maxRecDepth 100000
set_option maxHeartbeats 4000000
/-! what changes on the way: expressions and tests that leave another M -/
namespace RP
open PySem PySem.Spec PyProof.Rows L2
open Rp (rp)
section
variable {Ps : Tbs} {B : Bs} {M M' L : Mu} {G G' : Gm} {K : PySem.W.Frag} {ta tb tc te td ty tv : TE} {t u : TS} {D : L2.Ends} {tt tu : TT} {R Ra Rb R' : VRel} {Rs : List VRel} {F H F' H' : Hp} {g : TG} {σ : L2.St} {k : L2.St → Hp → Prop} {α β κ : Type} [Rp α] [Rp β] [Ky κ] [Rp κ]
def EvS (Ps : Tbs) (B : Bs) (G : Gm) (M : Mu) (te : TE) (P : VRel → Mu → Prop) : Prop := ∀ (σ : L2.St) (F H : Hp) (Q : VK), Sa Ps B G M σ F H → (∀ (R : VRel) (M' : Mu) (v : V) (F' H' : Hp), P R M' → Sa Ps B G M' σ F' H' → Le F F' → R.R F' v → Q v H') → te σ H Q
def EtS (Ps : Tbs) (B : Bs) (G : Gm) (M : Mu) (tt : TT) (P : Bool → Mu → Prop) : Prop := ∀ (σ : L2.St) (F H : Hp) (Q : Bool → Hp → Prop), Sa Ps B G M σ F H → (∀ (b : Bool) (M' : Mu) (F' H' : Hp), P b M' → Sa Ps B G M' σ F' H' → Le F F' → Q b H') → tt σ H Q
theorem Ev.toS {P : VRel → Mu → Prop} (h : Ev Ps G M te R) (p : P R M) : EvS Ps B G M te P := fun σ F H Q s q => h σ F H Q s.en s.sh fun v F' H' e r => q R M v F' H' p (s.evo e) e.le r
theorem Et.toS {P1 : Bool → Prop} {P : Bool → Mu → Prop} (h : Et Ps G M tt P1) (p : ∀ b, P1 b → P b M) : EtS Ps B G M tt P := fun σ F H Q s q => h σ F H Q s.en s.sh fun b F' H' e r => q b M F' H' (p b r) (s.evo e) e.le
theorem EvS.opL {r : R2} {P P2 : VRel → Mu → Prop} (ha : EvS Ps B G M ta P) (h : ∀ Ra M', P Ra M' → ∃ Rb R, Ev Ps G M' tb Rb ∧ O2 Ps M' r Ra Rb R ∧ P2 R M') : EvS Ps B G M (tOp r ta tb) P2 := fun σ F H Q s q => ha σ F H _ s fun Ra M' v F1 H1 p s1 l1 r1 => by
  obtain ⟨Rb, R, hb, o, p2⟩ := h Ra M' p
  exact hb σ F1 H1 _ s1.en s1.sh fun w F2 H2 e2 r2 => o F2 H2 v w Q (s1.sh.evo e2) (Ra.mono _ _ _ e2.le r1) r2 fun z F3 H3 e3 r3 => q R M' z F3 H3 p2 ((s1.evo e2).evo e3) (l1.trans (e2.le.trans e3.le)) r3
theorem EtS.test {P : VRel → Mu → Prop} {P2 : Bool → Mu → Prop} (h : EvS Ps B G M te P) (k : ∀ R M', P R M' → ∃ b, R = Is K b ∧ P2 b M') : EtS Ps B G M (tTest te) P2 := fun σ F H Q s q => h σ F H _ s fun R M' v F1 H1 p s1 l1 r1 => by
  obtain ⟨b, rfl, p2⟩ := k R M' p
  exact ⟨b, r1, q b M' F1 H1 p2 s1 l1⟩
theorem EtS.or {P1 P : Bool → Mu → Prop} (h : EtS Ps B G M tt P1) (h1 : ∀ M', P1 true M' → P true M') (h2 : ∀ M', P1 false M' → EtS Ps B G M' tu P) : EtS Ps B G M (tOr tt tu) P := fun σ F H Q s q => h σ F H _ s fun b M' F1 H1 p s1 l1 => by
  cases b with
  | true => exact q true M' F1 H1 (h1 M' p) s1 l1
  | false => exact h2 M' p σ F1 H1 _ s1 fun b M2 F2 H2 p2 s2 l2 => q b M2 F2 H2 p2 s2 (l1.trans l2)
theorem Nx.iteS {P : Bool → Mu → Prop} (h : EtS Ps B G M tt P) (h1 : ∀ M', P true M' → Nx Ps B G M' (t D)) (h2 : ∀ M', P false M' → Nx Ps B G M' (u D)) : Nx Ps B G M (tIfS tt t u D) := fun σ F H s => h σ F H _ s fun b M' F' H' p s' _ => by
  cases b with
  | true => exact h1 M' p σ F' H' s'
  | false => exact h2 M' p σ F' H' s'
/-- a test that is false, as it must be -/
theorem Nx.ifF {P : Bool → Mu → Prop} (h : EtS Ps B G M tt P) (f : ∀ M', ¬ P true M') (h2 : ∀ M', P false M' → Nx Ps B G M' D.nx) : Nx Ps B G M (tIfS tt t tNext D) := Nx.iteS h (fun M' p => absurd p (f M')) h2
theorem Nx.ifFp {b : Bool} (h : Et Ps G M tt (· = b)) (f : b = false) (h2 : Nx Ps B G M D.nx) : Nx Ps B G M (tIfS tt t tNext D) := Nx.ite h (fun z => by rw [f] at z; cases z) fun _ => h2
theorem Nx.setS {P : VRel → Mu → Prop} {i : Nat} (h : EvS Ps B G M te P) (h2 : ∀ R M', P R M' → Nx Ps B (G.set i (some R)) M' D.nx) : Nx Ps B G M (tAsg te (gName i) D) := fun σ F H s => h σ F H _ s fun R M' v F' H' p s' _ r => h2 R M' p _ F' H' (s'.env (s'.en.set r))
theorem Nx.dropS {P : VRel → Mu → Prop} (h : EvS Ps B G M te P) (h2 : ∀ R M', P R M' → Nx Ps B G M' D.nx) : Nx Ps B G M (tDrop te D) := fun σ F H s => h σ F H _ s fun R M' v F' H' p s' _ _ => h2 R M' p σ F' H' s'
/-- a, b = x, y -/
theorem Nx.par {P : VRel → Mu → Prop} {P2 : VRel → VRel → Mu → Prop} {i j : Nat} (ha : EvS Ps B G M ta P) (hb : ∀ Ra M', P Ra M' → EvS Ps B G M' tb (fun Rb M'' => P2 Ra Rb M'')) (h2 : ∀ Ra Rb M', P2 Ra Rb M' → Nx Ps B ((G.set i (some Ra)).set j (some Rb)) M' D.nx) : Nx Ps B G M (tAsg (tTup (tCons ta (tCons tb tNil))) (gTup K 2 (gCons (gName i) (gCons (gName j) gNil))) D) := fun σ F H s =>
  ha σ F H _ s fun Ra M1 v F1 H1 p s1 l1 r1 => hb Ra M1 p σ F1 H1 _ s1 fun Rb M2 w F2 H2 p2 s2 l2 r2 => by
    refine ⟨by show 2 ≤ sizeLine; decide, fun a ha => ?_⟩
    have e := s2.sh.new (o := .tup [v, w]) ha
    refine ⟨a, _, rfl, SqT.of upd_same, rfl, v, [w], rfl, w, [], rfl, rfl, h2 Ra Rb M2 p2 _ _ _ ((s2.evo e).env (((s2.en.mono e.le).set (Ra.mono _ _ _ (l2.trans e.le) r1)).set (Rb.mono _ _ _ e.le r2)))⟩
/-- {} that may change -/
theorem EvS.newD {P : VRel → Mu → Prop} (p : ∀ a, P (At a) ((a, DicM K ([] : List (κ × α))) :: M)) : EvS Ps B G M tDNewK P := fun σ F H Q s q => fun a ha => q _ _ _ F _ (p a) (s.new (r := DicM K ([] : List (κ × α))) ha ⟨_, rfl, .nil⟩) (Le.refl F) rfl
theorem oc_sortVals {l : List (κ × Str)} {d : Addr} (hd : (d, DicM K l) ∈ M) (n : l.length < 64) : Oc Ps M RU.rSortVals [Vw d] (Exi K fun ys : List Str => ys.Perm (l.map (·.2)) ∧ sortedS ys = true) := fun F H vs Q s r q => by
  obtain ⟨v, ev, rr⟩ := rs1 r
  subst ev
  obtain ⟨a, rfl, hv⟩ := rr
  obtain ⟨o, h1, kv, rfl, p⟩ := s.mu _ hd
  exact ⟨a, d, kv, l.map (fun e => e.2), rfl, s.sub.view hv, .inl h1, kvs_str p, by rw [List.length_map]; exact n, fun ys p pm so hp => q _ _ _ (Evo.newL s (str_ps2 (K := K) ys) hp).1 ⟨ys, ⟨pm, so⟩, (Evo.newL s (str_ps2 (K := K) ys) hp).2⟩⟩
/-- d.get(k) -/
theorem Ev.dget1 [KyR κ] [DecidableEq κ] {l : List (κ × α)} {k : κ} (hd : Ev Ps G M td R) (hs : Ds Ps M K R l) (hk : Ev Ps G M ty (Is K k)) : Ev Ps G M (tDGet1 td ty) (Is K (lookD l k)) := fun σ F H Q en s q =>
  hd σ F H _ en s fun v F1 H1 e1 r1 => by
    obtain ⟨a, kv, rfl, h, p⟩ := hs F1 H1 v (s.evo e1) r1
    refine ⟨a, rfl, .inl ⟨kv, h⟩, hk σ F1 H1 _ (en.mono e1.le) (s.evo e1) fun w F2 H2 e2 r2 => ?_⟩
    have s2 := (s.evo e1).evo e2
    obtain ⟨a', kv', e', h, p⟩ := hs F2 H2 (.ref a) s2 (R.mono _ _ _ e2.le r1)
    cases e'
    refine ⟨_, .inl ⟨kv', Ky.key k, h, (KyR.r ..).mp r2, rfl⟩, q _ F2 H2 (e1.trans e2) ?_⟩
    rcases p.val k with ⟨z, z2⟩ | ⟨x, v, h1, h2, r⟩
    · rw [z, z2]; rfl
    · rw [h1, h2]; exact r
end
end RP

set_option maxRecDepth 100000
set_option maxHeartbeats 4000000
/-! fewer things that may change; calls that change; new tuples and lists seen at once -/
namespace RP
open PySem PySem.Spec PyProof.Rows L2
open Rp (rp)
section
variable {Ps : Tbs} {B : Bs} {M M' L : Mu} {G G' : Gm} {K : PySem.W.Frag} {ta tb tc te td ty tv : TE} {t u : TS} {D : L2.Ends} {tt tu : TT} {R Ra Rb R' : VRel} {Rs : List VRel} {F H F' H' : Hp} {g : TG} {σ : L2.St} {k : L2.St → Hp → Prop} {α β κ : Type} [Rp α] [Rp β] [Ky κ] [Rp κ]
theorem Sh.less (s : Sh Ps M F H) (h : M'.Sublist M) (ow : ∀ e ∈ M, e ∈ M' ∨ e.2.own = true) : Sh Ps M' F H :=
  ⟨s.sub, s.tb, s.fp, fun e he => s.mu e (h.subset he), fun e he => s.ow e (h.subset he), s.nd.sublist (h.map _), fun a kvs hF c => s.fz a kvs hF fun e he z => (ow e he).elim (fun y => c e y z) id⟩
theorem Sa.less (s : Sa Ps B G M σ F H) (h : M'.Sublist M) (ow : ∀ e ∈ M, e ∈ M' ∨ e.2.own = true) : Sa Ps B G M' σ F H :=
  ⟨s.en, s.sh.less h ow, s.le, s.keep, s.dom, s.nw, fun e he => s.mw e (h.subset he)⟩
theorem Nx.less (h : M'.Sublist M) (ow : ∀ e ∈ M, e ∈ M' ∨ e.2.own = true) (n : Nx Ps B G M' k) : Nx Ps B G M k := fun σ F H s => n σ F H (s.less h ow)
/-- all that stands in M is own -/
theorem ow_all (h : ∀ e ∈ M, e.2.own = true) : ∀ e ∈ M, e ∈ M' ∨ e.2.own = true := fun e he => .inr (h e he)
/-! ### arguments that change -/
def EaS (Ps : Tbs) (B : Bs) (G : Gm) (M : Mu) (ta : TA) (P : List VRel → Mu → Prop) : Prop := ∀ (σ : L2.St) (F H : Hp) (Q : List V → Hp → Prop), Sa Ps B G M σ F H → (∀ (Rs : List VRel) (M' : Mu) (vs : List V) (F' H' : Hp), P Rs M' → Sa Ps B G M' σ F' H' → Le F F' → RsOk F' Rs vs → Q vs H') → ta σ H Q
theorem Ea.toS {ta : TA} {P : List VRel → Mu → Prop} (h : Ea Ps G M ta Rs) (p : P Rs M) : EaS Ps B G M ta P := fun σ F H Q s q => h σ F H _ s.en s.sh fun vs F' H' e r => q Rs M vs F' H' p (s.evo e) e.le r
/-- what a call does to the state -/
def OcS (Ps : Tbs) (B : Bs) (G : Gm) (M : Mu) (r : List V → Hp → VK → Prop) (Rs : List VRel) (P : VRel → Mu → Prop) : Prop := ∀ (σ : L2.St) (F H : Hp) (vs : List V) (Q : VK), Sa Ps B G M σ F H → RsOk F Rs vs → (∀ (R : VRel) (M' : Mu) (v : V) (F' H' : Hp), P R M' → Sa Ps B G M' σ F' H' → Le F F' → R.R F' v → Q v H') → r vs H Q
theorem EvS.meth {a C : Addr} {fs : List (Str × V)} {m : Str} {sp : Sp} {E : XK} {t : TA} {P : VRel → Mu → Prop} (ho : Ev Ps G M ta (Obj a C fs)) (nm : fs.lookup m = none) (ha : Ea Ps G M t Rs) (o : OcS Ps B G M (fun vs H Q => sp (vs ++ []) H Q E) (Obj a C fs :: Rs) P) : EvS Ps B G M (tMeth C m sp [] E ta t) P := fun σ F H Q s q => ho σ F H _ s.en s.sh fun w F1 H1 e1 r1 => by
  obtain ⟨ew, dx, h⟩ := id r1
  have s1 := s.evo e1
  exact ⟨a, dx, fs, ew, s1.sh.sub.ins h, nm, ha σ F1 H1 _ s1.en s1.sh fun vs F2 H2 e2 r2 => o σ F2 H2 (w :: vs) Q (s1.evo e2) (.cons ((Obj a C fs).mono _ _ _ e2.le r1) r2) fun R M' v F' H' p s' le r => q R M' v F' H' p s' ((e1.le.trans e2.le).trans le) r⟩
theorem EvS.call {sp : Sp} {E : XK} {t : TA} {P : VRel → Mu → Prop} (ha : Ea Ps G M t Rs) (o : OcS Ps B G M (fun vs H Q => sp (vs ++ []) H Q E) Rs P) : EvS Ps B G M (tCall sp [] E t) P := fun σ F H Q s q => ha σ F H _ s.en s.sh fun vs F1 H1 e1 r1 => o σ F1 H1 vs Q (s.evo e1) r1 fun R M' v F' H' p s' le r => q R M' v F' H' p s' (e1.le.trans le) r
/-- dict(list of pairs), that may change -/
theorem EvS.dict [KyR κ] [DecidableEq κ] {xs : List (κ × α)} {t : TA} {P : VRel → Mu → Prop} (ha : Ea Ps G M t [Is K xs]) (hl : xs.length ≤ 10000) (uk : (xs.map (·.1)).Nodup) {r : List V → Hp → VK → Prop}
    (hr : ∀ F H vs Q, Sh Ps M F H → RsOk F [Is K xs] vs → (∀ l kv, H l = none → Kvs K F kv xs → Q (.ref l) (upd H l (.dK kv))) → r vs H Q) (p : ∀ a, P (At a) ((a, DicM K xs) :: M)) : EvS Ps B G M (tCB r t) P := fun σ F H Q s q => ha σ F H _ s.en s.sh fun vs F1 H1 e1 r1 =>
  hr F1 H1 vs Q (s.sh.evo e1) r1 fun l kv hl hk => q _ _ _ F1 _ (p l) ((s.evo e1).new (r := DicM K xs) hl ⟨kv, rfl, hk⟩) e1.le rfl
/-! ### what is new, frozen at once -/
def fzN (F H H' : Hp) : Hp := fun a => match H a with
  | none => (match H' a with
    | some (.tup vs) => some (.tup vs)
    | some (.lst vs) => some (.lst vs)
    | _ => none)
  | some _ => F a
theorem fzN_tup {a : Addr} {vs : List V} (h : H a = none) (h' : H' a = some (.tup vs)) : fzN F H H' a = some (.tup vs) := by unfold fzN; rw [h, h']
theorem fzN_lst {a : Addr} {vs : List V} (h : H a = none) (h' : H' a = some (.lst vs)) : fzN F H H' a = some (.lst vs) := by unfold fzN; rw [h, h']
theorem fzN_cases {a : Addr} {o : HO} (h : fzN F H H' a = some o) : (H a = none ∧ H' a = some o ∧ ∀ kvs, o ≠ .dK kvs) ∨ ((∃ u, H a = some u) ∧ F a = some o) := by
  unfold fzN at h
  cases e : H a with
  | some u => rw [e] at h; exact .inr ⟨⟨u, rfl⟩, h⟩
  | none =>
    rw [e] at h
    cases e' : H' a with
    | none => rw [e'] at h; cases h
    | some o' =>
      rw [e'] at h
      cases o' <;> first | (cases h; done) | (cases h; exact .inl ⟨rfl, rfl, fun _ z => nomatch z⟩)
theorem Evo.gwN {Ps0 : List Addr} {pT : Addr} {q : Str} (s : Sh (mkPs Ps0 pT q) M F H) (nP : pT ∉ Ps0) (g : Gw0 Ps0 H H') : Evo (mkPs Ps0 pT q) M F H (fzN F H H') H' := by
  have e := Evo.gw s nP g
  have le : Le F (fzN F H H') := fun a o h => by
    obtain ⟨u, hu⟩ := s.some_of h
    unfold fzN
    rw [hu]
    exact h
  refine ⟨le, fun a o h => ?_, e.keep, fun a o h => ?_, e.tb, fun x hx => ?_, fun a kvs h c => ?_⟩
  · rcases fzN_cases h with ⟨_, h', _⟩ | ⟨_, h'⟩
    · exact .inl h'
    · exact e.sub a o h'
  · rcases fzN_cases h with ⟨h', _, _⟩ | ⟨_, h'⟩
    · exact .inr h'
    · exact .inl h'
  · obtain ⟨o, h1, h2⟩ := e.mu x hx
    exact ⟨o, h1, x.2.mono _ _ _ le h2⟩
  · rcases fzN_cases h with ⟨_, _, n⟩ | ⟨_, h'⟩
    · exact absurd rfl (n _)
    · exact e.fz a kvs h' c
/-- behind a call that changed the object at d alone, all new tuples and lists seen -/
theorem Sa.gpN {Ps0 : List Addr} {pT : Addr} {q : Str} {j : Nat} {d : Addr} {r r' : MRel} {o : HO} (s : Sa (mkPs Ps0 pT q) B G M σ F H) (nP : pT ∉ Ps0) (hj : M[j]? = some (d, r)) (ow : r.own = true) (tb : ∀ P ∈ Ps0, GxR.TabG H' P) (keep : ∀ b o, b ∉ Ps0 → b ≠ d → H b = some o → H' b = some o) (hd : H' d = some o) (hr : r'.R F o) : ∃ F', Sa (mkPs Ps0 pT q) B G (M.set j (d, r')) σ F' H' ∧ Le F F' ∧ (∀ a vs, H a = none → H' a = some (.tup vs) → F' a = some (.tup vs)) ∧ (∀ a vs, H a = none → H' a = some (.lst vs) → F' a = some (.lst vs)) := by
  have hm : (d, r) ∈ M := List.mem_of_getElem? hj
  obtain ⟨o0, hd0, _⟩ := s.sh.mu _ hm
  have s1 := s.wr (r' := r') hj ow hr
  have g : Gw0 Ps0 (upd H d o) H' := ⟨tb, fun b u n h => by
    by_cases z : b = d
    · subst z
      rw [upd_same] at h
      rw [hd, Option.some.inj h]
    · rw [upd_ne z] at h
      exact keep b u n z h⟩
  have ex := Evo.gwN s1.sh nP g
  refine ⟨_, s1.evo ex, ex.le, fun a vs h h' => fzN_tup ?_ h', fun a vs h h' => fzN_lst ?_ h'⟩
  · rw [upd_ne (fun z => by rw [z, hd0] at h; cases h)]; exact h
  · rw [upd_ne (fun z => by rw [z, hd0] at h; cases h)]; exact h
theorem Sh.gwN {Ps0 : List Addr} {pT : Addr} {q : Str} (s : Sh (mkPs Ps0 pT q) M F H) (nP : pT ∉ Ps0) (g : Gw0 Ps0 H H') : ∃ F', Evo (mkPs Ps0 pT q) M F H F' H' ∧ (∀ a vs, H a = none → H' a = some (.tup vs) → F' a = some (.tup vs)) ∧ (∀ a vs, H a = none → H' a = some (.lst vs) → F' a = some (.lst vs)) :=
  ⟨_, Evo.gwN s nP g, fun _ _ h h' => fzN_tup h h', fun _ _ h h' => fzN_lst h h'⟩
end
end RP

set_option maxRecDepth 100000
set_option maxHeartbeats 4000000
namespace RP
open PySem PySem.Spec PyProof.Rows L2
open Rp (rp)
section
variable {Ps : Tbs} {B : Bs} {M M' L : Mu} {G G' : Gm} {K : PySem.W.Frag} {ta tb tc te td ty tv : TE} {t u : TS} {D : L2.Ends} {tt tu : TT} {R Ra Rb R' : VRel} {Rs : List VRel} {F H F' H' : Hp} {g : TG} {σ : L2.St} {k : L2.St → Hp → Prop} {α β κ : Type} [Rp α] [Rp β] [Ky κ] [Rp κ]
theorem putD_new [DecidableEq κ] {l : List (κ × α)} {k : κ} {x : α} (h : k ∉ l.map (·.1)) : putD l k x = l ++ [(k, x)] := by
  unfold putD
  rw [if_neg]
  intro z
  obtain ⟨e, he, z⟩ := List.any_eq_true.mp z
  exact h (List.mem_map.mpr ⟨e, he, of_decide_eq_true z⟩)
theorem mergeD_nodup [DecidableEq κ] {l : List (κ × α)} (h : (l.map (·.1)).Nodup) : mergeD l = l := by
  have : ∀ (l acc : List (κ × α)), ((acc ++ l).map (·.1)).Nodup → l.foldl (fun acc e => putD acc e.1 e.2) acc = acc ++ l := by
    intro l
    induction l with
    | nil => intro acc _; simp
    | cons e r ih =>
      intro acc hn
      rw [List.foldl_cons, putD_new, ih]
      · simp
      · simpa using hn
      · intro z
        rw [List.map_append, List.map_cons] at hn
        exact (List.nodup_append.mp hn).2.2 _ z _ (List.mem_cons_self ..) rfl
  exact this l [] h
theorem EvS.dictP [KyR κ] [DecidableEq κ] {xs : List (κ × α)} {t : TA} {P : VRel → Mu → Prop} (ha : Ea Ps G M t [Is K xs]) (uk : (xs.map (·.1)).Nodup) (p : ∀ a, P (At a) ((a, DicM K xs) :: M)) :
    EvS Ps B G M (tCB (fun vs H Q => ∃ (a : Addr) (ps : List Addr) (kvs : List (Key × V)), vs = [.ref a] ∧ SqL K H a (ps.map V.ref) ∧ Paired (fun p kv => SqT K H p [kV kv.1, kv.2]) ps kvs ∧
    ∀ p, H p = none → Q (.ref p) (upd H p (.dK (mergeK [] kvs)))) t) P := fun σ F0 H0 Q s0 q => ha σ F0 H0 _ s0.en s0.sh fun vs F H e1 r => by
  have s := (s0.evo e1).sh
  obtain ⟨v, ev, rr⟩ := rs1 r
  subst ev
  replace r := rr
  clear rr
  obtain ⟨a, ws, rfl, h1, p2⟩ := Ls.fz F H v s r
  obtain ⟨ps, kvs, e1', e2, e3⟩ : ∃ (ps : List Addr) (kvs : List (Key × V)), ps.map V.ref = ws ∧ Paired (fun p kv => F p = some (.tup [kV kv.1, kv.2])) ps kvs ∧ Kvs K F kvs xs := by
    clear h1 r q uk p ha
    unfold Ps2 at p2
    induction p2 with
    | nil => exact ⟨[], [], rfl, .nil, .nil⟩
    | @cons v x vs xs h t ih =>
      obtain ⟨ps, kvs, h1, h2, h3⟩ := ih
      obtain ⟨b, u, w, rfl, hb, hu, hw⟩ := h
      have hu := (KyR.r ..).mp hu
      subst hu
      exact ⟨b :: ps, (Ky.key x.1, w) :: kvs, by rw [List.map_cons, h1], .cons hb h2, .cons ⟨rfl, hw⟩ h3⟩
  refine ⟨a, ps, kvs, rfl, SqL.of (by rw [e1']; exact h1), ?_, fun b hb => ?_⟩
  · clear e1' e3
    induction e2 with
    | nil => exact .nil
    | cons h _ ih => exact .cons (SqT.of (s.sub.tup h)) ih
  · have : ∀ (kvs : List (Key × V)) (xs : List (κ × α)) (acc : List (Key × V)) (acc' : List (κ × α)), Kvs K F kvs xs → Kvs K F acc acc' → Kvs K F (kvs.foldl (fun acc kv => putK acc kv.1 kv.2) acc) (xs.foldl (fun acc e => putD acc e.1 e.2) acc') := by
      intro kvs xs acc acc' h
      unfold Kvs at h
      induction h generalizing acc acc' with
      | nil => exact fun h => h
      | @cons x y l1 l2 r t ih =>
        intro h
        rw [List.foldl_cons, List.foldl_cons]
        refine ih _ _ ?_
        rw [r.1]
        exact h.put r.2
    have k := this kvs xs [] [] e3 .nil
    have k2 : Kvs K F (mergeK [] kvs) xs := by
      have e := mergeD_nodup uk
      unfold mergeD at e
      rw [e] at k
      exact k
    exact q (At b) ((b, DicM K xs) :: M) _ F _ (p b) ((s0.evo e1).new (r := DicM K xs) hb ⟨_, rfl, k2⟩) e1.le rfl
end
end RP

set_option maxRecDepth 100000
set_option maxHeartbeats 4000000
namespace RP
open PySem PySem.Spec PyProof.Rows L2
open Rp (rp)
section
variable {Ps : Tbs} {B : Bs} {M M' L : Mu} {G G' : Gm} {K : PySem.W.Frag} {ta tb tc te td ty tv : TE} {t u : TS} {D : L2.Ends} {tt tu : TT} {R Ra Rb R' : VRel} {Rs : List VRel} {F H F' H' : Hp} {g : TG} {σ : L2.St} {k : L2.St → Hp → Prop} {α β κ : Type} [Rp α] [Rp β] [Ky κ] [Rp κ] {wi : TI} {n : Nat} {Rt : Nat → VRel} {sl : List Nat}
theorem O2.exi {r : R2} {p : α → Prop} (h : ∀ x, p x → O2 Ps M r (Is K x) Rb R) : O2 Ps M r (Exi K p) Rb R := fun F H v w Q s ⟨x, px, rx⟩ b q => h x px F H v w Q s rx b q
theorem O2.imp {r : R2} (h : O2 Ps M r Ra Rb R) (k : ∀ F v, R.R F v → R'.R F v) : O2 Ps M r Ra Rb R' := fun F H v w Q s a b q => h F H v w Q s a b fun z F' H' e rr => q z F' H' e (k _ _ rr)
theorem O2.bl {r : R2} {b : Bool} {p : Bool → Prop} (h : O2 Ps M r Ra Rb (Is K b)) (hp : p b) : O2 Ps M r Ra Rb (BlP p) := h.imp fun _ _ e => ⟨b, e, hp⟩
theorem Et.of {p : Bool → Prop} (h : Ev Ps G M te (BlP p)) : Et Ps G M (tTest te) p := Et.test h
theorem Oc.exi {r : List V → Hp → VK → Prop} {p : α → Prop} (h : ∀ x, p x → Oc Ps M r [Is K x] R) : Oc Ps M r [Exi K p] R := fun F H vs Q s rr q => by
  obtain ⟨v, rfl, x, px, rx⟩ := rs1 rr
  exact h x px F H [v] Q s (.cons rx .nil) q
theorem Oc.exi2 {r : List V → Hp → VK → Prop} {p : α → Prop} (h : ∀ x, p x → Oc Ps M r [Ra, Is K x] R) : Oc Ps M r [Ra, Exi K p] R := fun F H vs Q s rr q => by
  obtain ⟨v, w, rfl, r1, x, px, rx⟩ := rs2 rr
  exact h x px F H [v, w] Q s (.cons r1 (.cons rx .nil)) q
theorem GLe.nil : GLe [] [] := ⟨rfl, fun i R' e => by simp at e⟩
theorem GLe.keep {a : Option VRel} (h : GLe G G') : GLe (a :: G) (a :: G') := ⟨congrArg Nat.succ h.1, fun i R' e => by
  cases i with
  | zero => exact ⟨R', e, fun _ _ h => h⟩
  | succ i => exact h.2 i R' e⟩
theorem GLe.drop {a : Option VRel} (h : GLe G G') : GLe (a :: G) (none :: G') := ⟨congrArg Nat.succ h.1, fun i R' e => by
  cases i with
  | zero => cases e
  | succ i => exact h.2 i R' e⟩
/-- what is walked may have come with things that change -/
def EiS (Ps : Tbs) (B : Bs) (G : Gm) (M L : Mu) (wi : TI) (n : Nat) (Rs : Nat → VRel) (P : Mu → Prop) : Prop := ∀ (σ : L2.St) (F H : Hp) (R : It → Hp → Prop), Sa Ps B G M σ F H → (∀ J M1 F1 H1, P M1 → Sa Ps B G M1 σ F1 H1 → Wk Ps L F1 J n Rs → R J H1) → wi σ H R
theorem EvS.walkL {xs : List α} {P : VRel → Mu → Prop} {P2 : Mu → Prop} (h : EvS Ps B G M te P) (k : ∀ R M', P R M' → R = Is K xs ∧ P2 M') : EiS Ps B G M [] (iList K te) xs.length (Nth K xs) P2 := fun σ F H R s q => h σ F H _ s fun Rr M1 v F1 H1 p s1 l1 r1 => by
  obtain ⟨rfl, p2⟩ := k Rr M1 p
  obtain ⟨a, vs, ev, hF, hp⟩ := r1
  subst ev
  have ln := Paired.length hp
  refine ⟨a, rfl, ⟨vs, SqL.of (s1.sh.sub.lst hF)⟩, q _ M1 F1 H1 p2 s1 ⟨fun _ i F' H' _ hi l s' => ?_, fun _ F' H' _ l s' => ?_, fun _ i F' H' x H'' _ hi l s' y => ?_⟩⟩
  · exact ⟨vs, vs[i], SqL.of (s'.sub.lst (l _ _ hF)), by simp [show i < vs.length by omega]⟩
  · exact ⟨vs, SqL.of (s'.sub.lst (l _ _ hF)), by omega⟩
  · obtain ⟨rfl, y⟩ := y
    have := y vs (SqL.of (s'.sub.lst (l _ _ hF)))
    exact ⟨F', s'.refl, xs[i], by simp [hi], Rp.mono K _ _ _ _ l (Paired.get? hp this (by simp [hi]))⟩
theorem Nx.for1 {γ δ : Type} {Pm : Mu → Prop} (hi : EiS Ps B G M L wi n Rt Pm) (Iv : Nat → δ → Prop) (Gf : Nat → δ → Gm) (Mf : Nat → δ → Mu) (hL : ∀ i c, Iv i c → ∀ e ∈ L, e ∈ Mf i c) (Pg : Nat → γ → Prop) (Rg : Nat → γ → VRel) (hx : ∀ i, i < n → ∀ F v, (Rt i).R F v → ∃ c, Pg i c ∧ (Rg i c).R F v)
    (h0 : ∀ M1, Pm M1 → ∃ c0, Iv 0 c0 ∧ GLe G (Gf 0 c0) ∧ M1 = Mf 0 c0) (Gb : Nat → δ → γ → Gm) (hg : ∀ i c x, i < n → Iv i c → Pg i x → Eg Ps (Gf i c) (Mf i c) g (Rg i x) (Gb i c x) sl)
    (hb : ∀ B', BLe Ps B' B → ∀ i c x, i < n → Iv i c → Pg i x → ∀ N : L2.St → Hp → Prop, (∀ c', Iv (i + 1) c' → Nx Ps B' (Gf (i + 1) c') (Mf (i + 1) c') N) → Nx Ps B' (Gb i c x) (Mf i c) (t { D with nx := N, ct := N, bk := D.nx }))
    (hd : ∀ c, Iv n c → Nx Ps B (Gf n c) (Mf n c) D.nx) : Nx Ps B G M (tFor wi g t D) := fun σ F H s => hi σ F H _ s fun J M1 F1 H1 pm s1 wk => by
  have dn := BLe.up s1
  obtain ⟨c0, i0, g0, m0⟩ := h0 M1 pm
  refine ⟨fun i m σ' H' => m = n - i ∧ i ≤ n ∧ ∃ c F', Iv i c ∧ Sa Ps ⟨F1, B.H0, B.W⟩ (Gf i c) (Mf i c) σ' F' H', ⟨n, rfl, Nat.zero_le _, c0, F1, i0, by
    have := s1.up.env (s1.en.le g0)
    rw [m0] at this
    exact this⟩, ?_⟩
  rintro i m σ' H' ⟨rfl, hin, c, F', iv, s2⟩
  by_cases hlt : i < n
  · refine .inr ⟨wk.goes _ i F' H' (hL i c iv) hlt s2.le s2.sh, fun σ'' H'' => ∃ c F', Iv (i + 1) c ∧ Sa Ps ⟨F1, B.H0, B.W⟩ (Gf (i + 1) c) (Mf (i + 1) c) σ'' F' H'', fun σ'' H'' h => ⟨n - (i + 1), by omega, rfl, hlt, h⟩, fun x H3 y => ?_⟩
    obtain ⟨F3, e3, r3⟩ := wk.yields _ i F' H' x H3 (hL i c iv) hlt s2.le s2.sh y
    obtain ⟨q, pq, rq⟩ := hx i hlt F3 x r3
    have s3 := s2.evo e3
    exact hg i c q hlt iv pq x σ' F3 H3 _ s3.en s3.sh rq fun σ4 en _ _ => hb _ dn i c q hlt iv pq _ (fun c' iv' σ5 F5 H5 s5 => ⟨c', F5, iv', s5⟩) σ4 F3 H3 (s3.env en)
  · have ei : i = n := by omega
    subst ei
    exact .inl ⟨wk.stops _ F' H' (hL i c iv) s2.le s2.sh, hd c iv σ' F' H' (dn _ _ _ _ _ s2)⟩
/-- range(n), n one of those -/
theorem EvS.walkR1 {p : Int → Prop} {ta : TA} (h : Ea Ps G M ta [Exi K p]) (hp : ∀ n, p n → -(2 ^ 62) ≤ n ∧ n < 2 ^ 62) {t : TS} {g : TG} (k : ∀ j, p j → ∀ t0 : TI, Ei Ps G M [] t0 j.toNat (fun i => Is K (i : Int)) → Nx Ps B G M (tFor t0 g t D)) : Nx Ps B G M (tFor (iRng1 ta) g t D) := fun σ F H s => h σ F H _ s.en s.sh fun vs F1 H1 e1 r1 => by
  obtain ⟨v, rfl, j, pj, hv⟩ := rs1 r1
  cases hv
  refine ⟨j, rfl, (hp j pj).1, (hp j pj).2, ?_⟩
  have s1 := s.evo e1
  exact k j pj (fun σ H R => R (Itr 0 j.toNat) H) (fun σ F H R e s q => q _ F H s.refl ⟨fun _ i F' H' _ hi l s' => hi, fun _ F' H' _ l s' => Nat.le_refl _, fun _ i F' H' x H'' _ hi l s' y => by
    obtain ⟨rfl, rfl⟩ := y
    exact ⟨F', s'.refl, by show V.int (0 + (i : Int)) = V.int (i : Int); rw [Int.zero_add]⟩⟩) σ F1 H1 s1
end
end RP

set_option maxRecDepth 100000
set_option maxHeartbeats 4000000
namespace RP
open PySem PySem.Spec PyProof.Rows L2
open Rp (rp)
section
variable {Ps : Tbs} {B : Bs} {M M' L : Mu} {G G' : Gm} {K : PySem.W.Frag} {ta tb tc te td ty tv : TE} {t u : TS} {D : L2.Ends} {tt tu : TT} {R Ra Rb R' : VRel} {Rs : List VRel} {F H F' H' : Hp} {g : TG} {σ : L2.St} {k : L2.St → Hp → Prop} {α β κ : Type} [Rp α] [Rp β] [Ky κ] [Rp κ] {wi : TI} {n : Nat} {Rt : Nat → VRel} {sl : List Nat}
theorem Ev.pair {x : α} {y : β} (ha : Ev Ps G M ta (Is K x)) (hb : Ev Ps G M tb (Is K y)) : Ev Ps G M (tTup (tCons ta (tCons tb tNil))) (Is K (x, y)) := Ev.tup (Ea.cons ha (Ea.cons hb Ea.nil)) (show 2 ≤ 100 by decide) fun F p vs h r => by
  obtain ⟨v, w, rfl, h1, h2⟩ := rs2 r
  exact ⟨p, v, w, rfl, h, h1, h2⟩
theorem Ea.like {t : TA} {Rs : List VRel} {xs : List α} (h : Ea Ps G M t Rs) (hR : Rs = xs.map fun x => Is K x) : ∀ {F : Hp} {vs : List V}, RsOk F Rs vs → Ps2 K F vs xs := by
  subst hR
  intro F vs r
  clear h
  unfold RsOk at r
  unfold Ps2
  revert vs
  induction xs with
  | nil => intro vs r; cases r; exact .nil
  | cons x l ih =>
    intro vs r
    cases r with
    | cons a t => exact .cons a (ih t)
/-- a list, a tuple written out, of like things -/
theorem Ev.lstL {t : TA} {xs : List α} (h : Ea Ps G M t (xs.map fun x => Is K x)) (l : xs.length ≤ 100) : Ev Ps G M (tLst t) (Is K xs) := Ev.lst h (by rw [List.length_map]; exact l) fun F p vs e r => ⟨p, vs, rfl, e, Ea.like h rfl r⟩
theorem Ev.tupL {t : TA} {xs : List α} (h : Ea Ps G M t (xs.map fun x => Is K x)) (l : xs.length ≤ 100) : Ev Ps G M (tTup t) (Is K (Tl.mk xs)) := Ev.tup h (by rw [List.length_map]; exact l) fun F p vs e r => ⟨p, vs, rfl, SqT.of e, Ea.like h rfl r⟩
theorem Ds.atk {a : Addr} {od : PySem.Obj} {kv : List (Key × V)} {l : List (κ × α)} (hM : (a, lkM od kv) ∈ M) : Ds Ps M K (AtK K a kv l) l := fun F H v s ⟨e, h⟩ => by
  obtain ⟨o, h1, rfl⟩ := s.mu _ hM
  exact ⟨a, kv, e, .inr ⟨od, h1⟩, h⟩
theorem range_take {i n : Nat} (h : i < n) : (List.range n)[i]? = some i := by rw [List.getElem?_range h]
/-- [e for k in range(n) if tt] -/
theorem Ev.lcRf {j : Int} {i : Nat} {t : TA} (h : Ea Ps G M t [Is K j]) (h0 : 0 ≤ j) (hn : j ≤ 100000) {p : Nat → Bool} {f : Nat → β}
    (ht : ∀ k : Nat, (k : Int) < j → Et Ps ((wipeG G [i]).set i (some (Is K (k : Int)))) M tt (· = p k)) (he : ∀ k : Nat, (k : Int) < j → p k = true → Ev Ps ((wipeG G [i]).set i (some (Is K (k : Int)))) M te (Is K (f k))) :
    Ev Ps G M (tLc (iRng1 t) (gName i) tt te [i]) (Is K (((List.range j.toNat).filter p).map f)) := by
  have := Ev.lc0 (K := K) (β := β) (γ := Unit) (Ei.range1 h ⟨by omega, by omega⟩) (fun _ h => nomatch h) (by omega) (fun _ _ => True) (fun i _ => Is K (i : Int)) (fun i _ F v r => ⟨(), trivial, r⟩) (fun k _ => (wipeG G [i]).set i (some (Is K (k : Int)))) (fun k _ _ _ => Eg.name) (fun k hk => hk) (P := fun k _ b => b = p k) (fun k _ hk _ => ht k (by omega)) (Pe := fun k _ y => y = f k)
    (fun k _ hk _ pb => (he k (by omega) pb.symm).exi rfl) (fun i ys => ys = (((List.range j.toNat).take i).filter p).map f) rfl (fun k _ ys y hk _ pb py pr => ?_) (fun k _ ys hk _ pb pr => ?_)
  · refine this.imp fun F v ⟨ys, e, r⟩ => ?_
    rw [List.take_of_length_le (by rw [List.length_range]; exact Nat.le_refl _)] at e
    subst e
    exact r
  · rw [filter_take (range_take hk), if_pos pb.symm, List.map_append, ← pr, py]
    rfl
  · rw [filter_take (range_take hk), if_neg (by rw [← pb]; exact Bool.false_ne_true), List.append_nil, ← pr]
end
end RP

set_option maxRecDepth 100000
set_option maxHeartbeats 4000000
namespace RP
open PySem PySem.Spec PyProof.Rows L2
open Rp (rp)
instance {α : Type} [DecidableEq α] : DecidableEq (Tl α) := fun x y => decidable_of_iff (x.l = y.l) ⟨fun h => by cases x; cases y; exact congrArg Tl.mk h, fun h => by rw [h]⟩
section
variable {Ps : Tbs} {B : Bs} {M M' L : Mu} {G G' : Gm} {K : PySem.W.Frag} {ta tb tc te td ty tv : TE} {t u : TS} {D : L2.Ends} {tt tu : TT} {R Ra Rb R' : VRel} {Rs : List VRel} {F H F' H' : Hp} {g : TG} {σ : L2.St} {k : L2.St → Hp → Prop} {α β κ : Type} [Rp α] [Rp β] [Ky κ] [Rp κ] {wi : TI} {n : Nat} {Rt : Nat → VRel} {sl vs : List Nat}
/-- a test that comes out false -/
theorem Et.isF {b : Bool} (h : Ev Ps G M te (Is K b)) (e : b = false) : Et Ps G M (tTest te) (· = false) := (Et.is h).imp fun c z => by rw [z, e]
theorem Et.isT {b : Bool} (h : Ev Ps G M te (Is K b)) (e : b = true) : Et Ps G M (tTest te) (· = true) := (Et.is h).imp fun c z => by rw [z, e]
theorem Et.orF (h : Et Ps G M tt (· = false)) (h2 : Et Ps G M tu (· = false)) : Et Ps G M (tOr tt tu) (· = false) := Et.or h (fun z => by cases z) fun _ => h2
theorem Nx.noIf (h : Et Ps G M tt (· = false)) (h2 : Nx Ps B G M D.nx) : Nx Ps B G M (tIfS tt t tNext D) := Nx.ite h (fun z => by cases z) fun _ => h2
theorem Ev.exiIs {p : α → Prop} {y : α} (h : Ev Ps G M te (Exi K p)) (e : ∀ x, p x → x = y) : Ev Ps G M te (Is K y) := h.imp fun F v ⟨x, px, r⟩ => by
  rw [e x px] at r
  exact r
theorem Ev.natI {n : Nat} (h : Ev Ps G M te (Is K n)) : Ev Ps G M te (Is K (n : Int)) := h.imp fun _ _ r => r
theorem ne_self {α : Type} [DecidableEq α] {x y : α} (e : x = y) : (!decide (x = y)) = false := by rw [e]; simp
/-- [x for x in xs if ..], whatever the test says -/
theorem Ev.lcSub {xs : List α} (hi : Ei Ps G M L wi xs.length (Nth K xs)) (hL : ∀ e ∈ L, e ∈ M) (hn : xs.length ≤ 100000) (Gb : α → Gm)
    (hg : ∀ x ∈ xs, Eg Ps (wipeG G vs) M g (Is K x) (Gb x) sl) (hsl : ∀ k ∈ sl, k ∈ vs) (ht : ∀ x ∈ xs, Et Ps (Gb x) M tt fun _ => True) (he : ∀ x ∈ xs, Ev Ps (Gb x) M te (Is K x)) : Ev Ps G M (tLc wi g tt te vs) (Exi K fun ys : List α => ys.Sublist xs) := by
  have h := Ev.lc0 (K := K) (β := α) (γ := α) hi hL hn (fun i x => xs[i]? = some x) (fun _ x => Is K x) (fun i _ F v r => r) (fun _ x => Gb x) (fun i x _ hx => hg x (mem_of? hx)) hsl (P := fun _ x b => True) (fun i x _ hx => ht x (mem_of? hx)) (Pe := fun _ x y => y = x)
    (fun i x _ hx pb => (he x (mem_of? hx)).exi rfl) (fun i ys => ys.Sublist (xs.take i)) (List.Sublist.refl _) (fun i x ys y _ hx pb py pr => ?_) (fun i x ys _ hx pb pr => ?_)
  · refine h.imp fun F v ⟨ys, e, r⟩ => ⟨ys, ?_, r⟩
    rw [List.take_length] at e
    exact e
  · rw [List.take_add_one, hx, py]
    exact pr.append (List.Sublist.refl _)
  · rw [List.take_add_one, hx]
    exact pr.trans (List.sublist_append_left _ _)
theorem o2_ixTx {xs : List α} {P : Int → Prop} (e : ∀ i, P i → 0 ≤ i ∧ i < xs.length) : O2 Ps M (rIxT K) (Is K (Tl.mk xs)) (Exi K P) (Exi K (· ∈ xs)) := fun F H v w Q s a ⟨i, hi, b⟩ q => by
  obtain ⟨h1, h2⟩ := e i hi
  have hj : i.toNat < xs.length := by omega
  have hx : xs[i.toNat]? = some xs[i.toNat] := List.getElem?_eq_getElem hj
  have ha : atI xs i = some xs[i.toNat] := by
    have := atI_nat (j := i.toNat) hx
    rw [show ((i.toNat : Nat) : Int) = i by omega] at this
    exact this
  exact o2_ixT (K := K) (x := xs[i.toNat]) (R := Is K (Tl.mk xs)) Tl.st ha F H v w Q s a b fun z F' H' ev r => q z F' H' ev ⟨_, List.getElem_mem hj, r⟩
theorem EtS.orF {P : Bool → Mu → Prop} {P1 : Mu → Prop} (h : EtS Ps B G M tt fun b M' => b = false ∧ P1 M') (h2 : ∀ M', P1 M' → EtS Ps B G M' tu P) : EtS Ps B G M (tOr tt tu) P := EtS.or h (fun M' z => nomatch z.1) fun M' z => h2 M' z.2
/-- a test of something that changes the state, false -/
theorem EtS.isF {P1 : Mu → Prop} {b : Bool} (h : EvS Ps B G M te fun R M' => R = Is K b ∧ P1 M') (e : b = false) : EtS Ps B G M (tTest te) fun b M' => b = false ∧ P1 M' := EtS.test h fun R M' z => ⟨b, z.1, e, z.2⟩
theorem Et.toSF {P1 : Mu → Prop} (h : Et Ps G M tt (· = false)) (p : P1 M) : EtS Ps B G M tt fun b M' => b = false ∧ P1 M' := h.toS fun b e => ⟨e, p⟩
theorem Nx.noIfS {P1 : Mu → Prop} (h : EtS Ps B G M tt fun b M' => b = false ∧ P1 M') (h2 : ∀ M', P1 M' → Nx Ps B G M' D.nx) : Nx Ps B G M (tIfS tt t tNext D) := Nx.ifF h (fun M' z => nomatch z.1) fun M' z => h2 M' z.2
theorem EvS.opR {r : R2} {P1 : Mu → Prop} {y : VRel} (ha : EvS Ps B G M ta fun R M' => R = Ra ∧ P1 M') (hb : ∀ M', P1 M' → Ev Ps G M' tb Rb) (o : ∀ M', P1 M' → O2 Ps M' r Ra Rb y) : EvS Ps B G M (tOp r ta tb) fun R M' => R = y ∧ P1 M' := EvS.opL ha fun R M' h => ⟨Rb, y, hb M' h.2, by rw [h.1]; exact o M' h.2, rfl, h.2⟩
end
end RP

set_option maxRecDepth 100000
set_option maxHeartbeats 4000000
namespace K3
open PySem PySem.Spec PyProof.Rows L2
open XT (Sm pe_msg)
open SkE (pmk_own1)
open LamX (Tabs TabS CodeO ExtN codeO_ne)
def topS (i : Nat) : Stmt := PySem.Challenge.pw_keepwright_k03_pieces_by_names.main.body.getD i (.Pass ⟨0, 0, 0, 0⟩)
local macro_rules | `(tactic| walk_at "ev3") => `(tactic| simp only [tSeq, tIfS, tNot, XT.tChain3, rI0, tC, tVar, tRet, tTup, tLst, tCons, tNil, tJs, tFmt, tNext, tTest, tOp, tUn, rI, rU, tCall, tCB, tAnd, tOr, tB, tDrop, tAsg, gName, tAug, tPar, ipI, tBM, rAppend, tSl, rSlS, tPart, tNoPart, tIf, tM1, rEq, rNe, tFld, tMeth, tMake, L2.start, List.map_cons, List.map_nil, List.length_cons, List.length_nil, Nat.reduceAdd, Nat.reduceSub, Nat.sub_self, List.replicate_zero, List.append_nil, List.replicate_succ, List.cons_append, List.nil_append,
  List.getElem?_cons_zero, List.getElem?_cons_succ, Option.some.injEq, exists_eq_left', exists_eq_left, V.int.injEq, V.str.injEq, V.bl.injEq, V.ref.injEq, List.set_cons_zero, List.set_cons_succ, List.cons.injEq, and_true, true_and, reduceCtorEq, false_and, exists_false, false_or, or_false, exists_and_left, and_assoc, decide_eq_true_eq, Bool.not_eq_true', decide_eq_false_iff_not, Bool.not_false, Bool.not_true, if_true, if_false, Bool.false_eq_true, ↓reduceIte])
/-- what stands at the module's names: the refusals R (NoSuch) and P (BadPiece), the class C0 -/
structure Txt (K : PySem.W.Frag) (mg : Str → Option Value) (R Pp C0 : Addr) : Prop where
  x_R : PySem.W.excIn K R [.type "ValueError", .type "Exception", .type "BaseException", .type "object"] "ValueError.__new__" = true
  g_R : mg "NoSuch" = some (.ref R)
  k_R : PySem.W.keepIn K (.ref R) = true
  b_R : PySem.W.subIn K (.ref R) (.type "BaseException") = some true
  t_R : PySem.W.typeIn K (.ref R) = some (.type "type")
  x_P : PySem.W.excIn K Pp [.type "ValueError", .type "Exception", .type "BaseException", .type "object"] "ValueError.__new__" = true
  g_P : mg "BadPiece" = some (.ref Pp)
  k_P : PySem.W.keepIn K (.ref Pp) = true
  b_P : PySem.W.subIn K (.ref Pp) (.type "BaseException") = some true
  t_P : PySem.W.typeIn K (.ref Pp) = some (.type "type")
  cl : Cls K C0
  g_Store : mg "Store" = some (.ref C0)
  nPc : NoAttr K C0 "pieces"
  d_BASE : ∃ t, mg "BASE" = some (.int 257 t)
  d_WIDE : ∃ t, mg "WIDE" = some (.int 1000003 t)
  z_len : mg "len" = none
  z_range : mg "range" = none
  z_tuple : mg "tuple" = none
  z_sum : mg "sum" = none
  z_set : mg "set" = none
  z_min : mg "min" = none
  z_max : mg "max" = none
  z_int : mg "int" = none
  z_abs : mg "abs" = none
  z_list : mg "list" = none
  z_dict : mg "dict" = none
  z_sorted : mg "sorted" = none
  z_ord : mg "ord" = none
  z_str : mg "str" = none
section
variable {P : Program} {w : World} {K : PySem.W.Frag} {mg : Str → Option Value} {base : Heap} {R Pp C0 : Addr}
/-- every table of Ps is a table -/
def Tb (Ps : List Addr) (H : Hp) : Prop := ∀ P ∈ Ps, GxR.TabG H P
/-- what isn't a table of Ps stays; tables stay tables -/
def Gw (Ps : List Addr) (H H' : Hp) : Prop := Tb Ps H' ∧ ∀ b o, b ∉ Ps → H b = some o → H' b = some o
variable {Ps : List Addr}
theorem Tb.not {H : Hp} (t : Tb Ps H) {a : Addr} {o : HO} (h : H a = some o) (n : ∀ ps, o ≠ .tbl ps) : a ∉ Ps := fun m => by
  obtain ⟨ps, e, _⟩ := t a m
  rw [h] at e
  exact n ps (Option.some.inj e)
theorem Tb.none {H : Hp} (t : Tb Ps H) {a : Addr} (h : H a = none) : a ∉ Ps := fun m => by
  obtain ⟨ps, e, _⟩ := t a m
  rw [h] at e
  cases e
theorem Gw.refl {H : Hp} (t : Tb Ps H) : Gw Ps H H := ⟨t, fun _ _ _ e => e⟩
theorem Gw.trans {H H' H'' : Hp} (g : Gw Ps H H') (g' : Gw Ps H' H'') : Gw Ps H H'' := ⟨g'.1, fun b o n e => g'.2 b o n (g.2 b o n e)⟩
theorem Tb.upd {H : Hp} {l : Addr} {o : HO} (t : Tb Ps H) (n : l ∉ Ps) : Tb Ps (upd H l o) := fun P hP => by
  obtain ⟨ps, e, h⟩ := t P hP
  have ne : P ≠ l := fun z => n (by rw [← z]; exact hP)
  exact ⟨ps, by rw [upd_ne ne]; exact e, h⟩
theorem Gw.new {H H' : Hp} {l : Addr} {o : HO} (g : Gw Ps H H') (n : H' l = none) : Gw Ps H (upd H' l o) :=
  ⟨g.1.upd (g.1.none n), fun b u nb e => by
    have e' := g.2 b u nb e
    rw [upd_ne (ne_of_none e' n)]
    exact e'⟩
/-- an object that has come since is written -/
theorem Gw.set {H H' : Hp} {l : Addr} {o : HO} (g : Gw Ps H H') (n : H l = none) (nl : l ∉ Ps) : Gw Ps H (upd H' l o) :=
  ⟨g.1.upd nl, fun b u nb e => by
    rw [upd_ne (ne_of_none e n)]
    exact g.2 b u nb e⟩
theorem Gw.tab {H H' H'' : Hp} {p : Addr} (g : Gw Ps H H') (hp : p ∈ Ps) (t : GxR.Tabbed p H' H'') : Gw Ps H H'' := by
  refine ⟨fun P hP => ?_, fun b o nb e => ?_⟩
  · by_cases e : P = p
    · subst e
      exact t.1
    · obtain ⟨ps, h, k⟩ := g.1 P hP
      exact ⟨ps, by rw [t.2 P e]; exact h, k⟩
  · rw [t.2 b (fun z => nb (z ▸ hp))]
    exact g.2 b o nb e
theorem Gw.rd {H H' : Hp} {a : Addr} {u : HO} (g : Gw Ps H H') (t : Tb Ps H) (nu : ∀ ps, u ≠ .tbl ps) (h : Rd H a u) : Rd H' a u :=
  h.elim (fun h => .inl (g.2 _ _ (t.not h nu) h)) fun ⟨o, h⟩ => .inr ⟨o, g.2 _ _ (t.not h fun ps z => by cases z) h⟩
theorem Gw.sqL {K : PySem.W.Frag} {H H' : Hp} {a : Addr} {xs : List V} (g : Gw Ps H H') (t : Tb Ps H) (h : SqL K H a xs) : SqL K H' a xs := h.elim (fun h => .inl (g.rd t (fun _ z => by cases z) h)) .inr
theorem Gw.sqT {K : PySem.W.Frag} {H H' : Hp} {a : Addr} {xs : List V} (g : Gw Ps H H') (t : Tb Ps H) (h : SqT K H a xs) : SqT K H' a xs := h.elim (fun h => .inl (g.rd t (fun _ z => by cases z) h)) .inr
theorem Gw.none {H H' : Hp} {a : Addr} (g : Gw Ps H H') (t : Tb Ps H) (h : H' a = none) : H a = none := by
  cases e : H a with
  | none => rfl
  | some o =>
    have na : a ∉ Ps := g.1.none h
    rw [g.2 a o na e] at h
    cases h
theorem upd_none {H : Hp} {l p : Addr} {o : HO} (h : upd H l o p = none) : H p = none ∧ p ≠ l := by
  by_cases e : p = l
  · subst e
    rw [upd_same] at h
    cases h
  · rw [upd_ne e] at h
    exact ⟨h, e⟩
/-- a tuple that has come -/
def NewT (Ps : List Addr) (H : Hp) (xs : List V) (Q : VK) : Prop := ∀ H' p, Gw Ps H H' → H p = none → H' p = some (.tup xs) → Q (.ref p) H'
def NewL (Ps : List Addr) (H : Hp) (xs : List V) (Q : VK) : Prop := ∀ H' p, Gw Ps H H' → H p = none → H' p = some (.lst xs) → Q (.ref p) H'
/-- a def that owns code objects -/
structure FunC (K : PySem.W.Frag) (x qual : Str) (st : Stmt) (f : Addr) (fd : FuncData) (c : Addr) : Prop where
  ex : ∃ (oc : Value) (od : Option Addr) (kV doc pm : Value) (an : Option Addr) (ct : Value) (osl : Array (Option Value)),
    fd = PySem.W.fnOf x qual (defArgs st) (defBody st) (defScope st) .none kV doc pm an (.ref c) ct ∧ K.lookup f = some ⟨oc, od, .func fd, osl⟩ ∧ PySem.W.codeIn K (.ref c) qual = true
  kp : PySem.W.keepIn K (.ref f) = true
theorem FunC.okX {x qual : Str} {st : Stmt} {f c : Addr} {fd : FuncData} {N ps : List Str} {k : Nat} {sp : Sp} (F : FunC K x qual st f fd c) (S : FnScope N ps (defScope st)) (len : ∀ vs H Q E, sp vs H Q E → vs.length = ps.length)
    (hbody : ∀ (A : Around) (outer : List Env) (s : Shared) (H : Hp) (vs : List V) (Q : VK) (E : XK), Room k (A.deeper (envOfC qual (defScope st) s.heap.objs.size f (.ref c))) → sp vs H Q E →
      ∃ t, PSs (cxOf (L2.CX P w) P w K mg base N qual (defScope st) f (.ref c) A outer s H E) (defBody st) t ∧ t { nx := fun _ H' => Q .non H', rt := Q } (start N vs) H) : FnOk P w K mg base (L2.CX P w) (k + 1) f fd ps sp := by
  obtain ⟨oc, od, kV, doc, pm, an, ct, osl, rfl, lk, hcd⟩ := F.ex
  exact fn_of lk hcd S len fun A outer s H vs Q E hr hsp => hbody A outer s H vs Q E hr hsp
theorem FunC.binds {x qual : Str} {st : Stmt} {f c : Addr} {fd : FuncData} {ps : List Str} (F : FunC K x qual st f fd c)
    (h : ∀ (kV doc pm : Value) (an : Option Addr) (cdv ct : Value) (us : List Value), us.length = ps.length → bindArgs (PySem.W.fnOf x qual (defArgs st) (defBody st) (defScope st) .none kV doc pm an cdv ct) ⟨us, []⟩ = pure (ps.zip us)) : Binds K fd ps [] := by
  obtain ⟨oc, od, kV, doc, pm, an, ct, osl, rfl, lk, hcd⟩ := F.ex
  exact .all (h kV doc pm an (.ref c) ct)
theorem Gw.tabg {H H' : Hp} {p : Addr} (g : Gw Ps H H') (hp : p ∈ Ps) : GxR.TabG H' p := g.1 p hp
theorem room_le {k : Nat} {A : Around} (h : Room (k + 1) A) : Room k A := h.mono (Nat.le_succ k)
/-- a def that is called by its name -/
structure Cal (P : Program) (w : World) (K : PySem.W.Frag) (mg : Str → Option Value) (base : Heap) (CX : CXT) (k : Nat) (nm : Str) (ps : List Str) (sp : Sp) (f : Addr) (fd : FuncData) : Prop where
  ok : FnOk P w K mg base CX k f fd ps sp
  g : mg nm = some (.ref f)
  kp : PySem.W.keepIn K (.ref f) = true
  b : Binds K fd ps []
theorem tFor_rng2 {ta : TA} {g : TG} {tb : TS} {D : L2.Ends} {σ : L2.St} {H : Hp} (i j : Int) (n : Nat) (Pv : Nat → L2.St → Hp → Prop) (ha : ∀ R : List V → Hp → Prop, R [.int i, .int j] H → ta σ H R)
    (hb : -(2 ^ 62) ≤ i ∧ i < 2 ^ 62 ∧ -(2 ^ 62) ≤ j ∧ j < 2 ^ 62) (en : (j - i).toNat = n) (h0 : Pv 0 σ H)
    (hs : ∀ k σ H, k < n → Pv k σ H → g (.int (i + (k : Nat))) σ H fun σ2 H2 => tb { D with nx := Pv (k + 1), ct := Pv (k + 1), bk := D.nx } σ2 H2) (hd : ∀ σ H, Pv n σ H → D.nx σ H) : tFor (iRng2 ta) g tb D σ H := by
  refine ha _ ⟨i, j, rfl, hb, ?_⟩
  rw [en]
  exact for_range Pv h0 hs hd
theorem tFor_rng1 {ta : TA} {g : TG} {tb : TS} {D : L2.Ends} {σ : L2.St} {H : Hp} (j : Int) (n : Nat) (Pv : Nat → L2.St → Hp → Prop) (ha : ∀ R : List V → Hp → Prop, R [.int j] H → ta σ H R)
    (hb : -(2 ^ 62) ≤ j ∧ j < 2 ^ 62) (en : j.toNat = n) (h0 : Pv 0 σ H)
    (hs : ∀ k σ H, k < n → Pv k σ H → g (.int (0 + (k : Nat))) σ H fun σ2 H2 => tb { D with nx := Pv (k + 1), ct := Pv (k + 1), bk := D.nx } σ2 H2) (hd : ∀ σ H, Pv n σ H → D.nx σ H) : tFor (iRng1 ta) g tb D σ H := by
  refine ha _ ⟨j, rfl, hb.1, hb.2, ?_⟩
  rw [en]
  exact for_range Pv h0 hs hd
def Dice (H : Hp) (d : Addr) : Prop := ∃ a b c : Int, H d = some (.lst [.int a, .int b, .int c])
/-- all but the dice stays -/
structure Gd (Ps : List Addr) (d : Addr) (H H' : Hp) : Prop where
  tb : Tb Ps H'
  keep : ∀ b o, b ∉ Ps → b ≠ d → H b = some o → H' b = some o
  dice : Dice H' d
theorem Gd.gw {d : Addr} {H H1 H2 : Hp} (g : Gd Ps d H H1) (h : Gw Ps H1 H2) : Gd Ps d H H2 :=
  ⟨h.1, fun b o n nd e => h.2 b o n (g.keep b o n nd e), by
    obtain ⟨a, b, c, e⟩ := g.dice
    exact ⟨a, b, c, h.2 d _ (g.tb.not e fun _ z => by cases z) e⟩⟩
theorem Gd.trans {d : Addr} {H H1 H2 : Hp} (g : Gd Ps d H H1) (h : Gd Ps d H1 H2) : Gd Ps d H H2 := ⟨h.tb, fun b o n nd e => h.keep b o n nd (g.keep b o n nd e), h.dice⟩
theorem Gd.nd {d : Addr} {H H1 : Hp} (g : Gd Ps d H H1) : d ∉ Ps := by
  obtain ⟨a, b, c, e⟩ := g.dice
  exact g.tb.not e fun _ z => by cases z
theorem Gd.refl {d : Addr} {H : Hp} (t : Tb Ps H) (h : Dice H d) : Gd Ps d H H := ⟨t, fun _ _ _ _ e => e, h⟩
theorem Gd.roll {d : Addr} {H H1 : Hp} (g : Gd Ps d H H1) (a b c : Int) : Gd Ps d H (upd H1 d (.lst [.int a, .int b, .int c])) :=
  ⟨g.tb.upd g.nd, fun b o n nd e => by rw [upd_ne nd]; exact g.keep b o n nd e, a, b, c, upd_same⟩
theorem Gd.new {d : Addr} {H H1 : Hp} {l : Addr} {o : HO} (g : Gd Ps d H H1) (n : H1 l = none) : Gd Ps d H (upd H1 l o) := g.gw ((Gw.refl g.tb).new n)
theorem Gd.isn {d : Addr} {H H1 : Hp} {l : Addr} (g : Gd Ps d H H1) (n : H1 l = none) : H l = none := by
  cases e : H l with
  | none => rfl
  | some o =>
    have nd : l ≠ d := fun z => by
      obtain ⟨a, b, c, e⟩ := g.dice
      rw [z, e] at n
      cases n
    rw [g.keep l o (g.tb.none n) nd e] at n
    cases n
theorem Gd.ne {d : Addr} {H H1 : Hp} {l : Addr} (g : Gd Ps d H H1) (n : H1 l = none) : l ≠ d := fun z => by
  obtain ⟨a, b, c, e⟩ := g.dice
  rw [z, e] at n
  cases n
/-- an object that has come since is written -/
theorem Gd.set {d : Addr} {H H1 : Hp} {l : Addr} {o : HO} (g : Gd Ps d H H1) (n : H l = none) (nl : l ∉ Ps) (nd : l ≠ d) : Gd Ps d H (upd H1 l o) :=
  ⟨g.tb.upd nl, fun b u nb nbd e => by
    rw [upd_ne (ne_of_none e n)]
    exact g.keep b u nb nbd e, by
    obtain ⟨a, b, c, e⟩ := g.dice
    exact ⟨a, b, c, by rw [upd_ne nd.symm]; exact e⟩⟩
end
section
variable {K : PySem.W.Frag} {H : Hp}
theorem dpAll_map {α : Type} (f : α → V) (g : α → PyData) (h : ∀ x, Dp K H (f x) (g x)) : ∀ l : List α, DpAll K H (l.map f) (l.map g)
  | [] => .nil
  | x :: r => .cons (h x) (dpAll_map f g h r)
theorem dp_lI {a : Addr} {ns : List Int} (h : SqL K H a (ns.map V.int)) : Dp K H (.ref a) (.list (ns.map .int)) := .lst h (dpAll_map _ _ .int ns)
theorem dp_tI {a : Addr} {ns : List Int} (h : SqT K H a (ns.map V.int)) : Dp K H (.ref a) (.tuple (ns.map .int)) := .tup h (dpAll_map _ _ .int ns)
theorem dp_lS {a : Addr} {ns : List Str} (h : SqL K H a (ns.map V.str)) : Dp K H (.ref a) (.list (ns.map .str)) := .lst h (dpAll_map _ _ .str ns)
theorem dp_tS {a : Addr} {ns : List Str} (h : SqT K H a (ns.map V.str)) : Dp K H (.ref a) (.tuple (ns.map .str)) := .tup h (dpAll_map _ _ .str ns)
theorem eqvI : ∀ ns ms : List Int, PyData.eqvAll (ns.map .int) (ms.map .int) = decide (ns = ms)
  | [], [] => by simp [PyData.eqvAll]
  | [], _ :: _ => by simp [PyData.eqvAll]
  | _ :: _, [] => by simp [PyData.eqvAll]
  | x :: r, y :: q => by
    rw [List.map_cons, List.map_cons, PyData.eqvAll, eqvI r q]
    by_cases e : x = y
    · subst e; simp [PyData.eqv]
    · simp [PyData.eqv, e]
theorem eqvS : ∀ ns ms : List Str, PyData.eqvAll (ns.map .str) (ms.map .str) = decide (ns = ms)
  | [], [] => by simp [PyData.eqvAll]
  | [], _ :: _ => by simp [PyData.eqvAll]
  | _ :: _, [] => by simp [PyData.eqvAll]
  | x :: r, y :: q => by
    rw [List.map_cons, List.map_cons, PyData.eqvAll, eqvS r q]
    by_cases e : x = y
    · subst e; simp [PyData.eqv]
    · simp [PyData.eqv, e]
theorem eqv_lI (ns ms : List Int) : PyData.eqv (.list (ns.map .int)) (.list (ms.map .int)) = decide (ns = ms) := by rw [PyData.eqv, eqvI]
theorem eqv_tI (ns ms : List Int) : PyData.eqv (.tuple (ns.map .int)) (.tuple (ms.map .int)) = decide (ns = ms) := by rw [PyData.eqv, eqvI]
theorem eqv_lS (ns ms : List Str) : PyData.eqv (.list (ns.map .str)) (.list (ms.map .str)) = decide (ns = ms) := by rw [PyData.eqv, eqvS]
theorem eqv_tS (ns ms : List Str) : PyData.eqv (.tuple (ns.map .str)) (.tuple (ms.map .str)) = decide (ns = ms) := by rw [PyData.eqv, eqvS]
theorem lay_I : ∀ ns : List Int, PyData.canLayAll0 (ns.map .int) = true ∧ PyData.depthAll (ns.map .int) = 0
  | [] => ⟨rfl, rfl⟩
  | x :: r => by
    obtain ⟨h1, h2⟩ := lay_I r
    rw [List.map_cons]
    simp [PyData.canLayAll0, PyData.canLay0, PyData.depthAll, PyData.depth, h1, h2]
theorem lay_S : ∀ ns : List Str, (∀ x ∈ ns, PyData.strOk x = true) → PyData.canLayAll0 (ns.map .str) = true ∧ PyData.depthAll (ns.map .str) = 0
  | [], _ => ⟨rfl, rfl⟩
  | x :: r, h => by
    obtain ⟨h1, h2⟩ := lay_S r fun y hy => h y (List.mem_cons_of_mem _ hy)
    have h0 := h x (List.mem_cons_self ..)
    rw [List.map_cons]
    simp [PyData.canLayAll0, PyData.canLay0, PyData.depthAll, PyData.depth, h0, h1, h2]
theorem shp_lI (ns : List Int) : SeqAt.shaped (.list (ns.map .int)) = true := by
  obtain ⟨h1, h2⟩ := lay_I ns
  simp [SeqAt.shaped, PyData.canLay0, PyData.depth, h1, h2]
theorem shp_tI (ns : List Int) : SeqAt.shaped (.tuple (ns.map .int)) = true := by
  obtain ⟨h1, h2⟩ := lay_I ns
  simp [SeqAt.shaped, PyData.canLay0, PyData.depth, h1, h2]
theorem shp_lS (ns : List Str) (h : ∀ x ∈ ns, PyData.strOk x = true) : SeqAt.shaped (.list (ns.map .str)) = true := by
  obtain ⟨h1, h2⟩ := lay_S ns h
  simp [SeqAt.shaped, PyData.canLay0, PyData.depth, h1, h2]
theorem shp_tS (ns : List Str) (h : ∀ x ∈ ns, PyData.strOk x = true) : SeqAt.shaped (.tuple (ns.map .str)) = true := by
  obtain ⟨h1, h2⟩ := lay_S ns h
  simp [SeqAt.shaped, PyData.canLay0, PyData.depth, h1, h2]
theorem rEq_lI {a b : Addr} {ns ms : List Int} {Q : VK} (ha : SqL K H a (ns.map V.int)) (hb : SqL K H b (ms.map V.int)) (q : Q (.bl (decide (ns = ms))) H) : rEqD K (.ref a) (.ref b) H Q := ⟨_, _, dp_lI ha, dp_lI hb, shp_lI _, shp_lI _, by rw [eqv_lI]; exact q⟩
theorem rNe_lI {a b : Addr} {ns ms : List Int} {Q : VK} (ha : SqL K H a (ns.map V.int)) (hb : SqL K H b (ms.map V.int)) (q : Q (.bl (!decide (ns = ms))) H) : rNeD K (.ref a) (.ref b) H Q := ⟨_, _, dp_lI ha, dp_lI hb, shp_lI _, shp_lI _, by rw [eqv_lI]; exact q⟩
theorem rNe_tI {a b : Addr} {ns ms : List Int} {Q : VK} (ha : SqT K H a (ns.map V.int)) (hb : SqT K H b (ms.map V.int)) (q : Q (.bl (!decide (ns = ms))) H) : rNeD K (.ref a) (.ref b) H Q := ⟨_, _, dp_tI ha, dp_tI hb, shp_tI _, shp_tI _, by rw [eqv_tI]; exact q⟩
theorem rEq_lS {a b : Addr} {ns ms : List Str} {Q : VK} (hn : ∀ x ∈ ns, PyData.strOk x = true) (hm : ∀ x ∈ ms, PyData.strOk x = true) (ha : SqL K H a (ns.map V.str)) (hb : SqL K H b (ms.map V.str)) (q : Q (.bl (decide (ns = ms))) H) : rEqD K (.ref a) (.ref b) H Q := ⟨_, _, dp_lS ha, dp_lS hb, shp_lS _ hn, shp_lS _ hm, by rw [eqv_lS]; exact q⟩
theorem rNe_lS {a b : Addr} {ns ms : List Str} {Q : VK} (hn : ∀ x ∈ ns, PyData.strOk x = true) (hm : ∀ x ∈ ms, PyData.strOk x = true) (ha : SqL K H a (ns.map V.str)) (hb : SqL K H b (ms.map V.str)) (q : Q (.bl (!decide (ns = ms))) H) : rNeD K (.ref a) (.ref b) H Q := ⟨_, _, dp_lS ha, dp_lS hb, shp_lS _ hn, shp_lS _ hm, by rw [eqv_lS]; exact q⟩
theorem rEq_tS {a b : Addr} {ns ms : List Str} {Q : VK} (hn : ∀ x ∈ ns, PyData.strOk x = true) (hm : ∀ x ∈ ms, PyData.strOk x = true) (ha : SqT K H a (ns.map V.str)) (hb : SqT K H b (ms.map V.str)) (q : Q (.bl (decide (ns = ms))) H) : rEqD K (.ref a) (.ref b) H Q := ⟨_, _, dp_tS ha, dp_tS hb, shp_tS _ hn, shp_tS _ hm, by rw [eqv_tS]; exact q⟩
end
section
theorem passF {X : Cx} : Passes (L2.CX X.prog X.w) X (fun _ _ _ => False) := fun _ _ _ _ _ _ _ c => by
  obtain ⟨_, _, _, _, _, _, _, _, _, _, _, _, hE⟩ := c
  exact hE.elim
/-- a statement that leads on: from Pre to Post -/
def Step (X : Cx) (st : Stmt) (Pre Post : L2.St → Hp → Prop) : Prop := ∃ t, PS X st t ∧ ∀ D σ H, Pre σ H → (∀ σ' H', Post σ' H' → D.nx σ' H') → t D σ H
def Steps (X : Cx) (l : List Stmt) (Pre Post : L2.St → Hp → Prop) : Prop := ∃ t, PSs X l t ∧ ∀ D σ H, Pre σ H → (∀ σ' H', Post σ' H' → D.nx σ' H') → t D σ H
theorem Steps.cons {X : Cx} {a : Stmt} {l : List Stmt} {p q r : L2.St → Hp → Prop} (h : Step X a p q) (h2 : Steps X l q r) : Steps X (a :: l) p r := by
  obtain ⟨t, ht, k⟩ := h
  obtain ⟨u, hu, k2⟩ := h2
  exact ⟨_, pss_cons ht hu, fun D σ H hp hn => k _ σ H hp fun σ' H' hq => k2 D σ' H' hq hn⟩
theorem Steps.one {X : Cx} {a : Stmt} {p q : L2.St → Hp → Prop} (h : Step X a p q) : Steps X [a] p q := by
  obtain ⟨t, ht, k⟩ := h
  exact ⟨_, pss_one ht, k⟩
end
section
variable {K : PySem.W.Frag}
theorem SqT_of {H : Hp} {a : Addr} {xs : List V} (h : H a = some (.tup xs)) : SqT K H a xs := .inl (.inl h)
theorem gTup2 {i j : Nat} {p : Addr} {v z : V} {σ : L2.St} {H : Hp} {Q : L2.St → Hp → Prop} (h : SqT K H p [v, z]) (q : Q ((σ.set i (some v)).set j (some z)) H) : gTup K 2 (gCons (gName i) (gCons (gName j) gNil)) (.ref p) σ H Q := ⟨p, _, rfl, h, rfl, _, _, rfl, _, _, rfl, rfl, q⟩
end
section
variable {X : Cx} {st : Stmt} {ls : List Stmt} {Post : L2.St → Hp → Prop}
theorem Step.ex {α : Type} {Pre : α → L2.St → Hp → Prop} (h : ∀ a, Step X st (Pre a) Post) : Step X st (fun σ H => ∃ a, Pre a σ H) Post :=
  ⟨fun D σ H => ∃ a, Classical.choose (h a) D σ H, ⟨fun pins s σ H D I ⟨a, ha⟩ => (Classical.choose_spec (h a)).1.run pins s σ H D I ha⟩, fun D σ H ⟨a, hp⟩ hn => ⟨a, (Classical.choose_spec (h a)).2 D σ H hp hn⟩⟩
theorem Steps.ex {α : Type} {Pre : α → L2.St → Hp → Prop} (h : ∀ a, Steps X ls (Pre a) Post) : Steps X ls (fun σ H => ∃ a, Pre a σ H) Post :=
  ⟨fun D σ H => ∃ a, Classical.choose (h a) D σ H, ⟨fun pins s σ H D I ⟨a, ha⟩ => (Classical.choose_spec (h a)).1.run pins s σ H D I ha⟩, fun D σ H ⟨a, hp⟩ hn => ⟨a, (Classical.choose_spec (h a)).2 D σ H hp hn⟩⟩
theorem Steps.all {α : Type} {Pre Pos : α → L2.St → Hp → Prop} (h : ∀ a, Steps X ls (Pre a) (Pos a)) : ∃ t, PSs X ls t ∧ ∀ a D σ H, Pre a σ H → (∀ σ' H', Pos a σ' H' → D.nx σ' H') → t D σ H :=
  ⟨fun D σ H => ∃ a, Classical.choose (h a) D σ H, ⟨fun pins s σ H D I ⟨a, ha⟩ => (Classical.choose_spec (h a)).1.run pins s σ H D I ha⟩, fun a D σ H hp hn => ⟨a, (Classical.choose_spec (h a)).2 D σ H hp hn⟩⟩
theorem Steps.of {φ : Prop} {Pre : L2.St → Hp → Prop} (h : φ → Steps X ls Pre Post) : Steps X ls (fun σ H => φ ∧ Pre σ H) Post :=
  ⟨fun D σ H => ∃ a, Classical.choose (h a) D σ H, ⟨fun pins s σ H D I ⟨a, ha⟩ => (Classical.choose_spec (h a)).1.run pins s σ H D I ha⟩, fun D σ H ⟨a, hp⟩ hn => ⟨a, (Classical.choose_spec (h a)).2 D σ H hp hn⟩⟩
end
section
variable {Ps : List Addr}
theorem codeO_lst {c0 : Addr} {q : Str} {xs : List V} : CodeO c0 q ≠ HO.lst xs := fun z => by cases z
theorem tabs_keep {T : List (Addr × Str)} {d : Addr} {H H' : Hp} (t : Tabs T H) (nP : ∀ p ∈ T, p.1 ∉ Ps) (tb : Tb Ps H) (di : Dice H d) (kp : ∀ b o, b ∉ Ps → b ≠ d → H b = some o → H' b = some o) : Tabs T H' := fun p hp => by
  obtain ⟨ps, h1, h2, h3⟩ := t p hp
  obtain ⟨x, y, z, hd⟩ := di
  refine ⟨ps, kp _ _ (nP p hp) (fun e => by rw [e, hd] at h1; cases h1) h1, h2, fun pos cv hc => ?_⟩
  obtain ⟨c0, e1, e2⟩ := h3 pos cv hc
  exact ⟨c0, e1, kp _ _ (tb.not e2 codeO_ne) (fun e => by rw [e, hd] at e2; exact codeO_lst (Option.some.inj e2).symm) e2⟩
theorem tabs_gw {T : List (Addr × Str)} {H H' : Hp} (t : Tabs T H) (nP : ∀ p ∈ T, p.1 ∉ Ps) (tb : Tb Ps H) (g : Gw Ps H H') : Tabs T H' := fun p hp => by
  obtain ⟨ps, h1, h2, h3⟩ := t p hp
  refine ⟨ps, g.2 _ _ (nP p hp) h1, h2, fun pos cv hc => ?_⟩
  obtain ⟨c0, e1, e2⟩ := h3 pos cv hc
  exact ⟨c0, e1, g.2 _ _ (tb.not e2 codeO_ne) e2⟩
end
section
variable {X : Cx} {e : Expr} {td : TE} {tg : Expr} {K0 : PySem.W.Frag}
/-- a dict, held while it is walked -/
def tLock (td : TE) : TE := fun σ H Q => td σ H fun x H1 => ∃ d kvs, x = .ref d ∧ H1 d = some (.dK kvs) ∧ ∀ od, Q (.ref d) (upd H1 d (.frz od (.dK kvs)))
theorem pe_lock (he : PE X e td) : PE X e (tLock td) := by
  refine ⟨fun pins s σ H Q I h => thn (he.run pins s σ H _ I h) fun v s1 ⟨x, H1, I1, r1, d, kvs, ex, hd, q⟩ => ?_⟩
  subst ex
  obtain ⟨od, I2⟩ := I1.lock hd True.intro
  exact ⟨.ref d, _, I2, r1, q od⟩
theorem ix_tupK (hK : X.K = K0) : IxR X (rIxT K0) := by
  subst hK
  exact ix_tup
theorem op_inK (hK : X.K = K0) : OpR X (compareOp .In) (rIn K0 false) := by
  subst hK
  exact op_in_seq
theorem op_notInK (hK : X.K = K0) : OpR X (compareOp .NotIn) (rIn K0 true) := by
  subst hK
  exact op_notIn_seq
end
section
variable {X : Cx} {K0 : PySem.W.Frag} {e o : Expr} {te to : TE} {lo hi : Option Expr} {tl th : TO} {pos p2 apos : Pos}
theorem pe_sliceT (hK : X.K = K0) (he : PE X e te) (hl : PO X lo tl) (hu : PO X hi th) : PE X (.Subscript e (.Slice lo hi none p2) pos) (L2.tSl (rSlA K0) te tl th) := by
  subst hK
  exact pe_slice sl_tupA he hl hu
def rLenK (K0 : PySem.W.Frag) : List V → Hp → VK → Prop := fun xs H Q => ∃ p ys, xs = [.ref p] ∧ (SqL K0 H p ys ∨ SqT K0 H p ys) ∧ Q (.int ys.length) H
theorem call_lenK (hK : X.K = K0) : CallR X (.builtin "len") (rLenK K0) := by
  subst hK
  exact call_len_seq
def rListK (K0 : PySem.W.Frag) : List V → Hp → VK → Prop := fun xs H Q => ∃ p ys, xs = [.ref p] ∧ (SqL K0 H p ys ∨ SqT K0 H p ys) ∧ ∀ l, H l = none → Q (.ref l) (upd H l (.lst ys))
theorem call_listK (hK : X.K = K0) : CallR X (.type "list") (rListK K0) := by
  subst hK
  exact call_list_of
theorem op_eqK (hK : X.K = K0) (hu : X.A.units + 64 < cLine) : OpR X (compareOp .Eq) (rEqD K0) := by
  subst hK
  exact op_eqD hu
theorem op_neK (hK : X.K = K0) (hu : X.A.units + 64 < cLine) : OpR X (compareOp .NotEq) (rNeD K0) := by
  subst hK
  exact op_neD hu
theorem cutV_drop {xs : List V} {n : Nat} : cutV xs (some (n : Nat)) none = xs.drop n := by
  unfold cutV
  rw [HT.sIx_none, HT.sIx_nat]
  by_cases h : n ≤ xs.length
  · rw [Nat.min_eq_left h]
    exact List.take_of_length_le (by rw [List.length_drop]; exact Nat.le_refl _)
  · rw [Nat.min_eq_right (by omega), Nat.sub_self, List.take_zero, List.drop_of_length_le (by omega)]
theorem pe_sliceL (hK : X.K = K0) (he : PE X e te) (hl : PO X lo tl) (hu : PO X hi th) : PE X (.Subscript e (.Slice lo hi none p2) pos) (L2.tSl (rSlL K0) te tl th) := by
  subst hK
  exact pe_slice sl_list he hl hu
end
section
theorem tLc_rng1 {ta : TA} {g : TG} {tt : TT} {te : TE} {vs : List Nat} {σ : L2.St} {H : Hp} {Q : VK} (j : Int) (n : Nat) (ha : ∀ R : List V → Hp → Prop, R [.int j] H → ta σ H R) (hb : -(2 ^ 62) ≤ j ∧ j < 2 ^ 62) (en : j.toNat = n)
    (h : ∀ D, H D = none → ∃ W : Nat → Nat → Hp → Prop, (∃ m, W 0 m (upd H D (.lst []))) ∧ ∀ i m H, W i m H → ((Itr 0 n).stop i H ∧ Q (.ref D) H) ∨ ((Itr 0 n).go i H ∧ ∃ Nx : Hp → Prop, (∀ H', Nx H' → ∃ m', m' < m ∧ W (i + 1) m' H') ∧ ∀ x H', (Itr 0 n).yld i H x H' → g x (wipe σ vs) H' fun σ2 H2 => wipe σ2 vs = wipe σ vs ∧ tt σ2 H2 fun b H3 =>
      if b = true then te σ2 H3 fun y H4 => ∃ acc, H4 D = some (.lst acc) ∧ acc.length < sizeLine ∧ Nx (upd H4 D (.lst (acc ++ [y]))) else Nx H3)) : tLc (iRng1 ta) g tt te vs σ H Q := by
  refine ha _ ⟨j, rfl, hb.1, hb.2, ?_⟩
  rw [en]
  exact h
end
end K3

set_option maxRecDepth 100000
set_option maxHeartbeats 4000000
namespace K3
open PySem PySem.Spec PyProof.Rows L2
open XT (Sm pe_msg)
open SkE (pmk_own1)
local macro_rules | `(tactic| walk_at "ev3") => `(tactic| simp only [tSeq, tIfS, tNot, XT.tChain3, rI0, tC, tVar, tRet, tTup, tLst, tCons, tNil, tJs, tFmt, tNext, tTest, tOp, tUn, rI, rU, tCall, tCB, tAnd, tOr, tB, tDrop, tAsg, gName, tAug, tPar, ipI, tBM, rAppend, tSl, rSlS, tPart, tNoPart, tIf, tM1, rEq, rNe, tFld, tMeth, tMake, L2.start, List.map_cons, List.map_nil, List.length_cons, List.length_nil, Nat.reduceAdd, Nat.reduceSub, Nat.sub_self, List.replicate_zero, List.append_nil, List.replicate_succ, List.cons_append, List.nil_append,
  List.getElem?_cons_zero, List.getElem?_cons_succ, Option.some.injEq, exists_eq_left', exists_eq_left, V.int.injEq, V.str.injEq, V.bl.injEq, V.ref.injEq, List.set_cons_zero, List.set_cons_succ, List.cons.injEq, and_true, true_and, reduceCtorEq, false_and, exists_false, false_or, or_false, exists_and_left, and_assoc, decide_eq_true_eq, Bool.not_eq_true', decide_eq_false_iff_not, Bool.not_false, Bool.not_true, if_true, if_false, Bool.false_eq_true, ↓reduceIte])
section
variable {P : Program} {w : World} {K : PySem.W.Frag} {mg : Str → Option Value} {base : Heap} {R Pp C0 : Addr} {Ps : List Addr}
def chs (t : Str) : List Nat := t.cps.toList
/-- a text's figure -/
def figN (l : List Nat) : Nat := l.foldl (fun n c => (n * 257 + c) % 1000003) 7
def fig (t : Str) : Nat := figN (chs t)
theorem figN_lt (l : List Nat) : figN l < 1000003 := by
  have : ∀ (l : List Nat) (n : Nat), n < 1000003 → l.foldl (fun n c => (n * 257 + c) % 1000003) n < 1000003 := by
    intro l
    induction l with
    | nil => intro n h; exact h
    | cons c r ih =>
      intro n h
      exact ih _ (Nat.mod_lt _ (by decide))
  exact this l 7 (by decide)
theorem figN_snoc (l : List Nat) (c : Nat) : figN (l ++ [c]) = (figN l * 257 + c) % 1000003 := by
  unfold figN
  rw [List.foldl_append]
  rfl
def SmT (t : Str) : Prop := t.length ≤ 100 ∧ ∀ c ∈ chs t, c ≤ 1000
abbrev s_figure : Stmt := topS 14
theorem sc_figure : FnScope ["text", "number", "sign"] ["text"] (defScope s_figure) := ⟨rfl, rfl, rfl, by decide +kernel, rfl, by decide +kernel, by decide +kernel⟩
def sp_figure : Sp := fun vs H Q E => ∃ t : Str, vs = [.str t] ∧ SmT t ∧ Q (.int (fig t : Nat)) H
theorem ok_figure {f : Addr} {fd : FuncData} {k : Nat} (F : Fun K "figure" "figure" s_figure f fd) (T : Txt K mg R Pp C0) : FnOk P w K mg base (L2.CX P w) (k + 1) f fd ["text"] sp_figure := by
  refine F.okX sc_figure (fun vs H Q E h => ?_) (fun cdv A outer s H vs Q E hr h => ?_)
  · obtain ⟨t, rfl, _⟩ := h
    rfl
  · obtain ⟨t, rfl, st, hq⟩ := h
    obtain ⟨tb, eb⟩ := T.d_BASE
    obtain ⟨tw, ew⟩ := T.d_WIDE
    refine ⟨_, (pss_cons (ps_set (i := 1) sc_figure.nd rfl (.inl rfl) pe_int)
    (pss_cons (ps_for (passes_of rfl) rfl (pi_str (pv 0)) (pg_name (i := 2) sc_figure.nd rfl (.inl rfl))
      (pss_one (ps_set (i := 1) sc_figure.nd rfl (.inl rfl) (pe_op op_mod (pe_op op_add (pe_op op_mul (pv 1) (pe_glob (v := .int 257) (by rfl) eb ⟨_, rfl⟩)) (pe_callB call_ord (by rfl) T.z_ord (by decide +kernel) (pa_cons (pv 2) pa_nil))) (pe_glob (v := .int 1000003) (by rfl) ew ⟨_, rfl⟩)))))
    (pss_one (ps_ret (pv 1))))), ?_⟩
    walk_at "ev3"
    refine ⟨_, rfl, t, rfl, for_it walk_str (fun i σ H' => H' = H ∧ ∃ z, σ = [some (.str t), some (.int (figN ((chs t).take i) : Nat)), z]) ⟨rfl, _, rfl⟩ (fun _ _ _ _ _ => True.intro) ?_ ?_⟩
    · rintro i x σ H' H'' hi ⟨rfl, z, rfl⟩ ⟨rfl, c, hc, rfl⟩
      have hc2 : (chs t)[i]? = some c := by
        show t.cps.toList[i]? = some c
        rw [Array.getElem?_toList]
        exact hc
      walk_at "ev3"
      refine ⟨.inr ⟨by decide, by decide⟩, ?_⟩
      have ek : (chs t).take (i + 1) = (chs t).take i ++ [c] := by rw [List.take_add_one, hc2]; rfl
      rw [ek, figN_snoc]
      have e0 : (#[c].getD 0 0 : Nat) = c := rfl
      rw [e0]
      exact ⟨rfl, by decide, by omega, _, rfl⟩
    · rintro σ H' ⟨rfl, z, rfl⟩
      walk_at "ev3"
      have e : (chs t).take t.cps.size = chs t := by
        refine List.take_of_length_le ?_
        show t.cps.toList.length ≤ _
        simp
      rw [e]
      exact hq
theorem log_small {n : Nat} (h : n < 2 ^ 100) : ((n : Nat) : Int).natAbs.log2 < 1920 := by
  have e : ((n : Nat) : Int).natAbs = n := rfl
  rw [e]
  by_cases z : n = 0
  · rw [z]; decide
  · have := (Nat.log2_lt z).mpr h
    omega
theorem log_fig (t : Str) : ((fig t : Nat) : Int).natAbs.log2 < 1920 := log_small (Nat.lt_trans (figN_lt _) (by decide))
/-- the name of a text's figure with a number -/
def nmS (t : Str) (n : Nat) : Str := (toString ((fig t : Nat) : Int) : Str) ++ "." ++ (toString ((n : Nat) : Int) : Str)
abbrev s_is_right : Stmt := topS 15
theorem sc_is_right : FnScope ["name", "piece"] ["name", "piece"] (defScope s_is_right) := ⟨rfl, rfl, rfl, by decide +kernel, rfl, by decide +kernel, by decide +kernel⟩
/-- the name tells the piece's figure -/
def right (nm t : Str) : Bool := decide ((Txt.partition nm (Str.ofString ".")).1 = (toString ((fig t : Nat) : Int) : Str))
def sp_is_right (Ps : List Addr) : Sp := fun vs H Q E => ∃ nm t : Str, vs = [.str nm, .str t] ∧ nm.length ≤ 1000 ∧ SmT t ∧ Tb Ps H ∧ ∀ H', Gw Ps H H' → Q (.bl (right nm t)) H'
theorem ok_is_right {f f1 : Addr} {fd fd1 : FuncData} {k k1 : Nat} (F : Fun K "is_right" "is_right" s_is_right f fd) (T : Txt K mg R Pp C0) (G1 : Cal P w K mg base (L2.CX P w) k1 "figure" ["text"] sp_figure f1 fd1) (h1 : k1 ≤ k) : FnOk P w K mg base (L2.CX P w) (k + 1) f fd ["name", "piece"] (sp_is_right Ps) := by
  refine F.okX sc_is_right (fun vs H Q E h => ?_) (fun cdv A outer s H vs Q E hr h => ?_)
  · obtain ⟨nm, t, rfl, _⟩ := h
    rfl
  · obtain ⟨nm, t, rfl, ln, st, tb, hq⟩ := h
    refine ⟨_, (pss_one (ps_ret (pe_cmpR op_eq (pe_ix ix_tup (pe_partition (pv 0) pe_str) pe_int (fun _ _ => rfl)) (pe_callTy call_str_int (by rfl) T.z_str (by decide +kernel) (pa_cons (pe_call G1.ok (hr.mono h1) (by rfl) G1.g G1.kp G1.b .nil passF (pa_cons (pv 1) pa_nil)) pa_nil)) (nomark _)))), ?_⟩
    walk_at "ev3"
    refine ⟨⟨_, rfl⟩, rfl, Nat.le_trans ln (by decide), fun p hp => ⟨p, _, 0, _, rfl, rfl, SqT_of upd_same, rfl, t, rfl, st, _, rfl, log_fig t, rfl, ?_⟩⟩
    have e : decide (V.str (Txt.partition nm (Str.ofString ".")).1 = V.str (Str.ofString (toString ((fig t : Nat) : Int)))) = right nm t := decide_eq_decide.mpr ⟨V.str.inj, fun z => by rw [z]⟩
    rw [e]
    exact hq _ ((Gw.refl tb).new hp)
end
end K3

set_option maxRecDepth 100000
set_option maxHeartbeats 4000000
namespace K3
open PySem PySem.Spec PyProof.Rows L2
open XT (Sm pe_msg)
open SkE (pmk_own1)
local macro_rules | `(tactic| walk_at "ev3") => `(tactic| simp only [tSeq, tIfS, tNot, XT.tChain3, rI0, tC, tVar, tRet, tTup, tLst, tCons, tNil, tJs, tFmt, tNext, tTest, tOp, tUn, rI, rU, tCall, tCB, tAnd, tOr, tB, tDrop, tAsg, gName, tAug, tPar, ipI, tBM, rAppend, tSl, rSlS, tPart, tNoPart, tIf, tM1, rEq, rNe, tFld, tMeth, tMake, L2.start, List.map_cons, List.map_nil, List.length_cons, List.length_nil, Nat.reduceAdd, Nat.reduceSub, Nat.sub_self, List.replicate_zero, List.append_nil, List.replicate_succ, List.cons_append, List.nil_append,
  List.getElem?_cons_zero, List.getElem?_cons_succ, Option.some.injEq, exists_eq_left', exists_eq_left, V.int.injEq, V.str.injEq, V.bl.injEq, V.ref.injEq, List.set_cons_zero, List.set_cons_succ, List.cons.injEq, and_true, true_and, reduceCtorEq, false_and, exists_false, false_or, or_false, exists_and_left, and_assoc, decide_eq_true_eq, Bool.not_eq_true', decide_eq_false_iff_not, Bool.not_false, Bool.not_true, if_true, if_false, Bool.false_eq_true, ↓reduceIte])
section
variable {X : Cx}
/-- for .. in a name's list or tuple -/
def iSeqV (K : PySem.W.Frag) (i : Nat) : TI := fun σ H R => ∃ a, σ[i]? = some (some (.ref a)) ∧ (((∃ xs, SqL K H a xs) ∧ R (Itl K a) H) ∨ ((∃ xs, SqT K H a xs) ∧ R (Itt K a) H))
theorem pi_seqV {tg e : Expr} {i : Nat} (h0 : PE X e (tVar i)) : PI X tg e (iSeqV X.K i) := ⟨fun pins s σ H R I ⟨a, hv, h⟩ => h.elim (fun h => (pi_list h0).run pins s σ H R I ⟨_, hv, a, rfl, h.1, h.2⟩) (fun h => (pi_tup h0).run pins s σ H R I ⟨_, hv, a, rfl, h.1, h.2⟩)⟩
structure MCal (P : Program) (w : World) (K : PySem.W.Frag) (mg : Str → Option Value) (base : Heap) (CX : CXT) (k : Nat) (C : Addr) (nm : Str) (ps : List Str) (sp : Sp) (f : Addr) (fd : FuncData) : Prop where
  ok : FnOk P w K mg base CX k f fd ps sp
  m : Meth K C nm f
  b : Binds K fd ps []
end
section
variable {P : Program} {w : World} {K : PySem.W.Frag} {mg : Str → Option Value} {base : Heap} {R Pp C0 : Addr} {Ps : List Addr}
def stF (pd : Addr) : List (Str × V) := [("pieces", .ref pd)]
theorem stP (pd : Addr) : (stF pd).lookup ("pieces" : Str) = some (.ref pd) := rfl
/-- a table of texts by texts -/
def kvS (m : List (Str × Str)) : List (Key × V) := m.map fun e => (.inr e.1, .str e.2)
/-- a store at p, its table at pd -/
def StoreAt (C : Addr) (H : Hp) (p pd : Addr) (m : List (Str × Str)) : Prop := (∃ dx, H p = some (.ins C dx (stF pd))) ∧ H pd = some (.dK (kvS m))
/-- small names and pieces -/
def SmM (m : List (Str × Str)) : Prop := m.length ≤ 40 ∧ ∀ e ∈ m, e.1.length ≤ 1000 ∧ SmT e.2
theorem Gw.store {H H' : Hp} {p pd : Addr} {m : List (Str × Str)} (g : Gw Ps H H') (t : Tb Ps H) (h : StoreAt C0 H p pd m) : StoreAt C0 H' p pd m := by
  obtain ⟨⟨dx, h1⟩, h2⟩ := h
  exact ⟨⟨dx, g.2 _ _ (t.not h1 fun _ z => by cases z) h1⟩, g.2 _ _ (t.not h2 fun _ z => by cases z) h2⟩
/-- all stays but the table pd -/
def Gp (Ps : List Addr) (pd : Addr) (H H' : Hp) : Prop := Tb Ps H' ∧ ∀ b o, b ∉ Ps → b ≠ pd → H b = some o → H' b = some o
theorem Gw.gp {pd : Addr} {H H' : Hp} (g : Gw Ps H H') : Gp Ps pd H H' := ⟨g.1, fun b o n _ e => g.2 b o n e⟩
theorem Gp.trans {pd : Addr} {H H1 H2 : Hp} (g : Gp Ps pd H H1) (h : Gp Ps pd H1 H2) : Gp Ps pd H H2 := ⟨h.1, fun b o n nd e => h.2 b o n nd (g.2 b o n nd e)⟩
theorem Gp.set {pd : Addr} {H H1 : Hp} {o : HO} (g : Gp Ps pd H H1) (nP : pd ∉ Ps) : Gp Ps pd H (upd H1 pd o) := ⟨g.1.upd nP, fun b u n nd e => by rw [upd_ne nd]; exact g.2 b u n nd e⟩
theorem Gp.rd {pd a : Addr} {H H' : Hp} {o0 u : HO} (g : Gp Ps pd H H') (t : Tb Ps H) (h0 : H pd = some o0) (n1 : o0 ≠ u) (n2 : ∀ o, o0 ≠ .frz o u) (nu : ∀ ps, u ≠ .tbl ps) (h : Rd H a u) : Rd H' a u := by
  rcases h with h | ⟨o, h⟩
  · exact .inl (g.2 _ _ (t.not h nu) (fun z => n1 (Option.some.inj (h0.symm.trans (z ▸ h)))) h)
  · exact .inr ⟨o, g.2 _ _ (t.not h fun ps z => by cases z) (fun z => n2 o (Option.some.inj (h0.symm.trans (z ▸ h)))) h⟩
theorem Gp.sqL {pd a : Addr} {H H' : Hp} {o0 : HO} {xs : List V} (g : Gp Ps pd H H') (t : Tb Ps H) (h0 : H pd = some o0) (n1 : ∀ xs, o0 ≠ .lst xs) (n2 : ∀ o u, o0 ≠ .frz o u) (h : SqL K H a xs) : SqL K H' a xs := h.elim (fun h => .inl (g.rd t h0 (n1 _) (fun _ => n2 _ _) (fun _ z => by cases z) h)) .inr
theorem Gp.sqT {pd a : Addr} {H H' : Hp} {o0 : HO} {xs : List V} (g : Gp Ps pd H H') (t : Tb Ps H) (h0 : H pd = some o0) (n1 : ∀ xs, o0 ≠ .tup xs) (n2 : ∀ o u, o0 ≠ .frz o u) (h : SqT K H a xs) : SqT K H' a xs := h.elim (fun h => .inl (g.rd t h0 (n1 _) (fun _ => n2 _ _) (fun _ z => by cases z) h)) .inr
def putS (m : List (Str × Str)) (a t : Str) : List (Str × Str) := if m.any (fun e => decide (e.1 = a)) then m.map fun e => if e.1 = a then (a, t) else e else m ++ [(a, t)]
theorem kvS_put (m : List (Str × Str)) (a t : Str) : putK (kvS m) (.inr a) (.str t) = kvS (putS m a t) := by
  unfold putK kvS putS
  have e1 : ((m.map fun e => ((.inr e.1 : Key), V.str e.2)).any fun kv => decide (kv.1 = .inr a)) = (m.any fun e => decide (e.1 = a)) := by
    rw [List.any_map]
    congr 1
    funext x
    show decide ((Sum.inr x.1 : Key) = Sum.inr a) = decide (x.1 = a)
    exact decide_eq_decide.mpr ⟨Sum.inr.inj, fun z => by rw [z]⟩
  rw [e1]
  split
  · rw [List.map_map, List.map_map]
    refine List.map_congr_left fun x _ => ?_
    show (if (Sum.inr x.1 : Key) = Sum.inr a then ((Sum.inr x.1 : Key), V.str t) else (Sum.inr x.1, V.str x.2)) = _
    by_cases c : x.1 = a
    · rw [if_pos (by rw [c])]
      simp [c]
    · rw [if_neg (fun z => c (Sum.inr.inj z))]
      simp [c]
  · rw [List.map_append]
    rfl
/-! __init__: slots self=0 rows=1 name=2 piece=3 -/
abbrev s_init : Stmt := inClass (topS 16) 0
theorem sc_init : FnScope ["self", "rows", "name", "piece"] ["self", "rows"] (defScope s_init) := ⟨rfl, rfl, rfl, by decide +kernel, rfl, by decide +kernel, by decide +kernel⟩
/-- the rows at a: pairs of texts -/
def RowsAt (K : PySem.W.Frag) (H : Hp) (a : Addr) (l : List (Addr × Str × Str)) : Prop := (SqL K H a (l.map fun e => V.ref e.1) ∨ SqT K H a (l.map fun e => V.ref e.1)) ∧ ∀ e ∈ l, SqT K H e.1 [.str e.2.1, .str e.2.2]
def tabOf (l : List (Addr × Str × Str)) : List (Str × Str) := l.foldl (fun m e => putS m e.2.1 e.2.2) []
def sp_init (K : PySem.W.Frag) (C0 : Addr) (Ps : List Addr) : Sp := fun vs H Q E => ∃ (p dx a : Addr) (l : List (Addr × Str × Str)), vs = [.ref p, .ref a] ∧ H p = some (.ins C0 dx []) ∧ RowsAt K H a l ∧ l.length ≤ 40 ∧ Tb Ps H ∧
  ∀ H' pd, Gp Ps p H H' → H pd = none → pd ≠ p → H' p = some (.ins C0 dx (stF pd)) → H' pd = some (.dK (kvS (tabOf l))) → Q .non H'
theorem putS_len (m : List (Str × Str)) (a t : Str) : (putS m a t).length ≤ m.length + 1 := by
  unfold putS
  split
  · rw [List.length_map]; omega
  · rw [List.length_append]; exact Nat.le_refl _
theorem tab_len (l : List (Addr × Str × Str)) : ∀ i, (tabOf (l.take i)).length ≤ i := by
  have : ∀ (l : List (Addr × Str × Str)) (m : List (Str × Str)), (l.foldl (fun m e => putS m e.2.1 e.2.2) m).length ≤ m.length + l.length := by
    intro l
    induction l with
    | nil => intro m; exact Nat.le_refl _
    | cons e r ih =>
      intro m
      rw [List.foldl_cons, List.length_cons]
      have := ih (putS m e.2.1 e.2.2)
      have := putS_len m e.2.1 e.2.2
      omega
  intro i
  have h := this (l.take i) []
  rw [List.length_take] at h
  exact Nat.le_trans h (by simp; omega)
theorem ok_init {f z : Addr} {fd : FuncData} {k : Nat} (F : FunD K "__init__" "Store.__init__" (defArgs s_init) (defBody s_init) (defScope s_init) [.ref z] [] f fd) (T : Txt K mg R Pp C0) : FnOk P w K mg base (L2.CX P w) (k + 1) f fd ["self", "rows"] (sp_init K C0 Ps) := by
  refine F.ok sc_init (fun vs H Q E h => ?_) (fun cdv A outer s H vs Q E hr h => ?_)
  · obtain ⟨p, dx, a, l, rfl, _⟩ := h
    rfl
  · obtain ⟨p, dx, a, l, rfl, hp, hR, ll, tb, hq⟩ := h
    have hu := hr.units
    have hu1 : (A.deeper (envOfC "Store.__init__" (defScope s_init) s.heap.objs.size f cdv)).units + 1 < cLine := by omega
    refine ⟨_, (pss_cons (ps_fld (pv 0) pe_dnewK rfl)
    (pss_one (ps_for (passes_of rfl) rfl (pi_seqV (pv 1)) (pg_tup rfl (pgs_cons (pg_name (i := 2) sc_init.nd rfl (.inl rfl)) (pgs_cons (pg_name (i := 3) sc_init.nd rfl (.inl rfl)) pgs_nil)))
      (pss_one (ps_dput hu1 (pe_fld (pv 0) rfl) (pv 2) (pv 3) rfl))))), ?_⟩
    walk_at "ev3"
    refine fun pd hpd => ⟨_, rfl, p, C0, dx, _, rfl, by rw [upd_ne (ne_of_none hp hpd)]; exact hp, T.cl, T.nPc, by decide, ?_⟩
    have npd : p ≠ pd := ne_of_none hp hpd
    have npP : p ∉ Ps := tb.not hp fun _ z => by cases z
    have ndP : pd ∉ Ps := tb.none hpd
    have g0 : Gp Ps p H (upd (upd H pd (.dK [])) p (.ins C0 dx (stF pd))) := (((Gw.refl tb).new (o := .dK []) hpd).gp (pd := p)).set npP
    have e1 : upd (upd H pd (.dK [])) p (.ins C0 dx (stF pd)) p = some (.ins C0 dx (stF pd)) := upd_same
    have e2 : upd (upd H pd (.dK [])) p (.ins C0 dx (stF pd)) pd = some (.dK []) := by rw [upd_ne npd.symm]; exact upd_same
    show tFor (iSeqV K 1) _ _ _ _ (upd (upd H pd (.dK [])) p (.ins C0 dx (stF pd)))
    generalize upd (upd H pd (.dK [])) p (.ins C0 dx (stF pd)) = G at g0 e1 e2 ⊢
    have inv : ∀ H', Gp Ps p H H' → (SqL K H a (l.map fun e => V.ref e.1) → SqL K H' a (l.map fun e => V.ref e.1)) ∧ (SqT K H a (l.map fun e => V.ref e.1) → SqT K H' a (l.map fun e => V.ref e.1)) ∧ ∀ e ∈ l, SqT K H' e.1 [.str e.2.1, .str e.2.2] := fun H' g =>
      ⟨fun h => g.sqL tb hp (fun _ z => by cases z) (fun _ _ z => by cases z) h, fun h => g.sqT tb hp (fun _ z => by cases z) (fun _ _ z => by cases z) h, fun e he => g.sqT tb hp (fun _ z => by cases z) (fun _ _ z => by cases z) (hR.2 e he)⟩
    have nxt : ∀ (i : Nat) (e : Addr × Str × Str) (z2 z3 : Option V) (H' : Hp) (D : L2.Ends), l[i]? = some e → Gp Ps p H H' → H' p = some (.ins C0 dx (stF pd)) → H' pd = some (.dK (kvS (tabOf (l.take i)))) →
        (∀ H'', Gp Ps p H H'' → H'' p = some (.ins C0 dx (stF pd)) → H'' pd = some (.dK (kvS (tabOf (l.take (i + 1))))) → D.nx [some (.ref p), some (.ref a), some (.str e.2.1), some (.str e.2.2)] H'') →
        gTup K 2 (gCons (gName 2) (gCons (gName 3) gNil)) (.ref e.1) [some (.ref p), some (.ref a), z2, z3] H' fun σ2 H2 => sDPut (tFld K (tVar 0) "pieces") (tVar 2) (tVar 3) D σ2 H2 := by
      intro i e z2 z3 H' D he gi i1 i2 k
      refine gTup2 ((inv H' gi).2.2 e (List.mem_of_getElem? he)) ?_
      simp only [List.set_cons_zero, List.set_cons_succ]
      refine ⟨_, rfl, _, rfl, p, C0, dx, _, _, rfl, i1, T.cl, T.nPc, stP pd, _, rfl, pd, _, rfl, DPut.k (k := .inr e.2.1) i2 ?_, ?_⟩
      · unfold kvS
        rw [List.length_map]
        have h1 := tab_len l i
        have h2 := (List.getElem?_eq_some_iff.mp he).1
        have : 100 ≤ sizeLine := by decide
        omega
      · have nddP : pd ∉ Ps := ndP
        have et : tabOf (l.take (i + 1)) = putS (tabOf (l.take i)) e.2.1 e.2.2 := by
          unfold tabOf
          rw [List.take_add_one, he, List.foldl_append]
          rfl
        refine k _ ⟨gi.1.upd ndP, fun b u n nb eb => ?_⟩ (by rw [upd_ne npd]; exact i1) ?_
        · rw [upd_ne (ne_of_none eb hpd)]
          exact gi.2 b u n nb eb
        · rw [upd_same, kvS_put, et]
    have fin : ∀ H', Gp Ps p H H' → H' p = some (.ins C0 dx (stF pd)) → H' pd = some (.dK (kvS (tabOf (l.take l.length)))) → Q .non H' := fun H' g i1 i2 => by
      rw [List.take_length] at i2
      exact hq H' pd g hpd npd.symm i1 i2
    have len : (l.map fun e => V.ref e.1).length = l.length := List.length_map ..
    refine ⟨a, rfl, ?_⟩
    rcases hR.1 with ha | ha
    · refine .inl ⟨⟨_, (inv G g0).1 ha⟩, for_list (xs := l.map fun e => V.ref e.1) (fun i σ H' => (∃ z2 z3, σ = [some (.ref p), some (.ref a), z2, z3]) ∧ Gp Ps p H H' ∧ H' p = some (.ins C0 dx (stF pd)) ∧ H' pd = some (.dK (kvS (tabOf (l.take i))))) ⟨⟨_, _, rfl⟩, g0, e1, e2⟩ (fun i σ H' _ z => (inv H' z.2.1).1 ha) ?_ ?_⟩
      · rintro i x σ H' hx ⟨⟨z2, z3, rfl⟩, gi, i1, i2⟩
        rw [List.getElem?_map] at hx
        obtain ⟨e, he, rfl⟩ := Option.map_eq_some_iff.mp hx
        exact nxt i e z2 z3 H' _ he gi i1 i2 fun H'' g j1 j2 => ⟨⟨_, _, rfl⟩, g, j1, j2⟩
      · rintro σ H' ⟨_, gi, i1, i2⟩
        rw [len] at i2
        exact fin H' gi i1 i2
    · refine .inr ⟨⟨_, (inv G g0).2.1 ha⟩, for_tup (xs := l.map fun e => V.ref e.1) (fun i σ H' => (∃ z2 z3, σ = [some (.ref p), some (.ref a), z2, z3]) ∧ Gp Ps p H H' ∧ H' p = some (.ins C0 dx (stF pd)) ∧ H' pd = some (.dK (kvS (tabOf (l.take i))))) ⟨⟨_, _, rfl⟩, g0, e1, e2⟩ (fun i σ H' _ z => (inv H' z.2.1).2.1 ha) ?_ ?_⟩
      · rintro i x σ H' hx ⟨⟨z2, z3, rfl⟩, gi, i1, i2⟩
        rw [List.getElem?_map] at hx
        obtain ⟨e, he, rfl⟩ := Option.map_eq_some_iff.mp hx
        exact nxt i e z2 z3 H' _ he gi i1 i2 fun H'' g j1 j2 => ⟨⟨_, _, rfl⟩, g, j1, j2⟩
      · rintro σ H' ⟨_, gi, i1, i2⟩
        rw [len] at i2
        exact fin H' gi i1 i2
end
end K3

set_option maxRecDepth 100000
set_option maxHeartbeats 4000000
namespace K3
open PySem PySem.Spec PyProof.Rows L2
open XT (Sm pe_msg)
open SkE (pmk_own1)
section
theorem chs_append (a b : Str) : chs (a ++ b) = chs a ++ chs b := by
  show (a.cps ++ b.cps).toList = _
  simp [chs]
theorem chs_inj {a b : Str} (h : chs a = chs b) : a = b := by
  obtain ⟨x⟩ := a
  obtain ⟨y⟩ := b
  have h : x.toList = y.toList := h
  have : x = y := Array.toList_inj.mp h
  rw [this]
theorem empty_app (a : Str) : Str.empty ++ a = a := chs_inj (by rw [chs_append]; rfl)
def ts (n : Nat) : Str := Str.ofString (toString ((n : Nat) : Int))
theorem ts_inj50 : ∀ a < 50, ∀ b < 50, ts a = ts b → a = b := by decide +kernel
theorem nmS_eq (t : Str) (n : Nat) : nmS t n = Str.empty ++ Str.ofString (toString ((fig t : Nat) : Int)) ++ Str.ofString "." ++ Str.ofString (toString ((n : Nat) : Int)) := by
  rw [empty_app]
  rfl
theorem nmS_inj {t : Str} {a b : Nat} (ha : a < 50) (hb : b < 50) (h : nmS t a = nmS t b) : a = b := by
  refine ts_inj50 a ha b hb (chs_inj ?_)
  have h := congrArg chs h
  unfold nmS at h
  rw [chs_append, chs_append _ (Str.ofString (toString ((b : Nat) : Int)))] at h
  exact List.append_cancel_left h
def look (m : List (Str × Str)) (a : Str) : Option Str := (m.find? fun e => decide (e.1 = a)).map (·.2)
theorem val_look (m : List (Str × Str)) (a : Str) : valV (kvS m) (.inr a) = (look m a).map V.str := by
  unfold valV kvS look
  rw [List.find?_map]
  have e : ((fun kv : Key × V => decide (kv.1 = .inr a)) ∘ fun e : Str × Str => ((.inr e.1 : Key), V.str e.2)) = fun e : Str × Str => decide (e.1 = a) := by
    funext e
    show decide ((Sum.inr e.1 : Key) = Sum.inr a) = _
    exact decide_eq_decide.mpr ⟨Sum.inr.inj, fun z => by rw [z]⟩
  rw [e]
  cases m.find? fun e => decide (e.1 = a) <;> rfl
theorem look_mem {m : List (Str × Str)} {a t : Str} (h : look m a = some t) : (a, t) ∈ m := by
  unfold look at h
  obtain ⟨e, he, rfl⟩ := Option.map_eq_some_iff.mp h
  have h1 := List.find?_some he
  have h2 : e.1 = a := by simpa using h1
  rw [← h2]
  exact List.mem_of_find?_eq_some he
theorem len_leS : ∀ {a b : List Str}, a.Nodup → (∀ x ∈ a, x ∈ b) → a.length ≤ b.length
  | [], _, _, _ => Nat.zero_le _
  | x :: a, b, h, s => by
    obtain ⟨n1, n2⟩ := List.nodup_cons.mp h
    have hx := s x (List.mem_cons_self ..)
    have ih := len_leS (a := a) (b := b.erase x) n2 fun y hy => by
      have hy2 := s y (List.mem_cons_of_mem _ hy)
      exact (List.mem_erase_of_ne (fun (z : y = x) => n1 (by rw [← z]; exact hy))).mpr hy2
    rw [List.length_erase_of_mem hx] at ih
    have : 0 < b.length := List.length_pos_of_mem hx
    rw [List.length_cons]
    omega
/-- so many names of a figure that stand are no more than all -/
theorem few {m : List (Str × Str)} {t : Str} {n : Nat} (hn : n ≤ 49) (h : ∀ k < n, (look m (nmS t k)).isSome = true) : n ≤ m.length := by
  have h1 : ((List.range n).map (nmS t)).length ≤ (m.map (·.1)).length := by
    refine len_leS ?_ fun x hx => ?_
    · refine List.pairwise_map.mpr (List.Pairwise.imp_of_mem ?_ List.nodup_range)
      intro a b ha hb ne e
      have ha := List.mem_range.mp ha
      have hb := List.mem_range.mp hb
      exact ne (nmS_inj (by omega) (by omega) e)
    · obtain ⟨k, hk, rfl⟩ := List.mem_map.mp hx
      obtain ⟨v, hv⟩ := Option.isSome_iff_exists.mp (h k (List.mem_range.mp hk))
      exact List.mem_map.mpr ⟨_, look_mem hv, rfl⟩
  rw [List.length_map, List.length_map, List.length_range] at h1
  exact h1
variable {P : Program} {w : World} {K : PySem.W.Frag} {mg : Str → Option Value} {base : Heap} {R Pp C0 : Addr} {Ps : List Addr}
/-! free_name: slots self=0 piece=1 head=2 number=3 -/
abbrev s_free : Stmt := inClass (topS 16) 2
theorem sc_free : FnScope ["self", "piece", "head", "number"] ["self", "piece"] (defScope s_free) := ⟨rfl, rfl, rfl, by decide +kernel, rfl, by decide +kernel, by decide +kernel⟩
def sp_free (C0 : Addr) (Ps : List Addr) : Sp := fun vs H Q E => ∃ (p pd : Addr) (m : List (Str × Str)) (t : Str), vs = [.ref p, .str t] ∧ StoreAt C0 H p pd m ∧ SmM m ∧ SmT t ∧ Tb Ps H ∧ ∀ n, (∀ k < n, (look m (nmS t k)).isSome = true) → look m (nmS t n) = none → n ≤ 40 → Q (.str (nmS t n)) H
theorem ts_len (n : Nat) (h : n < 10 ^ 7) : (ts n).length ≤ 1000 := by
  have e := int_text_length_le10 (a := ((n : Nat) : Int)) (k := 7) (by decide) h
  unfold ts
  rw [PySem.ofString_length]
  omega
/-- f"{head}.{number}" -/
theorem nmE {t : Str} {n : Nat} {σ : L2.St} {H : Hp} {kq : Str → Hp → Prop} (h2 : σ[2]? = some (some (.int (fig t : Nat)))) (h3 : σ[3]? = some (some (.int (n : Nat)))) (hn : n ≤ 49) (q : kq (nmS t n) H) :
    tJs [tFmt (tVar 2), tC (.str (Str.ofString ".")), tFmt (tVar 3)] Str.empty σ H kq := by
  have l1 : (Str.ofString (toString ((fig t : Nat) : Int))).length ≤ 1000 := ts_len _ (Nat.lt_trans (figN_lt _) (by decide))
  have l2 : (Str.ofString (toString ((n : Nat) : Int))).length ≤ 1000 := ts_len _ (by omega)
  have l3 : (Str.ofString ".").length = 1 := rfl
  have l0 : Str.empty.length = 0 := rfl
  have big : 3000 ≤ sizeLine := by decide
  refine ⟨_, h2, .inr ⟨_, rfl, log_fig t, _, rfl, ?_, _, rfl, ?_, _, h3, .inr ⟨_, rfl, log_small (Nat.lt_of_le_of_lt hn (by decide)), _, rfl, ?_, ?_⟩⟩⟩
  · rw [XT.str_app_len]; omega
  · rw [XT.str_app_len, XT.str_app_len]; omega
  · rw [XT.str_app_len, XT.str_app_len, XT.str_app_len]; omega
  · rw [← nmS_eq]
    exact q
theorem ok_free {f f1 : Addr} {fd fd1 : FuncData} {k k1 : Nat} (F : Fun K "free_name" "Store.free_name" s_free f fd) (T : Txt K mg R Pp C0) (G1 : Cal P w K mg base (L2.CX P w) k1 "figure" ["text"] sp_figure f1 fd1) (h1 : k1 ≤ k) : FnOk P w K mg base (L2.CX P w) (k + 1) f fd ["self", "piece"] (sp_free C0 Ps) := by
  refine F.okX sc_free (fun vs H Q E h => ?_) (fun cdv A outer s H vs Q E hr h => ?_)
  · obtain ⟨p, pd, m, t, rfl, _⟩ := h
    rfl
  · obtain ⟨p, pd, m, t, rfl, ⟨⟨dx, hp⟩, hpd⟩, sm, st, tb, hq⟩ := h
    have hu := hr.units
    have hu1 : (A.deeper (envOfC "Store.free_name" (defScope s_free) s.heap.objs.size f cdv)).units + 1 < cLine := by omega
    refine ⟨_, (pss_cons (ps_set (i := 2) sc_free.nd rfl (.inl rfl) (pe_call G1.ok (hr.mono h1) (by rfl) G1.g G1.kp G1.b .nil passF (pa_cons (pv 1) pa_nil)))
    (pss_cons (ps_set (i := 3) sc_free.nd rfl (.inl rfl) pe_int)
    (pss_cons (ps_while (passes_of rfl) (pt_cmp (pc_din hu1 (pe_joined (.cons (pe_fmt (pv 2)) (.cons pe_str (.cons (pe_fmt (pv 3)) .nil)))) (pe_fld (pv 0) rfl)) (by with_unfolding_all rfl))
      (pss_one (ps_aug (i := 3) sc_free.nd rfl (.inl rfl) pe_int ip_add)))
    (pss_one (ps_ret (pe_joined (.cons (pe_fmt (pv 2)) (.cons pe_str (.cons (pe_fmt (pv 3)) .nil)))))))))
    , ?_⟩
    refine ⟨_, rfl, t, rfl, st, ?_⟩
    refine ⟨fun j σ G => G = H ∧ ∃ n, j + n = 41 ∧ n ≤ 40 ∧ σ = [some (.ref p), some (.str t), some (.int (fig t : Nat)), some (.int (n : Nat))] ∧ ∀ k < n, (look m (nmS t k)).isSome = true, ⟨41, rfl, 0, rfl, by decide, rfl, fun k hk => absurd hk (by omega)⟩, ?_⟩
    rintro j σ G ⟨rfl, n, hj, hn, rfl, al⟩
    refine nmE (t := t) (n := n) rfl rfl (by omega) ?_
    refine ⟨_, rfl, p, C0, dx, _, _, rfl, hp, T.cl, T.nPc, stP pd, pd, _, rfl, DGet.k (k := .inr (nmS t n)) hpd, _, rfl, ?_⟩
    rw [val_look]
    cases hl : look m (nmS t n) with
    | none =>
      refine nmE (t := t) (n := n) rfl rfl (by omega) ?_
      exact hq n al hl hn
    | some v =>
      have al2 : ∀ k < n + 1, (look m (nmS t k)).isSome = true := fun k hk => by
        by_cases e : k = n
        · rw [e, hl]; rfl
        · exact al k (by omega)
      have h40 := few (n := n + 1) (by omega) al2
      have hm := sm.1
      refine ⟨_, fun σ' H' z => z, ?_⟩
      refine ⟨_, rfl, _, _, rfl, rfl, j - 1, by omega, rfl, n + 1, by omega, by omega, ?_, al2⟩
      rw [show ((n + 1 : Nat) : Int) = ((n : Nat) : Int) + 1 by omega]
      rfl
end
end K3

set_option maxRecDepth 100000
set_option maxHeartbeats 4000000
namespace K3
open PySem PySem.Spec PyProof.Rows L2
open XT (Sm pe_msg)
open SkE (pmk_own1)
section
theorem pg_tupK {X : Cx} {K0 : PySem.W.Frag} {es : List Expr} {k : Nat} {t : TGs} {n : Nat} {pos : Pos} (hK : X.K = K0) (hc : X.calm = true) (h : PGs X es t)
    (hn : (assignEach es X.env).length = n := by rfl) (hst : (assignEach es X.env).findIdx? (·.1) = none := by rfl) : PG X (.Tuple es k pos) (gTup K0 n t) := by
  subst hK
  exact pg_tup hc h hn hst
variable {P : Program} {w : World} {K : PySem.W.Frag} {mg : Str → Option Value} {base : Heap} {R Pp C0 : Addr} {Ps : List Addr}
/-! find: slots self=0 piece=1 head=2 number=3 found=4 name=5 held=6 -/
abbrev s_find : Stmt := inClass (topS 16) 4
theorem sc_find : FnScope ["self", "piece", "head", "number", "found", "name", "held"] ["self", "piece"] (defScope s_find) := ⟨rfl, rfl, rfl, by decide +kernel, rfl, by decide +kernel, by decide +kernel⟩
theorem bk_find : BlkOk ["self", "piece", "head", "number", "found", "name", "held"] (defScope s_find) { kind := ScopeKind.function, names := [(".0", NameKind.local), ("name", NameKind.local), ("held", NameKind.local), ("is_right", NameKind.globalImplicit), ("piece", NameKind.free)], isGenerator := false, isCoroutine := false } [("name", 5), ("held", 6)] := blkOk_by (by decide +kernel)
/-- the names that stand for t and tell it -/
def namesOf (m : List (Str × Str)) (t : Str) : List Str := (m.filter fun e => decide (e.2 = t) && right e.1 t).map (·.1)
/-- ahead of n each number's name has another piece -/
def Ahead (m : List (Str × Str)) (t : Str) (n : Nat) : Prop := ∀ k < n, ∃ v, look m (nmS t k) = some v ∧ v ≠ t
def sp_find (C0 : Addr) (Ps : List Addr) : Sp := fun vs H Q E => ∃ (p pd : Addr) (m : List (Str × Str)) (t : Str), vs = [.ref p, .str t] ∧ StoreAt C0 H p pd m ∧ SmM m ∧ SmT t ∧ Tb Ps H ∧ (namesOf m t ≠ [] → ∃ x, x ∈ namesOf m t ∧ ∀ y ∈ namesOf m t, y = x) ∧
  (∀ n H', Ahead m t n → look m (nmS t n) = some t → Gw Ps H H' → Q (.str (nmS t n)) H') ∧
  (∀ n H', Ahead m t n → look m (nmS t n) = none → Gw Ps H H' → (namesOf m t = [] → Q .non H') ∧ ∀ x ∈ namesOf m t, Q (.str x) H')
theorem ok_find {f f1 f2 : Addr} {fd fd1 fd2 : FuncData} {k k1 k2 : Nat} (F : Fun K "find" "Store.find" s_find f fd) (T : Txt K mg R Pp C0) (G1 : Cal P w K mg base (L2.CX P w) k1 "figure" ["text"] sp_figure f1 fd1) (G2 : Cal P w K mg base (L2.CX P w) k2 "is_right" ["name", "piece"] (sp_is_right Ps) f2 fd2) (h1 : k1 ≤ k) (h2 : k2 ≤ k) : FnOk P w K mg base (L2.CX P w) (k + 1) f fd ["self", "piece"] (sp_find C0 Ps) := by
  refine F.okX sc_find (fun vs H Q E h => ?_) (fun cdv A outer s H vs Q E hr h => ?_)
  · obtain ⟨p, pd, m, t, rfl, _⟩ := h
    rfl
  · obtain ⟨p, pd, m, t, rfl, ⟨⟨dx, hp⟩, hpd⟩, sm, st, tb, uq, hit, miss⟩ := h
    have hu := hr.units
    have hu1 : (A.deeper (envOfC "Store.find" (defScope s_find) s.heap.objs.size f cdv)).units + 1 < cLine := by omega
    refine ⟨_, (pss_cons (ps_set (i := 2) sc_find.nd rfl (.inl rfl) (pe_call G1.ok (hr.mono h1) (by rfl) G1.g G1.kp G1.b .nil passF (pa_cons (pv 1) pa_nil)))
    (pss_cons (ps_set (i := 3) sc_find.nd rfl (.inl rfl) pe_int)
    (pss_cons (ps_while (passes_of rfl) (pt_cmp (pc_din hu1 (pe_joined (.cons (pe_fmt (pv 2)) (.cons pe_str (.cons (pe_fmt (pv 3)) .nil)))) (pe_fld (pv 0) rfl)) (by with_unfolding_all rfl))
      (pss_cons (ps_if (pt_cmpR op_eq (pe_dget hu1 (pe_fld (pv 0) rfl) (pe_joined (.cons (pe_fmt (pv 2)) (.cons pe_str (.cons (pe_fmt (pv 3)) .nil)))) (fun _ _ => rfl)) (pv 1) (nomark _))
        (pss_one (ps_ret (pe_joined (.cons (pe_fmt (pv 2)) (.cons pe_str (.cons (pe_fmt (pv 3)) .nil)))))) pss_nil)
      (pss_one (ps_aug (i := 3) sc_find.nd rfl (.inl rfl) pe_int ip_add))))
    (pss_cons (L2.ps_lock (ps_setLc (i := 4) (own := [("name", 5), ("held", 6)]) rfl sc_find.nd rfl rfl (sw_true rfl rfl rfl (by rfl)) (pi_items (pe_fld (pv 0) rfl)) bk_find (fun _ _ _ _ _ => (pg_tupK (K0 := K) (n := 2) rfl rfl (pgs_cons (pg_name (i := 5) sc_find.nd rfl (.inl rfl)) (pgs_cons (pg_name (i := 6) sc_find.nd rfl (.inl rfl)) pgs_nil)))) (fun _ _ _ _ _ => (pts_one (PW.pt (pw_and (pt_cmpR op_eq (pv 6) (pv 1) (nomark _)) (pw_and1 (pt_val (pe_call G2.ok (hr.mono h2) (by rfl) G2.g G2.kp G2.b .nil passF (pa_cons (pv 5) (pa_cons (pv 1) pa_nil))))))))) (fun _ _ _ _ _ => (pv 5))))
    (pss_one (ps_ret (pe_callBK (RU.cr_minDfS rfl hr.units) (by rfl) T.z_min (by decide +kernel) (pa_cons (pv 4) pa_nil) (pk_cons pe_non pk_nil)))))))), ?_⟩
    refine ⟨_, rfl, t, rfl, st, ?_⟩
    refine ⟨fun j σ G => G = H ∧ ∃ n, j + n = 41 ∧ n ≤ 40 ∧ σ = [some (.ref p), some (.str t), some (.int (fig t : Nat)), some (.int (n : Nat)), none, none, none] ∧ Ahead m t n, ⟨41, rfl, 0, rfl, by decide, rfl, fun k hk => absurd hk (by omega)⟩, ?_⟩
    rintro j σ G ⟨rfl, n, hj, hn, rfl, al⟩
    refine nmE (t := t) (n := n) rfl rfl (by omega) ?_
    refine ⟨_, rfl, p, C0, dx, _, _, rfl, hp, T.cl, T.nPc, stP pd, pd, _, rfl, DGet.k (k := .inr (nmS t n)) hpd, _, rfl, ?_⟩
    rw [val_look]
    cases hl : look m (nmS t n) with
    | none =>
      refine ⟨pd, _, hpd, True.intro, fun od => ?_⟩
      have npp : p ≠ pd := fun z => by
        rw [z, hpd] at hp
        cases hp
      have ndP : pd ∉ Ps := tb.not hpd fun _ z => by cases z
      have hpf : upd G pd (.frz od (.dK (kvS m))) p = some (.ins C0 dx (stF pd)) := by rw [upd_ne npp]; exact hp
      refine ⟨_, rfl, p, C0, dx, _, _, rfl, hpf, T.cl, T.nPc, stP pd, pd, od, kvS m, rfl, upd_same, fun D' hD => ?_⟩
      have nDd : D' ≠ pd := (upd_none hD).2
      have hDG : G D' = none := (upd_none hD).1
      have nDP : D' ∉ Ps := tb.none hDG
      have g0 : Gp Ps pd G (upd G pd (.frz od (.dK (kvS m)))) := ((Gw.refl tb).gp (pd := pd)).set ndP
      have gD : ∀ {G1 : Hp} {o : HO}, Gp Ps pd G G1 → Gp Ps pd G (upd G1 D' o) := fun {G1 o} g => ⟨g.1.upd nDP, fun b u n nb e => by
        rw [upd_ne (ne_of_none e hDG)]
        exact g.2 b u n nb e⟩
      refine lc_it walk_items (fun i G' => Gp Ps pd G G' ∧ G' pd = some (.frz od (.dK (kvS m))) ∧ G' D' = some (.lst ((namesOf (m.take i) t).map V.str))) ⟨gD g0, by rw [upd_ne nDd.symm]; exact upd_same, upd_same⟩ (fun i G' _ z => z.2.1) ?_ ?_
      · rintro i x H' H'' hi ⟨gi, hf, hG⟩ ⟨T', y, z, rfl, hT, rfl, e1, e2⟩
        obtain ⟨e, he⟩ : ∃ e, m[i]? = some e := by
          have : i < m.length := by
            unfold kvS at hi
            rw [List.length_map] at hi
            exact hi
          exact ⟨_, List.getElem?_eq_getElem this⟩
        have em := List.mem_of_getElem? he
        have ek : (kvS m)[i]? = some (.inr e.1, .str e.2) := by
          unfold kvS
          rw [List.getElem?_map, he]
          rfl
        have e1 : (kvS m)[i]?.map (fun kv => kV kv.1) = some y := e1
        have e2 : (kvS m)[i]?.map Prod.snd = some z := e2
        rw [ek] at e1 e2
        obtain rfl : V.str e.1 = y := Option.some.inj e1
        obtain rfl : V.str e.2 = z := Option.some.inj e2
        have nDT : D' ≠ T' := ne_of_none hG hT
        have ndT : pd ≠ T' := ne_of_none hf hT
        have gT : Gp Ps pd G (upd H' T' (.tup [.str e.1, .str e.2])) := gi.trans (((Gw.refl gi.1).new hT).gp)
        have tk : namesOf (m.take (i + 1)) t = namesOf (m.take i) t ++ (if (decide (e.2 = t) && right e.1 t) = true then [e.1] else []) := by
          unfold namesOf
          rw [List.take_add_one, he, List.filter_append, List.map_append]
          congr 1
          show (([e].filter fun e => decide (e.2 = t) && right e.1 t).map (·.1)) = _
          by_cases q : (decide (e.2 = t) && right e.1 t) = true
          · rw [if_pos q, List.filter_cons, if_pos q]
            rfl
          · rw [if_neg q, List.filter_cons, if_neg q]
            rfl
        have no : (decide (e.2 = t) && right e.1 t) = false → ∀ H3, Gw Ps (upd H' T' (.tup [.str e.1, .str e.2])) H3 → Gp Ps pd G H3 ∧ H3 pd = some (.frz od (.dK (kvS m))) ∧ H3 D' = some (.lst ((namesOf (m.take (i + 1)) t).map V.str)) := fun q H3 g3 => by
          rw [tk, q]
          refine ⟨gT.trans g3.gp, g3.2 _ _ ndP (by rw [upd_ne ndT]; exact hf), ?_⟩
          simp only [Bool.false_eq_true, if_false, List.append_nil]
          exact g3.2 _ _ nDP (by rw [upd_ne nDT]; exact hG)
        refine gTup2 (SqT_of upd_same) ?_
        refine ⟨rfl, ?_⟩
        simp only [wipe, List.map_cons, List.map_nil, List.foldl_cons, List.foldl_nil, List.set_cons_zero, List.set_cons_succ]
        refine ⟨_, rfl, _, rfl, rfl, _, rfl, ?_⟩
        by_cases q1 : e.2 = t
        · rw [show decide (V.str e.2 = V.str t) = true by simp [q1]]
          refine ⟨_, rfl, _, rfl, e.1, t, rfl, (sm.2 e em).1, st, gT.1, fun H3 g3 => ⟨_, rfl, ?_⟩⟩
          by_cases q2 : right e.1 t = true
          · rw [q2]
            have hD3 := g3.2 _ _ nDP (show upd H' T' (.tup [.str e.1, .str e.2]) D' = _ by rw [upd_ne nDT]; exact hG)
            refine ⟨_, rfl, _, hD3, ?_, gD (gT.trans g3.gp), ?_, ?_⟩
            · rw [List.length_map]
              have h1 : (namesOf (m.take i) t).length ≤ m.length := by
                unfold namesOf
                rw [List.length_map]
                refine Nat.le_trans (List.length_filter_le _ _) ?_
                rw [List.length_take]
                exact Nat.min_le_right _ _
              have := sm.1
              have : 100 ≤ sizeLine := by decide
              omega
            · rw [upd_ne nDd.symm]
              exact g3.2 _ _ ndP (by rw [upd_ne ndT]; exact hf)
            · rw [upd_same, tk, q1, q2]
              simp
          · have q2 : right e.1 t = false := by simpa using q2
            rw [q2]
            exact no (by rw [q2]; simp) H3 g3
        · rw [show decide (V.str e.2 = V.str t) = false by simp [q1]]
          exact no (by simp [q1]) _ (Gw.refl gT.1)
      · rintro H' ⟨gi, hf, hG⟩
        have el : (kvS m).length = m.length := by unfold kvS; rw [List.length_map]
        rw [el, List.take_length] at hG
        refine ⟨hf, ?_⟩
        have gw : Gw Ps G (upd H' pd (.dK (kvS m))) := ⟨gi.1.upd ndP, fun b u nb eb => by
          by_cases z : b = pd
          · subst z
            rw [upd_same, ← hpd]
            exact eb
          · rw [upd_ne z]
            exact gi.2 b u nb z eb⟩
        obtain ⟨m1, m2⟩ := miss n _ al hl gw
        refine ⟨_, rfl, D', namesOf m t, .non, rfl, rfl, SqL.of (by rw [upd_ne nDd]; exact hG), m1, fun x hx _ => m2 x hx, uq⟩
    | some v =>
      refine ⟨_, fun σ' H' z => z, ?_⟩
      refine ⟨_, rfl, p, C0, dx, _, _, rfl, hp, T.cl, T.nPc, stP pd, ?_⟩
      refine nmE (t := t) (n := n) rfl rfl (by omega) ?_
      refine ⟨pd, _, rfl, by have := DGet.k (k := .inr (nmS t n)) hpd; rw [val_look, hl] at this; exact this, _, rfl, rfl, _, rfl, ?_⟩
      by_cases e : v = t
      · subst e
        rw [show decide (V.str v = V.str v) = true by simp]
        refine nmE (t := v) (n := n) rfl rfl (by omega) ?_
        exact hit n G al hl (Gw.refl tb)
      · rw [show decide (V.str v = V.str t) = false by simp [e]]
        have al2 : Ahead m t (n + 1) := fun k hk => by
          by_cases e2 : k = n
          · rw [e2]; exact ⟨v, hl, e⟩
          · exact al k (by omega)
        have h40 := few (t := t) (n := n + 1) (by omega) fun k hk => by
          obtain ⟨v, hv, _⟩ := al2 k hk
          rw [hv]; rfl
        have hm := sm.1
        refine ⟨_, rfl, _, _, rfl, rfl, j - 1, by omega, rfl, n + 1, by omega, by omega, ?_, al2⟩
        rw [show ((n + 1 : Nat) : Int) = ((n : Nat) : Int) + 1 by omega]
        rfl
end
end K3

set_option maxRecDepth 100000
set_option maxHeartbeats 4000000
namespace K3
open PySem PySem.Spec PyProof.Rows L2
open XT (Sm pe_msg)
open SkE (pmk_own1)
section
variable {P : Program} {w : World} {K : PySem.W.Frag} {mg : Str → Option Value} {base : Heap} {R Pp C0 : Addr} {Ps : List Addr}
theorem Ahead.some {m : List (Str × Str)} {t : Str} {n : Nat} (h : Ahead m t n) : ∀ k < n, (look m (nmS t k)).isSome = true := fun k hk => by
  obtain ⟨v, hv, _⟩ := h k hk
  rw [hv]; rfl
/-! put: slots self=0 piece=1 name=2 -/
abbrev s_put : Stmt := inClass (topS 16) 1
theorem sc_put : FnScope ["self", "piece", "name"] ["self", "piece"] (defScope s_put) := ⟨rfl, rfl, rfl, by decide +kernel, rfl, by decide +kernel, by decide +kernel⟩
def sp_put (C0 : Addr) (Ps : List Addr) : Sp := fun vs H Q E => ∃ (p pd : Addr) (m : List (Str × Str)) (t : Str), vs = [.ref p, .str t] ∧ StoreAt C0 H p pd m ∧ SmM m ∧ SmT t ∧ Tb Ps H ∧ (namesOf m t ≠ [] → ∃ x, x ∈ namesOf m t ∧ ∀ y ∈ namesOf m t, y = x) ∧
  (∀ n H', Ahead m t n → look m (nmS t n) = some t → Gw Ps H H' → Q (.str (nmS t n)) H') ∧
  (∀ n, Ahead m t n → look m (nmS t n) = none → (namesOf m t = [] → ∀ H', Gp Ps pd H H' → H' pd = some (.dK (kvS (putS m (nmS t n) t))) → Q (.str (nmS t n)) H') ∧ ∀ x ∈ namesOf m t, ∀ H', Gw Ps H H' → Q (.str x) H')
theorem ok_put {f f1 f2 : Addr} {fd fd1 fd2 : FuncData} {k k1 k2 : Nat} (F : Fun K "put" "Store.put" s_put f fd) (T : Txt K mg R Pp C0)
    (M1 : MCal P w K mg base (L2.CX P w) k1 C0 "find" ["self", "piece"] (sp_find C0 Ps) f1 fd1) (M2 : MCal P w K mg base (L2.CX P w) k2 C0 "free_name" ["self", "piece"] (sp_free C0 Ps) f2 fd2) (h1 : k1 ≤ k) (h2 : k2 ≤ k) : FnOk P w K mg base (L2.CX P w) (k + 1) f fd ["self", "piece"] (sp_put C0 Ps) := by
  refine F.okX sc_put (fun vs H Q E h => ?_) (fun cdv A outer s H vs Q E hr h => ?_)
  · obtain ⟨p, pd, m, t, rfl, _⟩ := h
    rfl
  · obtain ⟨p, pd, m, t, rfl, ⟨⟨dx, hp⟩, hpd⟩, sm, st, tb, uq, hit, miss⟩ := h
    have hu := hr.units
    have hu1 : (A.deeper (envOfC "Store.put" (defScope s_put) s.heap.objs.size f cdv)).units + 1 < cLine := by omega
    refine ⟨_, (pss_cons (ps_set (i := 2) sc_put.nd rfl (.inl rfl) (pe_meth (pv 0) T.cl M1.m M1.ok (hr.mono h1) M1.b .nil passF (pa_cons (pv 1) pa_nil)))
    (pss_cons (ps_if (pt_cmpR op_isN (pv 2) pe_non (nomark _))
      (pss_cons (ps_set (i := 2) sc_put.nd rfl (.inl rfl) (pe_meth (pv 0) T.cl M2.m M2.ok (hr.mono h2) M2.b .nil passF (pa_cons (pv 1) pa_nil)))
    (pss_one (ps_dput hu1 (pe_fld (pv 0) rfl) (pv 2) (pv 1) rfl))) pss_nil)
    (pss_one (ps_ret (pv 2))))), ?_⟩
    have npp : p ≠ pd := fun z => by
      rw [z, hpd] at hp
      cases hp
    have ndP : pd ∉ Ps := tb.not hpd fun _ z => by cases z
    have npP : p ∉ Ps := tb.not hp fun _ z => by cases z
    refine ⟨_, rfl, p, dx, _, rfl, hp, rfl, _, rfl, p, pd, m, t, rfl, ⟨⟨dx, hp⟩, hpd⟩, sm, st, tb, uq, fun n H' al hl gw => ?_, fun n H' al hl gw => ⟨fun e => ?_, fun x hx => ?_⟩⟩
    · refine ⟨_, rfl, rfl, _, rfl, ?_⟩
      rw [show decide (V.str (nmS t n) = V.non) = false by simp]
      exact ⟨_, rfl, hit n H' al hl gw⟩
    · have hp' := gw.2 _ _ npP hp
      have hpd' := gw.2 _ _ ndP hpd
      refine ⟨_, rfl, rfl, _, rfl, ?_⟩
      rw [show decide (V.non = V.non) = true by simp]
      refine ⟨_, rfl, p, dx, _, rfl, hp', rfl, _, rfl, p, pd, m, t, rfl, ⟨⟨dx, hp'⟩, hpd'⟩, sm, st, gw.1, fun n2 a2 l2 n40 => ?_⟩
      have en : n2 = n := by
        rcases Nat.lt_trichotomy n2 n with c | c | c
        · have := al.some n2 c
          rw [l2] at this
          cases this
        · exact c
        · have := a2 n c
          rw [hl] at this
          cases this
      subst en
      refine ⟨_, rfl, _, rfl, p, C0, dx, _, _, rfl, hp', T.cl, T.nPc, stP pd, _, rfl, pd, _, rfl, DPut.k (k := .inr (nmS t n2)) hpd' ?_, _, rfl, ?_⟩
      · unfold kvS
        rw [List.length_map]
        have := sm.1
        have : 100 ≤ sizeLine := by decide
        omega
      · rw [kvS_put]
        exact (miss n2 al hl).1 e _ ((gw.gp (pd := pd)).set ndP) upd_same
    · refine ⟨_, rfl, rfl, _, rfl, ?_⟩
      rw [show decide (V.str x = V.non) = false by simp]
      exact ⟨_, rfl, (miss n al hl).2 x hx H' gw⟩
/-! drop: slots self=0 name=1 -/
abbrev s_drop : Stmt := inClass (topS 16) 5
theorem sc_drop : FnScope ["self", "name"] ["self", "name"] (defScope s_drop) := ⟨rfl, rfl, rfl, by decide +kernel, rfl, by decide +kernel, by decide +kernel⟩
def dropS (m : List (Str × Str)) (a : Str) : List (Str × Str) := m.filter fun e => decide (e.1 ≠ a)
theorem kvS_drop (m : List (Str × Str)) (a : Str) : dropK (kvS m) (.inr a) = kvS (dropS m a) := by
  unfold dropK kvS dropS
  rw [List.filter_map]
  congr 1
  refine List.filter_congr fun e _ => ?_
  show decide ((Sum.inr e.1 : Key) ≠ Sum.inr a) = decide (e.1 ≠ a)
  exact decide_eq_decide.mpr ⟨fun h z => h (by rw [z]), fun h z => h (Sum.inr.inj z)⟩
def sp_drop (R C0 : Addr) (Ps : List Addr) : Sp := fun vs H Q E => ∃ (p pd : Addr) (m : List (Str × Str)) (nm : Str), vs = [.ref p, .str nm] ∧ StoreAt C0 H p pd m ∧ (reprText nm).length ≤ 20000 ∧ Tb Ps H ∧ ((look m nm).isSome = true → ∀ H', Gp Ps pd H H' → H' pd = some (.dK (kvS (dropS m nm))) → Q .non H') ∧ (look m nm = none → E (.ref R) none H)
theorem ok_drop {f : Addr} {fd : FuncData} {k : Nat} (F : Fun K "drop" "Store.drop" s_drop f fd) (T : Txt K mg R Pp C0) : FnOk P w K mg base (L2.CX P w) (k + 1) f fd ["self", "name"] (sp_drop R C0 Ps) := by
  refine F.okX sc_drop (fun vs H Q E h => ?_) (fun cdv A outer s H vs Q E hr h => ?_)
  · obtain ⟨p, pd, m, nm, rfl, _⟩ := h
    rfl
  · obtain ⟨p, pd, m, nm, rfl, ⟨⟨dx, hp⟩, hpd⟩, lr, tb, h1, h2⟩ := h
    have hu := hr.units
    have hu1 : (A.deeper (envOfC "Store.drop" (defScope s_drop) s.heap.objs.size f cdv)).units + 1 < cLine := by omega
    refine ⟨_, (pss_cons (ps_if (pt_cmp (pc_dnotin hu1 (pv 1) (pe_fld (pv 0) rfl)) (by with_unfolding_all rfl))
      (pss_one (ps_raise rfl (takes_of rfl rfl rfl rfl) (pmk_own1 PySem.F.excBase_ValueError T.x_R T.g_R T.k_R (raises_own T.b_R T.t_R) (by rfl) (pe_joined (.cons pe_str (.cons (pe_fmtR (pv 1)) .nil)))))) pss_nil)
    (pss_one (ps_ddel (pe_fld (pv 0) rfl) (pv 1)))), ?_⟩
    have ndP : pd ∉ Ps := tb.not hpd fun _ z => by cases z
    have lr2 : (reprText nm).length ≤ sizeLine := Nat.le_trans lr (by decide)
    refine ⟨_, rfl, _, rfl, p, C0, dx, _, _, rfl, hp, T.cl, T.nPc, stP pd, pd, _, rfl, DGet.k (k := .inr nm) hpd, _, rfl, ?_⟩
    rw [val_look]
    have big : 30000 ≤ sizeLine := by decide
    have l1 : (Str.empty ++ Str.ofString "no piece: ").length ≤ 100 := by decide
    cases hl : look m nm with
    | none =>
      refine ⟨_, rfl, Nat.le_trans l1 (by decide), _, rfl, .inl ⟨_, rfl, lr2, _, rfl, ?_, h2 hl⟩⟩
      rw [XT.str_app_len]
      omega
    | some v =>
      refine ⟨_, rfl, p, C0, dx, _, _, rfl, hp, T.cl, T.nPc, stP pd, _, rfl, pd, _, .inr nm, rfl, hpd, rfl, by rw [val_look, hl]; rfl, ?_⟩
      rw [kvS_drop]
      exact h1 (by rw [hl]; rfl) _ (((Gw.refl tb).gp (pd := pd)).set ndP) upd_same
/-! get: slots self=0 name=1 piece=2 -/
abbrev s_get : Stmt := inClass (topS 16) 3
theorem sc_get : FnScope ["self", "name", "piece"] ["self", "name"] (defScope s_get) := ⟨rfl, rfl, rfl, by decide +kernel, rfl, by decide +kernel, by decide +kernel⟩
def sp_get (R Pp C0 : Addr) (Ps : List Addr) : Sp := fun vs H Q E => ∃ (p pd : Addr) (m : List (Str × Str)) (nm : Str), vs = [.ref p, .str nm] ∧ StoreAt C0 H p pd m ∧ SmM m ∧ (reprText nm).length ≤ 20000 ∧ Tb Ps H ∧ (look m nm = none → E (.ref R) none H) ∧ (∀ v, look m nm = some v → right nm v = true → ∀ H', Gw Ps H H' → Q (.str v) H') ∧ (∀ v, look m nm = some v → right nm v = false → ∀ H', Gw Ps H H' → E (.ref Pp) none H')
theorem ok_get {f f2 : Addr} {fd fd2 : FuncData} {k k2 : Nat} (F : Fun K "get" "Store.get" s_get f fd) (T : Txt K mg R Pp C0) (G2 : Cal P w K mg base (L2.CX P w) k2 "is_right" ["name", "piece"] (sp_is_right Ps) f2 fd2) (h2 : k2 ≤ k) : FnOk P w K mg base (L2.CX P w) (k + 1) f fd ["self", "name"] (sp_get R Pp C0 Ps) := by
  refine F.okX sc_get (fun vs H Q E h => ?_) (fun cdv A outer s H vs Q E hr h => ?_)
  · obtain ⟨p, pd, m, nm, rfl, _⟩ := h
    rfl
  · obtain ⟨p, pd, m, nm, rfl, ⟨⟨dx, hp⟩, hpd⟩, sm, lr, tb, e1, q1, e2⟩ := h
    have hu := hr.units
    have hu1 : (A.deeper (envOfC "Store.get" (defScope s_get) s.heap.objs.size f cdv)).units + 1 < cLine := by omega
    refine ⟨_, (pss_cons (ps_if (pt_cmp (pc_dnotin hu1 (pv 1) (pe_fld (pv 0) rfl)) (by with_unfolding_all rfl))
      (pss_one (ps_raise rfl (takes_of rfl rfl rfl rfl) (pmk_own1 PySem.F.excBase_ValueError T.x_R T.g_R T.k_R (raises_own T.b_R T.t_R) (by rfl) (pe_joined (.cons pe_str (.cons (pe_fmtR (pv 1)) .nil)))))) pss_nil)
    (pss_cons (ps_set (i := 2) sc_get.nd rfl (.inl rfl) (pe_dget hu1 (pe_fld (pv 0) rfl) (pv 1) (fun _ _ => rfl)))
    (pss_cons (ps_if (pt_not (pt_val (pe_call G2.ok (hr.mono h2) (by rfl) G2.g G2.kp G2.b .nil passF (pa_cons (pv 1) (pa_cons (pv 2) pa_nil)))))
      (pss_one (ps_raise rfl (takes_of rfl rfl rfl rfl) (pmk_own1 PySem.F.excBase_ValueError T.x_P T.g_P T.k_P (raises_own T.b_P T.t_P) (by rfl) (pe_joined (.cons pe_str (.cons (pe_fmtR (pv 1)) .nil)))))) pss_nil)
    (pss_one (ps_ret (pv 2)))))), ?_⟩
    have lr2 : (reprText nm).length ≤ sizeLine := Nat.le_trans lr (by decide)
    have big : 30000 ≤ sizeLine := by decide
    refine ⟨_, rfl, _, rfl, p, C0, dx, _, _, rfl, hp, T.cl, T.nPc, stP pd, pd, _, rfl, DGet.k (k := .inr nm) hpd, _, rfl, ?_⟩
    rw [val_look]
    have l1 : (Str.empty ++ Str.ofString "no piece: ").length ≤ 100 := by decide
    have l2 : (Str.empty ++ Str.ofString "a piece of another figure: ").length ≤ 100 := by decide
    cases hl : look m nm with
    | none =>
      refine ⟨_, rfl, Nat.le_trans l1 (by decide), _, rfl, .inl ⟨_, rfl, lr2, _, rfl, ?_, e1 hl⟩⟩
      rw [XT.str_app_len]
      omega
    | some v =>
      have hm := look_mem hl
      obtain ⟨a1, a2⟩ := sm.2 _ hm
      refine ⟨_, rfl, p, C0, dx, _, _, rfl, hp, T.cl, T.nPc, stP pd, _, rfl, pd, .str v, rfl, by have := DGet.k (k := .inr nm) hpd; rw [val_look, hl] at this; exact this, ?_⟩
      refine ⟨_, rfl, _, rfl, nm, v, rfl, a1, a2, tb, fun H' gw => ⟨_, rfl, ?_⟩⟩
      cases hr2 : right nm v with
      | true => exact ⟨_, rfl, q1 v hl hr2 H' gw⟩
      | false =>
        refine ⟨_, rfl, Nat.le_trans l2 (by decide), _, rfl, .inl ⟨_, rfl, lr2, _, rfl, ?_, e2 v hl hr2 H' gw⟩⟩
        rw [XT.str_app_len]
        omega
/-! names: slots self=0 -/
abbrev s_names : Stmt := inClass (topS 16) 6
theorem sc_names : FnScope ["self"] ["self"] (defScope s_names) := ⟨rfl, rfl, rfl, by decide +kernel, rfl, by decide +kernel, by decide +kernel⟩
def sp_names (C0 : Addr) (Ps : List Addr) : Sp := fun vs H Q E => ∃ (p pd : Addr) (m : List (Str × Str)), vs = [.ref p] ∧ StoreAt C0 H p pd m ∧ SmM m ∧ Tb Ps H ∧ ∀ ys : List Str, ys.Perm (m.map (·.1)) → sortedS ys = true → NewT Ps H (ys.map V.str) Q
theorem ok_names {f : Addr} {fd : FuncData} {k : Nat} (F : Fun K "names" "Store.names" s_names f fd) (T : Txt K mg R Pp C0) : FnOk P w K mg base (L2.CX P w) (k + 1) f fd ["self"] (sp_names C0 Ps) := by
  refine F.okX sc_names (fun vs H Q E h => ?_) (fun cdv A outer s H vs Q E hr h => ?_)
  · obtain ⟨p, pd, m, rfl, _⟩ := h
    rfl
  · obtain ⟨p, pd, m, rfl, ⟨⟨dx, hp⟩, hpd⟩, sm, tb, hq⟩ := h
    refine ⟨_, (pss_one (ps_ret (pe_callTy call_tuple_of (by rfl) T.z_tuple (by decide +kernel) (pa_cons (pe_callB (call_sortedD rfl) (by rfl) T.z_sorted (by decide +kernel) (pa_cons (pe_fld (pv 0) rfl) pa_nil)) pa_nil)))), ?_⟩
    refine ⟨_, rfl, p, C0, dx, _, _, rfl, hp, T.cl, T.nPc, stP pd, pd, kvS m, m.map (·.1), rfl, .inl hpd, ?_, ?_, fun ys q pm so hq0 => ?_⟩
    · unfold kvS
      rw [List.map_map, List.map_map]
      rfl
    · rw [List.length_map]
      have := sm.1
      omega
    · have g1 := (Gw.refl tb).new (o := .lst (ys.map V.str)) hq0
      refine ⟨q, _, rfl, .inl ⟨SqL.of upd_same, fun u hu => ?_⟩⟩
      exact hq ys pm so _ u (g1.new hu) (upd_none hu).1 upd_same
end
end K3

set_option maxRecDepth 100000
set_option maxHeartbeats 4000000
namespace K3
open PySem PySem.Spec PyProof.Rows L2
open XT (Sm pe_msg)
open SkE (pmk_own1)
section
variable {P : Program} {w : World} {K : PySem.W.Frag} {mg : Str → Option Value} {base : Heap} {R Pp C0 : Addr} {Ps : List Addr}
/-- a table locked and unlocked again -/
theorem Gp.back {pd : Addr} {H H' : Hp} {kv : List (Key × V)} (g : Gp Ps pd H H') (h : H pd = some (.dK kv)) (ndP : pd ∉ Ps) : Gw Ps H (upd H' pd (.dK kv)) := ⟨g.1.upd ndP, fun b u nb eb => by
  by_cases z : b = pd
  · subst z
    rw [upd_same, ← h]
    exact eb
  · rw [upd_ne z]
    exact g.2 b u nb z eb⟩
theorem Gp.tab {pd q : Addr} {H H' H'' : Hp} (g : Gp Ps pd H H') (hq : q ∈ Ps) (t : GxR.Tabbed q H' H'') : Gp Ps pd H H'' := g.trans (((Gw.refl g.1).tab hq t).gp)
def lensum (m : List (Str × Str)) : Nat := (m.map fun e => e.2.length).sum
theorem lensum_le {m : List (Str × Str)} (h : ∀ e ∈ m, e.2.length ≤ 100) : lensum m ≤ 100 * m.length := by
  induction m with
  | nil => exact Nat.le_refl _
  | cons e r ih =>
    have h1 := h e (List.mem_cons_self ..)
    have h2 := ih fun x hx => h x (List.mem_cons_of_mem _ hx)
    show (e.2.length + lensum r) ≤ _
    rw [List.length_cons]
    omega
theorem sumN_len (m : List (Str × Str)) : ∀ n, XT.sumN (fun i => (((m[i]?.map fun e => e.2.length).getD 0 : Nat) : Int)) n = (lensum (m.take n) : Nat)
  | 0 => rfl
  | n + 1 => by
    show XT.sumN _ n + _ = _
    rw [sumN_len m n]
    unfold lensum
    rw [List.take_add_one, List.map_append, List.sum_append]
    cases e : m[n]? with
    | none => simp [e]
    | some x => simp [e]
/-! size: slots self=0 -/
abbrev s_size : Stmt := inClass (topS 16) 7
theorem sc_size : FnScope ["self"] ["self"] (defScope s_size) := ⟨rfl, rfl, rfl, by decide +kernel, rfl, by decide +kernel, by decide +kernel⟩
theorem gs_size : GX.GScp ["self"] (defScope s_size) { kind := ScopeKind.function, names := [(".0", NameKind.local), ("piece", NameKind.local), ("len", NameKind.globalImplicit)], isGenerator := true, isCoroutine := false } ["piece"] [none] := GX.gsc_by (by decide +kernel)
def sp_size (C0 : Addr) (Ps : List Addr) : Sp := fun vs H Q E => ∃ (p pd : Addr) (m : List (Str × Str)), vs = [.ref p] ∧ StoreAt C0 H p pd m ∧ SmM m ∧ Tb Ps H ∧ ∀ H', Gw Ps H H' → Q (.int (lensum m : Nat)) H'
theorem ok_size {f cc pp : Addr} {fd : FuncData} {k : Nat} (F : FunC K "size" "Store.size" s_size f fd cc) (TB : GxR.TabB base mg cc pp) (hpp : pp ∈ Ps) (T : Txt K mg R Pp C0) : FnOk P w K mg base (L2.CX P w) (k + 8) f fd ["self"] (sp_size C0 Ps) := by
  refine F.okX sc_size (fun vs H Q E h => ?_) (fun A outer s H vs Q E hr h => ?_)
  · obtain ⟨p, pd, m, rfl, _⟩ := h
    rfl
  · obtain ⟨p, pd, m, rfl, ⟨⟨dx, hp⟩, hpd⟩, sm, tb, hq⟩ := h
    have hr0 : Room (k + 1) (A.deeper (envOfC "Store.size" (defScope s_size) s.heap.objs.size f (.ref cc))) := hr.mono (by omega)
    refine ⟨_, (pss_one (ps_ret (L2.pe_lock (GX.pe_sumG (k := k) (Ng := ["piece"]) (ix := [none]) (vs := [0]) hr0 (by rfl) T.z_sum (by decide +kernel) TB rfl gs_size (pi_values (pe_fld (pv 0) rfl)) (fun _ _ _ _ _ _ _ => (pg_name (i := 0) gs_size.nd rfl (.inl rfl))) (fun _ _ _ _ _ _ _ hr => pts_nil) (fun _ _ _ _ _ _ _ hr => (pe_callB call_len_str (by rfl) T.z_len (by decide +kernel) (pa_cons (pv 0) pa_nil))))))), ?_⟩
    have npp : p ≠ pd := fun z => by
      rw [z, hpd] at hp
      cases hp
    have ndP : pd ∉ Ps := tb.not hpd fun _ z => by cases z
    have big : 100 ≤ sizeLine := by decide
    refine ⟨pd, _, hpd, True.intro, fun od => ?_⟩
    have g0 : Gp Ps pd H (upd H pd (.frz od (.dK (kvS m)))) := ((Gw.refl tb).gp (pd := pd)).set ndP
    refine ⟨_, rfl, p, C0, dx, _, _, rfl, by rw [upd_ne npp]; exact hp, T.cl, T.nPc, stP pd, pd, od, kvS m, rfl, upd_same, g0.1 pp hpp, fun H2 hh => ?_⟩
    have g2 := g0.tab hpp hh
    have nepp : pp ≠ pd := fun z => ndP (z ▸ hpp)
    have hf : H2 pd = some (.frz od (.dK (kvS m))) := by rw [hh.2 pd nepp.symm]; exact upd_same
    have el : (kvS m).length = m.length := by unfold kvS; rw [List.length_map]
    have hb : ∀ i : Nat, ((m[i]?.map fun e => e.2.length).getD 0) ≤ 100 := fun i => by
      cases e : m[i]? with
      | none => exact Nat.zero_le _
      | some x => exact (sm.2 x (List.mem_of_getElem? e)).2.1
    have hs : ∀ i : Nat, lensum (m.take i) ≤ 100 * 40 := fun i => by
      refine Nat.le_trans (lensum_le fun e he => (sm.2 e (List.mem_of_mem_take he)).2.1) (Nat.mul_le_mul_left _ ?_)
      rw [List.length_take]
      have := sm.1
      omega
    refine XT.sturn_pure m.length (fun i => (((m[i]?.map fun e => e.2.length).getD 0 : Nat) : Int)) (fun i hi => ?_) (fun i hi => ⟨hf, by rw [el]; exact hi⟩) ⟨hf, by rw [el]; exact Nat.le_refl _⟩ (fun i hi y H' hy t Nx l1 l2 hn => ?_) ?_
    · rw [sumN_len]
      have := hb i
      have := hs i
      exact ⟨⟨by omega, by omega⟩, ⟨by omega, by omega⟩⟩
    · obtain ⟨rfl, kk, hk⟩ := hy
      have hm : m[i]? = some m[i] := List.getElem?_eq_getElem hi
      have ek : (kvS m)[i]? = some (.inr m[i].1, .str m[i].2) := by
        unfold kvS
        rw [List.getElem?_map, hm]
        rfl
      rw [ek] at hk
      cases hk
      simp only [hm, Option.map_some, Option.getD_some] at l1 l2 hn
      refine ⟨rfl, ?_⟩
      simp only [tYes, ↓reduceIte]
      have := (sm.2 m[i] (List.getElem_mem hi)).2.1
      exact ⟨_, rfl, _, rfl, by omega, _, rfl, l1, l2, hn⟩
    · rw [sumN_len, List.take_length]
      exact ⟨hf, hq _ (g2.back hpd ndP)⟩
end
end K3

set_option maxRecDepth 100000
set_option maxHeartbeats 4000000
namespace K3
open PySem PySem.Spec PyProof.Rows L2
open XT (Sm pe_msg)
open SkE (pmk_own1)
section
theorem room_u {k : Nat} {A : Around} (h : Room k A) : A.units + 1 < cLine := by
  have := h.units
  omega
theorem pe_fldK {X : Cx} {K0 : PySem.W.Frag} {e : Expr} {ta : TE} {f : Str} {pos : Pos} (hK : X.K = K0) (he : PE X e ta) (hb : attributeBase e f X.env (eval e X.env) = eval e X.env) : PE X (.Attribute e f pos) (tFld K0 ta f) := by
  subst hK
  exact pe_fld he hb
/-- turns that keep what Iv tells of the heap -/
theorem lturn_inv {J : It} {gt : TG} {tt : TT} {te : TE} {σ0 : L2.St} {vs : List Nat} {cont : List V → Hp → Prop} {H2 : Hp} (Iv : Nat → List V → Hp → Prop) (n : Nat) (hn : n ≤ sizeLine) (h0 : Iv 0 [] H2) (hl : ∀ i ys H, Iv i ys H → ys.length ≤ i) (hgo : ∀ i, i < n → ∀ ys H, Iv i ys H → J.go i H) (hstop : ∀ ys H, Iv n ys H → J.stop n H)
    (hstep : ∀ i, i < n → ∀ ys H, Iv i ys H → ∀ x H', J.yld i H x H' → ys.length < sizeLine →
      gt x (wipe σ0 vs) H' fun σ2 H3 => wipe σ2 vs = wipe σ0 vs ∧ tt σ2 H3 fun b H4 => if b = true then te σ2 H4 fun y H5 => ys.length < sizeLine ∧ Iv (i + 1) (ys ++ [y]) H5 else Iv (i + 1) ys H4)
    (hcont : ∀ ys H, Iv n ys H → cont ys H) : ∃ W : Nat → Nat → List V → Hp → Prop, (∃ m, W 0 m [] H2) ∧ GX.LTurn J gt tt te σ0 vs cont W := by
  refine ⟨fun i m ys H => i + m = n ∧ Iv i ys H, ⟨n, Nat.zero_add n, h0⟩, fun i m ys H hw => ?_⟩
  obtain ⟨e, hI⟩ := hw
  by_cases hi : i < n
  · refine .inr ⟨hgo i hi _ _ hI, fun ys' H' => Iv (i + 1) ys' H', fun ys' H' z => ⟨m - 1, by omega, by omega, z⟩, fun x H' hy => ?_⟩
    exact hstep i hi ys H hI x H' hy (Nat.lt_of_lt_of_le (Nat.lt_of_le_of_lt (hl _ _ _ hI) hi) hn)
  · have ei : i = n := by omega
    subst ei
    exact .inl ⟨hstop _ _ hI, hcont _ _ hI⟩
theorem look_some {m : List (Str × Str)} {nm : Str} (h : nm ∈ m.map (·.1)) : ∃ v, look m nm = some v := by
  unfold look
  cases e : m.find? fun e => decide (e.1 = nm) with
  | some x => exact ⟨_, rfl⟩
  | none =>
    obtain ⟨x, hx, rfl⟩ := List.mem_map.mp h
    have := List.find?_eq_none.mp e x hx
    simp at this
/-- names whose pieces tell another figure -/
def brk (m : List (Str × Str)) (ys : List Str) : List Str := ys.filter fun nm => !(right nm ((look m nm).getD Str.empty))
theorem brk_snoc {m : List (Str × Str)} {l : List Str} {nm v : Str} (hv : look m nm = some v) : brk m (l ++ [nm]) = brk m l ++ (if right nm v = true then [] else [nm]) := by
  unfold brk
  rw [List.filter_append]
  congr 1
  simp only [List.filter_cons, List.filter_nil, hv, Option.getD_some]
  cases right nm v <;> rfl
variable {P : Program} {w : World} {K : PySem.W.Frag} {mg : Str → Option Value} {base : Heap} {R Pp C0 : Addr} {Ps : List Addr}
/-! broken: slots self=0 -/
abbrev s_broken : Stmt := inClass (topS 16) 8
theorem sc_broken : FnScope ["self"] ["self"] (defScope s_broken) := ⟨rfl, rfl, rfl, by decide +kernel, rfl, by decide +kernel, by decide +kernel⟩
theorem gs_broken : GX.GScp ["self"] (defScope s_broken) { kind := ScopeKind.function, names := [(".0", NameKind.local), ("name", NameKind.local), ("self", NameKind.free), ("is_right", NameKind.globalImplicit)], isGenerator := true, isCoroutine := false } ["name", "self"] [none, some 0] := GX.gsc_by (by decide +kernel)
def sp_broken (C0 : Addr) (Ps : List Addr) : Sp := fun vs H Q E => ∃ (p pd : Addr) (m : List (Str × Str)), vs = [.ref p] ∧ StoreAt C0 H p pd m ∧ SmM m ∧ Tb Ps H ∧ ∀ ys : List Str, ys.Perm (m.map (·.1)) → sortedS ys = true → NewT Ps H ((brk m ys).map V.str) Q
theorem ok_broken {f cc pp f1 f2 : Addr} {fd fd1 fd2 : FuncData} {k k1 k2 : Nat} (F : FunC K "broken" "Store.broken" s_broken f fd cc) (TB : GxR.TabB base mg cc pp) (hpp : pp ∈ Ps) (T : Txt K mg R Pp C0)
    (M1 : MCal P w K mg base (L2.CX P w) k1 C0 "names" ["self"] (sp_names C0 Ps) f1 fd1) (G2 : Cal P w K mg base (L2.CX P w) k2 "is_right" ["name", "piece"] (sp_is_right Ps) f2 fd2) (h1 : k1 ≤ k) (h2 : k2 ≤ k) : FnOk P w K mg base (L2.CX P w) (k + 8) f fd ["self"] (sp_broken C0 Ps) := by
  refine F.okX sc_broken (fun vs H Q E h => ?_) (fun A outer s H vs Q E hr h => ?_)
  · obtain ⟨p, pd, m, rfl, _⟩ := h
    rfl
  · obtain ⟨p, pd, m, rfl, ⟨⟨dx, hp⟩, hpd⟩, sm, tb, hq⟩ := h
    have hr0 : Room k (A.deeper (envOfC "Store.broken" (defScope s_broken) s.heap.objs.size f (.ref cc))) := hr.mono (by omega)
    have hr1 : Room (k + 6) (A.deeper (envOfC "Store.broken" (defScope s_broken) s.heap.objs.size f (.ref cc))) := hr.mono (by omega)
    refine ⟨_, (pss_one (ps_ret (GX.pe_tupG (k := k + 1) (GX.pgen_exp (Ng := ["name", "self"]) (ix := [none, some 0]) (vs := [0]) (k := k) hr0 TB rfl gs_broken (pi_tup (pe_meth0 (pv 0) T.cl M1.m M1.ok (hr0.mono h1) M1.b .nil passF)) (fun _ _ _ _ _ _ _ => (pg_name (i := 0) gs_broken.nd rfl (.inl rfl)))
      (fun _ _ _ _ _ _ _ hr => (pts_one (pt_not (pt_val (pe_call G2.ok ((hr _).mono h2) (by rfl) G2.g G2.kp G2.b .nil passF (pa_cons (pv 0) (pa_cons (pe_dget (by exact room_u (hr _)) (pe_fldK (K0 := K) rfl (pv 1) rfl) (pv 0) (fun _ _ => rfl)) pa_nil)))))))
      (fun _ _ _ _ _ _ _ hr => (pv 0))) hr1 (by rfl) T.z_tuple (by decide +kernel)))), ?_⟩
    have npP : p ∉ Ps := tb.not hp fun _ z => by cases z
    have ndP : pd ∉ Ps := tb.not hpd fun _ z => by cases z
    refine ⟨_, rfl, p, dx, _, rfl, hp, rfl, p, pd, m, rfl, ⟨⟨dx, hp⟩, hpd⟩, sm, tb, fun ys pm so H1 q g1 hq0 hq1 => ?_⟩
    refine ⟨q, rfl, ⟨_, SqT.of hq1⟩, g1.1 pp hpp, fun H2 hh => ?_⟩
    have g2 : Gw Ps H H2 := g1.tab hpp hh
    have nq : q ∉ Ps := tb.none hq0
    have hq2 : H2 q = some (.tup (ys.map V.str)) := by rw [hh.2 q (fun z => nq (z ▸ hpp))]; exact hq1
    have ly : ys.length = m.length := by rw [pm.length_eq, List.length_map]
    have big : 100 ≤ sizeLine := by decide
    have sm1 := sm.1
    refine lturn_inv (fun i out G => Gw Ps H2 G ∧ out = (brk m (ys.take i)).map V.str) ys.length (by omega) ⟨Gw.refl g2.1, rfl⟩ ?_ ?_ ?_ ?_ ?_
    · rintro i out G ⟨_, rfl⟩
      rw [List.length_map]
      exact Nat.le_trans (List.length_filter_le _ _) (by rw [List.length_take]; exact Nat.min_le_left _ _)
    · rintro i hi out G ⟨g, _⟩
      exact ⟨_, V.str ys[i], SqT.of (g.2 _ _ nq hq2), by rw [List.getElem?_map, List.getElem?_eq_getElem hi]; rfl⟩
    · rintro out G ⟨g, _⟩
      exact ⟨_, SqT.of (g.2 _ _ nq hq2), by rw [List.length_map]; exact Nat.le_refl _⟩
    · rintro i hi out G ⟨g, rfl⟩ x G' hy hl
      obtain ⟨rfl, hx⟩ := hy
      have hx := hx _ (SqT.of (g.2 _ _ nq hq2))
      rw [List.getElem?_map, List.getElem?_eq_getElem hi] at hx
      obtain rfl : V.str ys[i] = x := Option.some.inj hx
      obtain ⟨v, hv⟩ := look_some (m := m) (nm := ys[i]) (pm.subset (List.getElem_mem hi))
      obtain ⟨a1, a2⟩ := sm.2 _ (look_mem hv)
      have gH : Gw Ps H G' := g2.trans g
      have hp' := gH.2 _ _ npP hp
      have hpd' := gH.2 _ _ ndP hpd
      have tk : brk m (ys.take (i + 1)) = brk m (ys.take i) ++ (if right ys[i] v = true then [] else [ys[i]]) := by
        rw [List.take_add_one, List.getElem?_eq_getElem hi]
        exact brk_snoc hv
      refine ⟨rfl, ?_⟩
      refine ⟨_, rfl, _, rfl, p, C0, dx, _, _, rfl, hp', T.cl, T.nPc, stP pd, _, rfl, pd, .str v, rfl, by have := DGet.k (k := .inr ys[i]) hpd'; rw [val_look, hv] at this; exact this, ys[i], v, rfl, a1, a2, gH.1, fun H3 g3 => ?_⟩
      refine ⟨_, rfl, ?_⟩
      cases hr2 : right ys[i] v with
      | true =>
        rw [hr2] at tk
        refine ⟨g.trans g3, ?_⟩
        rw [tk]
        simp
      | false =>
        rw [hr2] at tk
        refine ⟨_, rfl, hl, g.trans g3, ?_⟩
        rw [tk]
        simp
    · rintro out G ⟨g, rfl⟩ p2 hp2
      rw [List.take_length] at *
      have gH : Gw Ps H G := g2.trans g
      exact hq ys pm so _ p2 (gH.new hp2) (gH.none tb hp2) upd_same
end
end K3

set_option maxRecDepth 100000
set_option maxHeartbeats 4000000
namespace K3
open PySem PySem.Spec PyProof.Rows L2
open XT (Sm pe_msg)
open SkE (pmk_own1)
section
/-- a tuple of pairs of texts that has come -/
def NewP (Ps : List Addr) (H : Hp) (l : List (Str × Str)) (Q : VK) : Prop := ∀ (H' : Hp) (q : Addr) (es : List (Addr × Str × Str)), Gw Ps H H' → H q = none → H' q = some (.tup (es.map fun e => V.ref e.1)) → es.map (·.2) = l → (∀ e ∈ es, H e.1 = none ∧ H' e.1 = some (.tup [.str e.2.1, .str e.2.2])) → Q (.ref q) H'
/-- a name and its piece -/
def prS (m : List (Str × Str)) (nm : Str) : Str × Str := (nm, (look m nm).getD Str.empty)
variable {P : Program} {w : World} {K : PySem.W.Frag} {mg : Str → Option Value} {base : Heap} {R Pp C0 : Addr} {Ps : List Addr}
/-! shown: slots self=0 -/
abbrev s_shown : Stmt := inClass (topS 16) 9
theorem sc_shown : FnScope ["self"] ["self"] (defScope s_shown) := ⟨rfl, rfl, rfl, by decide +kernel, rfl, by decide +kernel, by decide +kernel⟩
theorem gs_shown : GX.GScp ["self"] (defScope s_shown) { kind := ScopeKind.function, names := [(".0", NameKind.local), ("name", NameKind.local), ("self", NameKind.free)], isGenerator := true, isCoroutine := false } ["name", "self"] [none, some 0] := GX.gsc_by (by decide +kernel)
def sp_shown (C0 : Addr) (Ps : List Addr) : Sp := fun vs H Q E => ∃ (p pd : Addr) (m : List (Str × Str)), vs = [.ref p] ∧ StoreAt C0 H p pd m ∧ SmM m ∧ Tb Ps H ∧ ∀ ys : List Str, ys.Perm (m.map (·.1)) → sortedS ys = true → NewP Ps H (ys.map (prS m)) Q
theorem ok_shown {f cc pp f1 : Addr} {fd fd1 : FuncData} {k k1 : Nat} (F : FunC K "shown" "Store.shown" s_shown f fd cc) (TB : GxR.TabB base mg cc pp) (hpp : pp ∈ Ps) (T : Txt K mg R Pp C0)
    (M1 : MCal P w K mg base (L2.CX P w) k1 C0 "names" ["self"] (sp_names C0 Ps) f1 fd1) (h1 : k1 ≤ k) : FnOk P w K mg base (L2.CX P w) (k + 8) f fd ["self"] (sp_shown C0 Ps) := by
  refine F.okX sc_shown (fun vs H Q E h => ?_) (fun A outer s H vs Q E hr h => ?_)
  · obtain ⟨p, pd, m, rfl, _⟩ := h
    rfl
  · obtain ⟨p, pd, m, rfl, ⟨⟨dx, hp⟩, hpd⟩, sm, tb, hq⟩ := h
    have hr0 : Room k (A.deeper (envOfC "Store.shown" (defScope s_shown) s.heap.objs.size f (.ref cc))) := hr.mono (by omega)
    have hr1 : Room (k + 6) (A.deeper (envOfC "Store.shown" (defScope s_shown) s.heap.objs.size f (.ref cc))) := hr.mono (by omega)
    refine ⟨_, (pss_one (ps_ret (GX.pe_tupG (k := k + 1) (GX.pgen_exp (Ng := ["name", "self"]) (ix := [none, some 0]) (vs := [0]) (k := k) hr0 TB rfl gs_shown (pi_tup (pe_meth0 (pv 0) T.cl M1.m M1.ok (hr0.mono h1) M1.b .nil passF)) (fun _ _ _ _ _ _ _ => (pg_name (i := 0) gs_shown.nd rfl (.inl rfl)))
      (fun _ _ _ _ _ _ _ hr => pts_nil)
      (fun _ _ _ _ _ _ _ hr => (pe_tup (pa_cons (pv 0) (pa_cons (pe_dget (by exact room_u (hr _)) (pe_fldK (K0 := K) rfl (pv 1) rfl) (pv 0) (fun _ _ => rfl)) pa_nil))))) hr1 (by rfl) T.z_tuple (by decide +kernel)))), ?_⟩
    have npP : p ∉ Ps := tb.not hp fun _ z => by cases z
    have ndP : pd ∉ Ps := tb.not hpd fun _ z => by cases z
    refine ⟨_, rfl, p, dx, _, rfl, hp, rfl, p, pd, m, rfl, ⟨⟨dx, hp⟩, hpd⟩, sm, tb, fun ys pm so H1 q g1 hq0 hq1 => ?_⟩
    refine ⟨q, rfl, ⟨_, SqT.of hq1⟩, g1.1 pp hpp, fun H2 hh => ?_⟩
    have g2 : Gw Ps H H2 := g1.tab hpp hh
    have nq : q ∉ Ps := tb.none hq0
    have hq2 : H2 q = some (.tup (ys.map V.str)) := by rw [hh.2 q (fun z => nq (z ▸ hpp))]; exact hq1
    have ly : ys.length = m.length := by rw [pm.length_eq, List.length_map]
    have big : 100 ≤ sizeLine := by decide
    have sm1 := sm.1
    refine lturn_inv (fun i out G => Gw Ps H2 G ∧ ∃ es : List (Addr × Str × Str), out = es.map (fun e => V.ref e.1) ∧ es.map (·.2) = (ys.take i).map (prS m) ∧ ∀ e ∈ es, H2 e.1 = none ∧ G e.1 = some (.tup [.str e.2.1, .str e.2.2])) ys.length (by omega) ⟨Gw.refl g2.1, [], rfl, rfl, fun e he => by cases he⟩ ?_ ?_ ?_ ?_ ?_
    · rintro i out G ⟨_, es, rfl, e1, _⟩
      have e1 := congrArg List.length e1
      rw [List.length_map, List.length_map, List.length_take] at e1
      rw [List.length_map, e1]
      exact Nat.min_le_left _ _
    · rintro i hi out G ⟨g, _⟩
      exact ⟨_, V.str ys[i], SqT.of (g.2 _ _ nq hq2), by rw [List.getElem?_map, List.getElem?_eq_getElem hi]; rfl⟩
    · rintro out G ⟨g, _⟩
      exact ⟨_, SqT.of (g.2 _ _ nq hq2), by rw [List.length_map]; exact Nat.le_refl _⟩
    · rintro i hi out G ⟨g, es, rfl, e1, e2⟩ x G' hy hl
      obtain ⟨rfl, hx⟩ := hy
      have hx := hx _ (SqT.of (g.2 _ _ nq hq2))
      rw [List.getElem?_map, List.getElem?_eq_getElem hi] at hx
      obtain rfl : V.str ys[i] = x := Option.some.inj hx
      obtain ⟨v, hv⟩ := look_some (m := m) (nm := ys[i]) (pm.subset (List.getElem_mem hi))
      have gH : Gw Ps H G' := g2.trans g
      have hp' := gH.2 _ _ npP hp
      have hpd' := gH.2 _ _ ndP hpd
      refine ⟨rfl, ?_⟩
      refine ⟨_, rfl, _, rfl, p, C0, dx, _, _, rfl, hp', T.cl, T.nPc, stP pd, _, rfl, pd, .str v, rfl, by have := DGet.k (k := .inr ys[i]) hpd'; rw [val_look, hv] at this; exact this, by show 2 ≤ sizeLine; decide, fun a ha => ?_⟩
      refine ⟨hl, g.new ha, es ++ [(a, ys[i], v)], by rw [List.map_append]; rfl, ?_, fun e he => ?_⟩
      · rw [List.map_append, e1, List.take_add_one, List.getElem?_eq_getElem hi, List.map_append]
        congr 1
        show [(ys[i], v)] = [prS m ys[i]]
        unfold prS
        rw [hv]
        rfl
      · rcases List.mem_append.mp he with he | he
        · obtain ⟨n1, n2⟩ := e2 e he
          exact ⟨n1, by rw [upd_ne (ne_of_none n2 ha)]; exact n2⟩
        · rw [List.mem_singleton.mp he]
          exact ⟨g.none g2.1 ha, upd_same⟩
    · rintro out G ⟨g, es, rfl, e1, e2⟩ p2 hp2
      rw [List.take_length] at e1
      have gH : Gw Ps H G := g2.trans g
      refine hq ys pm so _ p2 es (gH.new hp2) (gH.none tb hp2) upd_same e1 fun e he => ?_
      obtain ⟨n1, n2⟩ := e2 e he
      exact ⟨g2.none tb n1, by rw [upd_ne (ne_of_none n2 hp2)]; exact n2⟩
end
end K3

set_option maxRecDepth 100000
set_option maxHeartbeats 4000000
namespace K3
open PySem PySem.Spec PyProof.Rows L2
open XT (Sm pe_msg)
open SkE (pmk_own1)
section
/-- a name that another table wants -/
def need (m2 : List (Str × Str)) (nm : Str) : Bool := match look m2 nm with
  | none => true
  | some t => !right nm t
/-- a name that can be copied -/
def okN (m m2 : List (Str × Str)) (nm : Str) : Prop := ∃ v, look m nm = some v ∧ right nm v = true ∧ (need m2 nm = true ∨ look m2 nm = some v)
def frL (m m2 : List (Str × Str)) (xs : List Str) : List (Str × Str) := xs.foldl (fun acc nm => if need m2 nm = true then putS acc nm ((look m nm).getD Str.empty) else acc) []
def afterL (m2 l : List (Str × Str)) : List (Str × Str) := l.foldl (fun acc e => putS acc e.1 e.2) m2
theorem afterL_len (l : List (Str × Str)) : ∀ m2 : List (Str × Str), (afterL m2 l).length ≤ m2.length + l.length := by
  induction l with
  | nil => intro m; exact Nat.le_refl _
  | cons e r ih =>
    intro m
    show (afterL (putS m e.1 e.2) r).length ≤ _
    have := ih (putS m e.1 e.2)
    have := putS_len m e.1 e.2
    rw [List.length_cons]
    omega
theorem frL_snoc (m m2 : List (Str × Str)) (xs : List Str) (nm : Str) : frL m m2 (xs ++ [nm]) = if need m2 nm = true then putS (frL m m2 xs) nm ((look m nm).getD Str.empty) else frL m m2 xs := by
  unfold frL
  rw [List.foldl_append]
  rfl
theorem frL_len (m m2 : List (Str × Str)) (xs : List Str) : (frL m m2 xs).length ≤ xs.length := by
  have : ∀ (xs : List Str) (acc : List (Str × Str)), (xs.foldl (fun acc nm => if need m2 nm = true then putS acc nm ((look m nm).getD Str.empty) else acc) acc).length ≤ acc.length + xs.length := by
    intro xs
    induction xs with
    | nil => intro acc; exact Nat.le_refl _
    | cons x r ih =>
      intro acc
      rw [List.foldl_cons, List.length_cons]
      refine Nat.le_trans (ih _) ?_
      split
      · have := putS_len acc x ((look m x).getD Str.empty)
        omega
      · omega
  have h := this xs []
  rw [List.length_nil, Nat.zero_add] at h
  exact h
theorem putS_mem {m : List (Str × Str)} {a t : Str} {e : Str × Str} (h : e ∈ putS m a t) : e = (a, t) ∨ e ∈ m := by
  unfold putS at h
  split at h
  · obtain ⟨e', h1, h2⟩ := List.mem_map.mp h
    split at h2
    · exact .inl h2.symm
    · exact .inr (h2 ▸ h1)
  · rcases List.mem_append.mp h with h | h
    · exact .inr h
    · exact .inl (List.mem_singleton.mp h)
theorem frL_val (m m2 : List (Str × Str)) (xs : List Str) : ∀ e ∈ frL m m2 xs, e.2 = (look m e.1).getD Str.empty := by
  have : ∀ (xs : List Str) (acc : List (Str × Str)), (∀ e ∈ acc, e.2 = (look m e.1).getD Str.empty) → ∀ e ∈ xs.foldl (fun acc nm => if need m2 nm = true then putS acc nm ((look m nm).getD Str.empty) else acc) acc, e.2 = (look m e.1).getD Str.empty := by
    intro xs
    induction xs with
    | nil => exact fun acc h => h
    | cons x r ih =>
      intro acc h
      rw [List.foldl_cons]
      refine ih _ fun e he => ?_
      split at he
      · rcases putS_mem he with rfl | he
        · rfl
        · exact h e he
      · exact h e he
  exact this xs [] fun e he => by cases he
theorem look_val {l : List (Str × Str)} {f : Str → Str} (h : ∀ e ∈ l, e.2 = f e.1) {e : Str × Str} (he : e ∈ l) : look l e.1 = some e.2 := by
  obtain ⟨v, hv⟩ := look_some (m := l) (nm := e.1) (List.mem_map.mpr ⟨e, he, rfl⟩)
  have h1 : v = f e.1 := h _ (look_mem hv)
  rw [hv, h1, h e he]
theorem afterL_snoc (m2 l : List (Str × Str)) (e : Str × Str) : afterL m2 (l ++ [e]) = putS (afterL m2 l) e.1 e.2 := by
  unfold afterL
  rw [List.foldl_append]
  rfl
section
variable {Ps : List Addr} {H H' : Hp} {pd : Addr}
theorem Gp.new {l : Addr} {o : HO} (g : Gp Ps pd H H') (n : H' l = none) : Gp Ps pd H (upd H' l o) :=
  ⟨g.1.upd (g.1.none n), fun b u nb nd e => by
    have e' := g.2 b u nb nd e
    rw [upd_ne (ne_of_none e' n)]
    exact e'⟩
theorem Gp.setD {D : Addr} {o : HO} (g : Gp Ps pd H H') (n : H D = none) (nl : D ∉ Ps) : Gp Ps pd H (upd H' D o) :=
  ⟨g.1.upd nl, fun b u nb nd e => by
    rw [upd_ne (ne_of_none e n)]
    exact g.2 b u nb nd e⟩
theorem Gp.none {u : HO} {a : Addr} (g : Gp Ps pd H H') (hd : H' pd = some u) (h : H' a = none) : H a = none := by
  cases e : H a with
  | none => rfl
  | some o =>
    have na : a ∉ Ps := g.1.none h
    have nd : a ≠ pd := fun z => by
      rw [z, hd] at h
      cases h
    rw [g.2 a o na nd e] at h
    cases h
end
variable {P : Program} {w : World} {K : PySem.W.Frag} {mg : Str → Option Value} {base : Heap} {R Pp C0 : Addr} {Ps : List Addr}
/-! copied: slots store=0 other=1 names=2 fresh=3 name=4 piece=5 -/
abbrev s_copied : Stmt := topS 17
theorem sc_copied : FnScope ["store", "other", "names", "fresh", "name", "piece"] ["store", "other", "names"] (defScope s_copied) := ⟨rfl, rfl, rfl, by decide +kernel, rfl, by decide +kernel, by decide +kernel⟩
def sp_copied (K : PySem.W.Frag) (R Pp C0 : Addr) (Ps : List Addr) : Sp := fun vs H Q E => ∃ (p pd p2 pd2 la : Addr) (m m2 : List (Str × Str)) (xs : List Str), vs = [.ref p, .ref p2, .ref la] ∧ StoreAt C0 H p pd m ∧ StoreAt C0 H p2 pd2 m2 ∧ SmM m ∧ SmM m2 ∧ SqL K H la (xs.map V.str) ∧ xs.length ≤ 40 ∧ (∀ nm ∈ xs, (reprText nm).length ≤ 20000) ∧ Tb Ps H ∧
  (∀ pre nm post, xs = pre ++ nm :: post → (∀ x ∈ pre, okN m m2 x) → look m nm = none → ∀ H', Gw Ps H H' → E (.ref R) none H') ∧
  (∀ pre nm post v, xs = pre ++ nm :: post → (∀ x ∈ pre, okN m m2 x) → look m nm = some v → (right nm v = false ∨ (need m2 nm = false ∧ look m2 nm ≠ some v)) → ∀ H', Gw Ps H H' → E (.ref Pp) none H') ∧
  ((∀ x ∈ xs, okN m m2 x) → ∀ ys : List Str, ys.Perm ((frL m m2 xs).map (·.1)) → sortedS ys = true → ∀ H' q, Gp Ps pd2 H H' → H' pd2 = some (.dK (kvS (afterL m2 (frL m m2 xs)))) → H q = none → H' q = some (.tup (ys.map V.str)) → Q (.ref q) H')
theorem ok_copied {f f1 f2 : Addr} {fd fd1 fd2 : FuncData} {k k1 k2 : Nat} (F : Fun K "copied" "copied" s_copied f fd) (T : Txt K mg R Pp C0)
    (M1 : MCal P w K mg base (L2.CX P w) k1 C0 "get" ["self", "name"] (sp_get R Pp C0 Ps) f1 fd1) (G2 : Cal P w K mg base (L2.CX P w) k2 "is_right" ["name", "piece"] (sp_is_right Ps) f2 fd2) (h1 : k1 ≤ k) (h2 : k2 ≤ k) : FnOk P w K mg base (L2.CX P w) (k + 1) f fd ["store", "other", "names"] (sp_copied K R Pp C0 Ps) := by
  refine F.okX sc_copied (fun vs H Q E h => ?_) (fun cdv A outer s H vs Q E hr h => ?_)
  · obtain ⟨p, pd, p2, pd2, la, m, m2, xs, rfl, _⟩ := h
    rfl
  · obtain ⟨p, pd, p2, pd2, la, m, m2, xs, rfl, ⟨⟨dx, hp⟩, hpd⟩, ⟨⟨dx2, hp2⟩, hpd2⟩, sm, sm2, hla, lx, lr, tb, e1, e2, hq⟩ := h
    have hu := hr.units
    have hu1 : (A.deeper (envOfC "copied" (defScope s_copied) s.heap.objs.size f cdv)).units + 1 < cLine := by omega
    refine ⟨_, (pss_cons (ps_set (i := 3) sc_copied.nd rfl (.inl rfl) pe_dnewK)
    (pss_cons (ps_for (passes_of rfl) rfl (pi_list (pv 2)) (pg_name (i := 4) sc_copied.nd rfl (.inl rfl))
      (pss_cons (ps_set (i := 5) sc_copied.nd rfl (.inl rfl) (pe_meth (pv 0) T.cl M1.m M1.ok (hr.mono h1) M1.b .nil (passes_call (takes_of rfl rfl rfl rfl) (fun _ _ _ _ h => h)) (pa_cons (pv 4) pa_nil)))
    (pss_one (ps_if (PW.pt (pw_or (pt_cmp (pc_dnotin hu1 (pv 4) (pe_fld (pv 1) rfl)) (by with_unfolding_all rfl)) (pw_or1 (pt_not (pt_val (pe_call G2.ok (hr.mono h2) (by rfl) G2.g G2.kp G2.b .nil passF (pa_cons (pv 4) (pa_cons (pe_dget hu1 (pe_fld (pv 1) rfl) (pv 4) (fun _ _ => rfl)) pa_nil))))))))
      (pss_one (ps_dput hu1 (pv 3) (pv 4) (pv 5) rfl)) (pss_one (ps_if (pt_cmpR op_ne (pe_dget hu1 (pe_fld (pv 1) rfl) (pv 4) (fun _ _ => rfl)) (pv 5) (nomark _))
      (pss_one (ps_raise rfl (takes_of rfl rfl rfl rfl) (pmk_own1 PySem.F.excBase_ValueError T.x_P T.g_P T.k_P (raises_own T.b_P T.t_P) (by rfl) (pe_joined (.cons pe_str (.cons (pe_fmtR (pv 4)) .nil)))))) pss_nil))))))
    (pss_cons (L2.ps_lock (ps_for (passes_of rfl) rfl (pi_keys (pv 3)) (pg_name (i := 4) sc_copied.nd rfl (.inl rfl))
      (pss_one (ps_dput hu1 (pe_fld (pv 1) rfl) (pv 4) (pe_dget hu1 (pv 3) (pv 4) (fun _ _ => rfl)) rfl))))
    (pss_one (ps_ret (pe_callTy call_tuple_of (by rfl) T.z_tuple (by decide +kernel) (pa_cons (pe_callB (call_sortedD rfl) (by rfl) T.z_sorted (by decide +kernel) (pa_cons (pv 3) pa_nil)) pa_nil))))))), ?_⟩
    have npP : p ∉ Ps := tb.not hp fun _ z => by cases z
    have ndP : pd ∉ Ps := tb.not hpd fun _ z => by cases z
    have npP2 : p2 ∉ Ps := tb.not hp2 fun _ z => by cases z
    have ndP2 : pd2 ∉ Ps := tb.not hpd2 fun _ z => by cases z
    have big : 30000 ≤ sizeLine := by decide
    refine fun D hD => ?_
    have nDP : D ∉ Ps := tb.none hD
    refine ⟨_, rfl, la, rfl, ⟨_, (((Gw.refl tb).new hD).sqL tb hla)⟩, for_list (xs := xs.map V.str) (fun i σ G => (∃ z4 z5, σ = [some (.ref p), some (.ref p2), some (.ref la), some (.ref D), z4, z5]) ∧ Gw Ps H G ∧ G D = some (.dK (kvS (frL m m2 (xs.take i)))) ∧ ∀ x ∈ xs.take i, okN m m2 x) ⟨⟨_, _, rfl⟩, (Gw.refl tb).new hD, upd_same, fun x hx => by rw [List.take_zero] at hx; cases hx⟩ (fun i σ G _ z => z.2.1.sqL tb hla) ?_ ?_⟩
    · rintro i x σ G hx ⟨⟨z4, z5, rfl⟩, g, hG, al⟩
      rw [List.getElem?_map] at hx
      obtain ⟨nm, he, rfl⟩ := Option.map_eq_some_iff.mp hx
      have hi := (List.getElem?_eq_some_iff.mp he).1
      have hmem : nm ∈ xs := List.mem_of_getElem? he
      have spl : xs = xs.take i ++ nm :: xs.drop (i + 1) := by
        have : nm = xs[i] := by rw [List.getElem?_eq_getElem hi] at he; exact (Option.some.inj he).symm
        rw [this]
        simp
      have tk : xs.take (i + 1) = xs.take i ++ [nm] := by rw [List.take_add_one, he]; rfl
      have gp := g.2 _ _ npP hp
      have gpd := g.2 _ _ ndP hpd
      have gp2 := g.2 _ _ npP2 hp2
      have gpd2 := g.2 _ _ ndP2 hpd2
      have lfr := frL_len m m2 (xs.take i)
      rw [List.length_take] at lfr
      have lr2 : (reprText nm).length ≤ sizeLine := Nat.le_trans (lr nm hmem) (by omega)
      have ad : okN m m2 nm → ∀ x ∈ xs.take (i + 1), okN m m2 x := fun hk x hx => by
        rw [tk] at hx
        rcases List.mem_append.mp hx with hx | hx
        · exact al x hx
        · rw [List.mem_singleton.mp hx]; exact hk
      refine ⟨_, rfl, p, dx, _, rfl, gp, rfl, _, rfl, p, pd, m, nm, rfl, ⟨⟨dx, gp⟩, gpd⟩, sm, lr nm hmem, g.1, fun hl => e1 _ nm _ spl al hl G g, fun v hl hr2 G2 gg => ?_, fun v hl hr2 G2 gg => e2 _ nm _ v spl al hl (.inl hr2) G2 (g.trans gg)⟩
      have g' := g.trans gg
      have qp2 := g'.2 _ _ npP2 hp2
      have qpd2 := g'.2 _ _ ndP2 hpd2
      have qD := gg.2 _ _ nDP hG
      refine ⟨_, rfl, _, rfl, p2, C0, dx2, _, _, rfl, qp2, T.cl, T.nPc, stP pd2, pd2, _, rfl, DGet.k (k := .inr nm) qpd2, _, rfl, ?_⟩
      rw [val_look]
      have lkv : (kvS (frL m m2 (xs.take i))).length < sizeLine := by
        unfold kvS
        rw [List.length_map]
        omega
      have put : need m2 nm = true → ∀ H3, Gw Ps H H3 → Gw Ps H (upd H3 D (.dK (putK (kvS (frL m m2 (xs.take i))) (.inr nm) (.str v)))) ∧ upd H3 D (.dK (putK (kvS (frL m m2 (xs.take i))) (.inr nm) (.str v))) D = some (.dK (kvS (frL m m2 (xs.take (i + 1))))) ∧ ∀ x ∈ xs.take (i + 1), okN m m2 x := fun hn H3 g3 => by
        refine ⟨g3.set hD nDP, ?_, ad ⟨v, hl, hr2, .inl hn⟩⟩
        rw [upd_same, kvS_put, tk, frL_snoc, if_pos hn, hl]
        rfl
      cases hl2 : look m2 nm with
      | none =>
        have hn : need m2 nm = true := by unfold need; rw [hl2]
        refine ⟨_, rfl, _, rfl, _, rfl, D, _, rfl, DPut.k (k := .inr nm) qD lkv, ?_⟩
        exact ⟨⟨_, _, rfl⟩, put hn _ g'⟩
      | some t =>
        obtain ⟨a1, a2⟩ := sm2.2 _ (look_mem hl2)
        refine ⟨_, rfl, _, rfl, p2, C0, dx2, _, _, rfl, qp2, T.cl, T.nPc, stP pd2, _, rfl, pd2, .str t, rfl, by have := DGet.k (k := .inr nm) qpd2; rw [val_look, hl2] at this; exact this, nm, t, rfl, a1, a2, g'.1, fun H3 g3 => ⟨_, rfl, ?_⟩⟩
        have g4 := g'.trans g3
        have rD := g3.2 _ _ nDP qD
        cases hr3 : right nm t with
        | false =>
          have hn : need m2 nm = true := by unfold need; rw [hl2]; show (!right nm t) = true; rw [hr3]; rfl
          refine ⟨_, rfl, _, rfl, _, rfl, D, _, rfl, DPut.k (k := .inr nm) rD lkv, ?_⟩
          exact ⟨⟨_, _, rfl⟩, put hn _ g4⟩
        | true =>
          have hn : need m2 nm = false := by unfold need; rw [hl2]; show (!right nm t) = false; rw [hr3]; rfl
          refine ⟨_, rfl, p2, C0, dx2, _, _, rfl, g4.2 _ _ npP2 hp2, T.cl, T.nPc, stP pd2, _, rfl, pd2, .str t, rfl, by have := DGet.k (k := .inr nm) (g4.2 _ _ ndP2 hpd2); rw [val_look, hl2] at this; exact this, _, rfl, ?_⟩
          by_cases c : t = v
          · subst c
            refine ⟨rfl, _, rfl, ?_⟩
            rw [show (!decide (V.str t = V.str t)) = false by simp]
            refine ⟨⟨_, _, rfl⟩, g4, ?_, ad ⟨t, hl, hr2, .inr hl2⟩⟩
            rw [tk, frL_snoc, hn]
            exact rD
          · have l2 : (Str.empty ++ Str.ofString "another piece stands there: ").length ≤ 100 := by decide
            refine ⟨rfl, _, rfl, ?_⟩
            rw [show (!decide (V.str t = V.str v)) = true by simp [c]]
            refine ⟨_, rfl, Nat.le_trans l2 (by decide), _, rfl, .inl ⟨_, rfl, lr2, _, rfl, ?_, e2 _ nm _ v spl al hl (.inr ⟨hn, fun z => c (Option.some.inj (hl2.symm.trans z))⟩) H3 g4⟩⟩
            rw [XT.str_app_len]
            have := lr nm hmem
            omega
    · rintro σ G ⟨⟨z4, z5, rfl⟩, g, hG, al⟩
      rw [List.length_map, List.take_length] at hG al
      have lfr := frL_len m m2 xs
      have npd2 : p2 ≠ pd2 := fun z => by
        rw [z, hpd2] at hp2
        cases hp2
      have nD2 : pd2 ≠ D := ne_of_none hpd2 hD
      have lkv : (kvS (frL m m2 xs)).length = (frL m m2 xs).length := by unfold kvS; rw [List.length_map]
      have sm21 := sm2.1
      refine ⟨D, _, hG, True.intro, fun od => ?_⟩
      refine ⟨_, rfl, D, od, rfl, .inl ⟨kvS (frL m m2 xs), upd_same, for_it walk_keys (fun i σ G' => (∃ z4 z5, σ = [some (.ref p), some (.ref p2), some (.ref la), some (.ref D), z4, z5]) ∧ Gp Ps pd2 H G' ∧ G' D = some (.frz od (.dK (kvS (frL m m2 xs)))) ∧ G' pd2 = some (.dK (kvS (afterL m2 ((frL m m2 xs).take i))))) ⟨⟨_, _, rfl⟩, g.gp.setD hD nDP, upd_same, by rw [upd_ne nD2]; exact g.2 _ _ ndP2 hpd2⟩ (fun i σ G' _ z => z.2.2.1) ?_ ?_⟩⟩
      · rintro i x σ G' H'' hi ⟨⟨z4, z5, rfl⟩, gi, hf, h2'⟩ ⟨rfl, kk, v, hk, rfl⟩
        rw [lkv] at hi
        have he : (frL m m2 xs)[i]? = some (frL m m2 xs)[i] := List.getElem?_eq_getElem hi
        generalize (frL m m2 xs)[i] = e at he
        have em := List.mem_of_getElem? he
        have ek : (kvS (frL m m2 xs))[i]? = some (.inr e.1, .str e.2) := by
          unfold kvS
          rw [List.getElem?_map, he]
          rfl
        rw [ek] at hk
        cases hk
        have hv : valV (kvS (frL m m2 xs)) (.inr e.1) = some (.str e.2) := by rw [val_look, look_val (f := fun a => (look m a).getD Str.empty) (frL_val m m2 xs) em]; rfl
        refine ⟨_, rfl, _, rfl, D, .str e.2, rfl, .inl ⟨_, .inr e.1, .inr ⟨od, hf⟩, rfl, hv.symm⟩, ?_⟩
        refine ⟨_, rfl, p2, C0, dx2, _, _, rfl, gi.2 _ _ npP2 npd2 hp2, T.cl, T.nPc, stP pd2, _, rfl, pd2, _, rfl, DPut.k (k := .inr e.1) h2' ?_, ?_⟩
        · have := afterL_len ((frL m m2 xs).take i) m2
          rw [List.length_take] at this
          unfold kvS
          rw [List.length_map]
          omega
        · refine ⟨⟨_, _, rfl⟩, gi.set ndP2, by rw [upd_ne nD2.symm]; exact hf, ?_⟩
          rw [upd_same, kvS_put, List.take_add_one, he]
          show _ = some (HO.dK (kvS (afterL m2 ((frL m m2 xs).take i ++ [e]))))
          rw [afterL_snoc]
      · rintro σ G' ⟨⟨z4, z5, rfl⟩, gi, hf, h2'⟩
        rw [lkv, List.take_length] at h2'
        refine ⟨hf, ?_⟩
        have gD : Gp Ps pd2 H (upd G' D (.dK (kvS (frL m m2 xs)))) := gi.setD hD nDP
        have hD2 : upd G' D (.dK (kvS (frL m m2 xs))) pd2 = some (.dK (kvS (afterL m2 (frL m m2 xs)))) := by rw [upd_ne nD2]; exact h2'
        refine ⟨_, rfl, D, kvS (frL m m2 xs), (frL m m2 xs).map (·.1), rfl, .inl upd_same, ?_, ?_, fun ys q pm so hq0 => ?_⟩
        · unfold kvS
          rw [List.map_map, List.map_map]
          rfl
        · rw [List.length_map]
          omega
        · refine ⟨q, _, rfl, .inl ⟨SqL.of upd_same, fun u hu => ?_⟩⟩
          have g5 := gD.new (o := .lst (ys.map V.str)) hq0
          have h5 : upd (upd G' D (.dK (kvS (frL m m2 xs)))) q (.lst (ys.map V.str)) pd2 = some (.dK (kvS (afterL m2 (frL m m2 xs)))) := by rw [upd_ne (ne_of_none hD2 hq0)]; exact hD2
          exact hq al ys pm so _ u (g5.new hu) (by rw [upd_ne (ne_of_none h5 hu)]; exact h5) (g5.none h5 hu) upd_same
end
end K3

set_option maxRecDepth 100000
set_option maxHeartbeats 4000000
namespace K3
open PySem PySem.Spec PyProof.Rows L2
open XT (Sm pe_msg)
open SkE (pmk_own1)
section
/-- a name that another table has right -/
def hasR (m2 : List (Str × Str)) (nm : Str) : Bool := match look m2 nm with
  | none => false
  | some t => right nm t
def setM (m2 m : List (Str × Str)) (l : List Str) : List (Str × Str) := l.foldl (fun acc nm => putS acc nm ((look m2 nm).getD Str.empty)) m
theorem setM_snoc (m2 m : List (Str × Str)) (l : List Str) (nm : Str) : setM m2 m (l ++ [nm]) = putS (setM m2 m l) nm ((look m2 nm).getD Str.empty) := by
  unfold setM
  rw [List.foldl_append]
  rfl
theorem setM_len (m2 : List (Str × Str)) (l : List Str) : ∀ m : List (Str × Str), (setM m2 m l).length ≤ m.length + l.length := by
  induction l with
  | nil => intro m; exact Nat.le_refl _
  | cons e r ih =>
    intro m
    show (setM m2 (putS m e ((look m2 e).getD Str.empty)) r).length ≤ _
    have := ih (putS m e ((look m2 e).getD Str.empty))
    have := putS_len m e ((look m2 e).getD Str.empty)
    rw [List.length_cons]
    omega
variable {P : Program} {w : World} {K : PySem.W.Frag} {mg : Str → Option Value} {base : Heap} {R Pp C0 : Addr} {Ps : List Addr}
/-! mended: slots store=0 other=1 found=2 name=3 -/
abbrev s_mended : Stmt := topS 19
theorem sc_mended : FnScope ["store", "other", "found", "name"] ["store", "other"] (defScope s_mended) := ⟨rfl, rfl, rfl, by decide +kernel, rfl, by decide +kernel, by decide +kernel⟩
theorem bk_mended : BlkOk ["store", "other", "found", "name"] (defScope s_mended) { kind := ScopeKind.function, names := [(".0", NameKind.local), ("name", NameKind.local), ("is_right", NameKind.globalImplicit), ("other", NameKind.free)], isGenerator := false, isCoroutine := false } [("name", 3)] := blkOk_by (by decide +kernel)
def sp_mended (C0 : Addr) (Ps : List Addr) : Sp := fun vs H Q E => ∃ (p pd p2 pd2 : Addr) (m m2 : List (Str × Str)), vs = [.ref p, .ref p2] ∧ StoreAt C0 H p pd m ∧ StoreAt C0 H p2 pd2 m2 ∧ pd ≠ pd2 ∧ SmM m ∧ SmM m2 ∧ Tb Ps H ∧
  ∀ ys : List Str, ys.Perm (m.map (·.1)) → sortedS ys = true → ∀ H' q, Gp Ps pd H H' → H' pd = some (.dK (kvS (setM m2 m ((brk m ys).filter (hasR m2))))) → H q = none → H' q = some (.tup (((brk m ys).filter (hasR m2)).map V.str)) → Q (.ref q) H'
theorem ok_mended {f f1 f2 : Addr} {fd fd1 fd2 : FuncData} {k k1 k2 : Nat} (F : Fun K "mended" "mended" s_mended f fd) (T : Txt K mg R Pp C0)
    (M1 : MCal P w K mg base (L2.CX P w) k1 C0 "broken" ["self"] (sp_broken C0 Ps) f1 fd1) (G2 : Cal P w K mg base (L2.CX P w) k2 "is_right" ["name", "piece"] (sp_is_right Ps) f2 fd2) (h1 : k1 ≤ k) (h2 : k2 ≤ k) : FnOk P w K mg base (L2.CX P w) (k + 1) f fd ["store", "other"] (sp_mended C0 Ps) := by
  refine F.okX sc_mended (fun vs H Q E h => ?_) (fun cdv A outer s H vs Q E hr h => ?_)
  · obtain ⟨p, pd, p2, pd2, m, m2, rfl, _⟩ := h
    rfl
  · obtain ⟨p, pd, p2, pd2, m, m2, rfl, ⟨⟨dx, hp⟩, hpd⟩, ⟨⟨dx2, hp2⟩, hpd2⟩, nd12, sm, sm2, tb, hq⟩ := h
    have hu := hr.units
    have hu1 : (A.deeper (envOfC "mended" (defScope s_mended) s.heap.objs.size f cdv)).units + 1 < cLine := by omega
    refine ⟨_, (pss_cons (ps_setLc (i := 2) (own := [("name", 3)]) rfl sc_mended.nd rfl rfl (sw_true rfl rfl rfl (by rfl)) (pi_tup (pe_meth0 (pv 0) T.cl M1.m M1.ok (hr.mono h1) M1.b .nil passF)) bk_mended (fun _ _ _ _ _ => (pg_name (i := 3) sc_mended.nd rfl (.inl rfl)))
      (fun _ _ _ _ _ => (pts_one (PW.pt (pw_and (pt_cmp (pc_din hu1 (pv 3) (pe_fldK (K0 := K) rfl (pv 1) rfl)) (by with_unfolding_all rfl)) (pw_and1 (pt_val (pe_call G2.ok (hr.mono h2) (by rfl) G2.g G2.kp G2.b .nil passF (pa_cons (pv 3) (pa_cons (pe_dget hu1 (pe_fldK (K0 := K) rfl (pv 1) rfl) (pv 3) (fun _ _ => rfl)) pa_nil))))))))) (fun _ _ _ _ _ => (pv 3)))
    (pss_cons (ps_for (passes_of rfl) rfl (pi_list (pv 2)) (pg_name (i := 3) sc_mended.nd rfl (.inl rfl))
      (pss_one (ps_dput hu1 (pe_fld (pv 0) rfl) (pv 3) (pe_dget hu1 (pe_fld (pv 1) rfl) (pv 3) (fun _ _ => rfl)) rfl)))
    (pss_one (ps_ret (pe_callTy call_tuple_of (by rfl) T.z_tuple (by decide +kernel) (pa_cons (pv 2) pa_nil)))))), ?_⟩
    have npP : p ∉ Ps := tb.not hp fun _ z => by cases z
    have ndP : pd ∉ Ps := tb.not hpd fun _ z => by cases z
    have npP2 : p2 ∉ Ps := tb.not hp2 fun _ z => by cases z
    have ndP2 : pd2 ∉ Ps := tb.not hpd2 fun _ z => by cases z
    have big : 30000 ≤ sizeLine := by decide
    have sm1 := sm.1
    refine ⟨_, rfl, p, dx, _, rfl, hp, rfl, p, pd, m, rfl, ⟨⟨dx, hp⟩, hpd⟩, sm, tb, fun ys pm so H1 q g1 hq0 hq1 => ?_⟩
    have nq : q ∉ Ps := tb.none hq0
    have ly : ys.length = m.length := by rw [pm.length_eq, List.length_map]
    have lb : (brk m ys).length ≤ ys.length := List.length_filter_le _ _
    generalize hbs : brk m ys = bs at *
    refine ⟨q, rfl, ⟨_, SqT.of hq1⟩, fun D hD => ?_⟩
    have nDP : D ∉ Ps := g1.1.none hD
    have hDH : H D = none := g1.none tb hD
    refine lc_tup (xs := bs.map V.str) (fun i G => Gw Ps H G ∧ G q = some (.tup (bs.map V.str)) ∧ G D = some (.lst (((bs.take i).filter (hasR m2)).map V.str))) ⟨g1.new hD, by rw [upd_ne (ne_of_none hq1 hD)]; exact hq1, upd_same⟩ (fun i G _ z => SqT.of z.2.1) ?_ ?_
    · rintro i x G hx ⟨g, hGq, hGD⟩
      rw [List.getElem?_map] at hx
      obtain ⟨nm, he, rfl⟩ := Option.map_eq_some_iff.mp hx
      have tk : (bs.take (i + 1)).filter (hasR m2) = (bs.take i).filter (hasR m2) ++ (if hasR m2 nm = true then [nm] else []) := by
        rw [List.take_add_one, he, List.filter_append]
        congr 1
        show [nm].filter (hasR m2) = _
        rw [List.filter_cons]
        rfl
      have qp2 := g.2 _ _ npP2 hp2
      have qpd2 := g.2 _ _ ndP2 hpd2
      refine ⟨rfl, ?_⟩
      simp only [wipe, List.map_cons, List.map_nil, List.foldl_cons, List.foldl_nil, List.set_cons_zero, List.set_cons_succ]
      refine ⟨_, rfl, _, rfl, p2, C0, dx2, _, _, rfl, qp2, T.cl, T.nPc, stP pd2, pd2, _, rfl, DGet.k (k := .inr nm) qpd2, _, rfl, ?_⟩
      rw [val_look]
      cases hl2 : look m2 nm with
      | none =>
        have hn : hasR m2 nm = false := by unfold hasR; rw [hl2]
        refine ⟨g, hGq, ?_⟩
        rw [tk, hn]
        simpa using hGD
      | some t =>
        obtain ⟨a1, a2⟩ := sm2.2 _ (look_mem hl2)
        refine ⟨_, rfl, _, rfl, p2, C0, dx2, _, _, rfl, qp2, T.cl, T.nPc, stP pd2, _, rfl, pd2, .str t, rfl, by have := DGet.k (k := .inr nm) qpd2; rw [val_look, hl2] at this; exact this, nm, t, rfl, a1, a2, g.1, fun H3 g3 => ⟨_, rfl, ?_⟩⟩
        have rq := g3.2 _ _ nq hGq
        have rD := g3.2 _ _ nDP hGD
        have hn : hasR m2 nm = right nm t := by unfold hasR; rw [hl2]
        cases hr3 : right nm t with
        | false =>
          refine ⟨g.trans g3, rq, ?_⟩
          rw [tk, hn, hr3]
          simpa using rD
        | true =>
          refine ⟨_, rfl, _, rD, ?_, (g.trans g3).set hDH nDP, ?_, ?_⟩
          · rw [List.length_map]
            have e1 := List.length_filter_le (hasR m2) (bs.take i)
            rw [List.length_take] at e1
            omega
          · rw [upd_ne (by intro z; rw [z, rD] at rq; cases rq)]
            exact rq
          · rw [upd_same, tk, hn, hr3]
            simp
    · rintro G ⟨g, hGq, hGD⟩
      rw [List.length_map, List.take_length] at hGD
      have lf : (bs.filter (hasR m2)).length ≤ bs.length := List.length_filter_le _ _
      have nppd : p ≠ pd := fun z => by
        rw [z, hpd] at hp
        cases hp
      have np2pd : p2 ≠ pd := fun z => by
        rw [z, hpd] at hp2
        cases hp2
      have nDpd : D ≠ pd := fun z => by
        rw [z, hpd] at hDH
        cases hDH
      have hq2 := fun H' q' (a1 : Gp Ps pd H H') a2 a3 a4 => hq ys pm so H' q' a1 (by rw [hbs]; exact a2) a3 (by rw [hbs]; exact a4)
      generalize hfs : bs.filter (hasR m2) = fs at *
      refine ⟨_, rfl, D, rfl, ⟨_, SqL.of hGD⟩, for_list (xs := fs.map V.str) (fun i σ G' => (∃ z3, σ = [some (.ref p), some (.ref p2), some (.ref D), z3]) ∧ Gp Ps pd H G' ∧ G' D = some (.lst (fs.map V.str)) ∧ G' pd = some (.dK (kvS (setM m2 m (fs.take i))))) ⟨⟨_, rfl⟩, g.gp, hGD, g.2 _ _ ndP hpd⟩ (fun i σ G' _ z => SqL.of z.2.2.1) ?_ ?_⟩
      · rintro i x σ G' hx ⟨⟨z3, rfl⟩, gi, hL, hT⟩
        rw [List.getElem?_map] at hx
        obtain ⟨nm, he, rfl⟩ := Option.map_eq_some_iff.mp hx
        have hi := (List.getElem?_eq_some_iff.mp he).1
        have hmem : nm ∈ bs.filter (hasR m2) := by rw [hfs]; exact List.mem_of_getElem? he
        have hR := (List.mem_filter.mp hmem).2
        obtain ⟨t, hl2⟩ : ∃ t, look m2 nm = some t := by
          unfold hasR at hR
          cases e : look m2 nm with
          | none => rw [e] at hR; cases hR
          | some t => exact ⟨t, rfl⟩
        have qp2 := gi.2 _ _ npP2 np2pd hp2
        have qpd2 := gi.2 _ _ ndP2 nd12.symm hpd2
        refine ⟨_, rfl, p2, C0, dx2, _, _, rfl, qp2, T.cl, T.nPc, stP pd2, _, rfl, pd2, .str t, rfl, by have := DGet.k (k := .inr nm) qpd2; rw [val_look, hl2] at this; exact this, ?_⟩
        refine ⟨_, rfl, p, C0, dx, _, _, rfl, gi.2 _ _ npP nppd hp, T.cl, T.nPc, stP pd, _, rfl, pd, _, rfl, DPut.k (k := .inr nm) hT ?_, ?_⟩
        · have := setM_len m2 (fs.take i) m
          rw [List.length_take] at this
          unfold kvS
          rw [List.length_map]
          omega
        · refine ⟨⟨_, rfl⟩, gi.set ndP, by rw [upd_ne nDpd]; exact hL, ?_⟩
          rw [upd_same, kvS_put, List.take_add_one, he]
          show _ = some (HO.dK (kvS (setM m2 m (fs.take i ++ [nm]))))
          rw [setM_snoc, hl2]
          rfl
      · rintro σ G' ⟨⟨z3, rfl⟩, gi, hL, hT⟩
        rw [List.length_map, List.take_length] at hT
        refine ⟨_, rfl, D, _, rfl, .inl ⟨SqL.of hL, fun u hu => ?_⟩⟩
        exact hq2 _ u (gi.new hu) (by rw [upd_ne (ne_of_none hT hu)]; exact hT) (gi.none hT hu) upd_same
end
end K3

set_option maxRecDepth 100000
set_option maxHeartbeats 4000000
/-! sets of texts: a new one, adding what isn't there, walked to a sorted list, a comprehension of unlike texts -/
namespace TX
open PySem PySem.Spec PyProof.Rows L2 PySem.Froz
section
variable {P : Program} {w : World} {A : Around} {E : Value → Shared → Prop} {s : Shared} {a : Addr}
/-- the set of the unlike texts l at a, whole -/
structure Hold (P : Program) (w : World) (h : Heap) (a : Addr) (l : List Str) : Prop where
  at_ : ∃ D : SD, h.get? a = some (sObj "set" D) ∧ TxOk P w D l ∧ Ris D.2.2.place.toList ∧ (w.params.followText "set-order" = true ∨ D.2.2.led = true)
  un : l.Nodup
theorem rises0 {ep : Nat} {es : Array (Int × Value)} {t : SetTable} {b : Bool} (r : Ris t.place.toList) : Ris (tailTx ep es t b).2.2.place.toList := by
  unfold tailTx
  by_cases c : (!b && t.tooFull) = true
  · rw [if_pos c]
    exact relayAll_ris _ _ _
  · rw [if_neg c]
    exact r
theorem leads0 {ep : Nat} {es : Array (Int × Value)} {t : SetTable} {b : Bool} (r : t.led = true) : (tailTx ep es t b).2.2.led = true := by
  unfold tailTx
  by_cases c : (!b && t.tooFull) = true
  · rw [if_pos c]
    exact (relayAll_led _ _ _).trans r
  · rw [if_neg c]
    exact r
theorem rises {D : SD} {k : Str} {u : Tok} (r : Ris D.2.2.place.toList) : Ris (addTx (hashStr w k) (.str k u) D).2.2.place.toList := by
  obtain ⟨es, ep, t⟩ := D
  have r1 := layNew_ris t es (hashStr w k) (.str k u) r
  refine rises0 ?_
  show Ris (if (layNew t es (hashStr w k) (.str k u)).2.1.plain = true then { (layNew t es (hashStr w k) (.str k u)).2.1 with plain := false } else (layNew t es (hashStr w k) (.str k u)).2.1).place.toList
  split
  · exact r1
  · exact r1
theorem leads {D : SD} {k : Str} {u : Tok} (r : w.params.followText "set-order" = true ∨ D.2.2.led = true) : w.params.followText "set-order" = true ∨ (addTx (hashStr w k) (.str k u) D).2.2.led = true := by
  refine r.imp id fun r => ?_
  obtain ⟨es, ep, t⟩ := D
  have r1 := (layNew_led t es (hashStr w k) (.str k u)).trans r
  refine leads0 ?_
  show (if (layNew t es (hashStr w k) (.str k u)).2.1.plain = true then { (layNew t es (hashStr w k) (.str k u)).2.1 with plain := false } else (layNew t es (hashStr w k) (.str k u)).2.1).led = true
  split
  · exact r1
  · exact r1
theorem Hold.keep {h h' : Heap} {l : List Str} (q : Hold P w h a l) (k : ∀ o, h.get? a = some o → h'.get? a = some o) : Hold P w h' a l := by
  obtain ⟨D, e, r⟩ := q.at_
  exact ⟨⟨D, k _ e, r⟩, q.un⟩
theorem Hold.more {l : List Str} {k : Str} {u : Tok} {Q : Value → Shared → Prop} (q : Hold P w s.heap a l) (nk : k ∉ l) (few : l.length + 1 < scanBound)
    (go : ∀ h', Heap.SameBut a s.heap h' → Hold P w h' a (k :: l) → Q .none { s with heap := h', toks := s.toks + 1 }) : wpAny (model P w) A (call (.builtin "set.add") [.ref a, .str k u]) Q E s := by
  obtain ⟨D, ho, ok, ri, le⟩ := q.at_
  have ty : s.TypeIs (.ref a) "set" := ⟨_, ho, rfl⟩
  refine wpAny_call_entry F.slot_set_add ty F.entry_set_add ?_ (F.args_set_add_2 _ _)
  unfold Builtin.«set.add» Builtin.Frozenset.oneOther Builtin.Frozenset.addrOf setAdd
  simp only [List.isEmpty_nil, bind_assoc, pure_bind]
  generalize hS : setAddHashed = SA
  generalize hP : pyHash = PH
  wp_walk
  subst hS hP
  refine (strKind P w).pyHash (is_str k u) ?_
  refine add_x (s := { s with toks := s.toks + 1 }) ho ok nk few ?_
  exact wpAny_pure ⟨_, rfl, go _ (Heap.SameBut.update _ a _) ⟨⟨_, get_upd _ ho rfl, add_ok u ok, rises ri, leads le⟩, List.nodup_cons.mpr ⟨nk, q.un⟩⟩⟩
theorem Hold.bare (h : Heap) : Hold P w (h.push { cls := .type "set", dict := none, data := .set #[] 0 (.fresh 0 0 (!w.params.followText "set-order")) }) h.objs.size [] :=
  ⟨⟨(#[], 0, .fresh 0 0 (!w.params.followText "set-order")), Heap.get?_push_size _ rfl, TxOk.nil rfl, List.Pairwise.nil, by
    show _ ∨ (!w.params.followText "set-order") = true
    cases w.params.followText "set-order"
    · exact .inr rfl
    · exact .inl rfl⟩, List.nodup_nil⟩
/-- as a thing of the heap -/
def SetS (P : Program) (w : World) (a : Addr) (l : List Str) : HO := .ext fun h => Hold P w h a l
theorem setS_ok {H : Hp} {h : Heap} {l : List Str} (q : Hold P w h a l) : ObjOk P w H h a (SetS P w a l) :=
  ⟨q, by obtain ⟨D, e, _⟩ := q.at_; exact ⟨_, e⟩, fun h1 h2 q k => q.keep (k)⟩
theorem perm_len : ∀ {l m : List Str}, l.Nodup → (∀ x ∈ l, x ∈ m) → m.length = l.length → m.Perm l
  | [], m, _, _, h => by
    have : m = [] := List.length_eq_zero_iff.mp h
    rw [this]
  | x :: r, m, nd, s, h => by
    obtain ⟨n1, n2⟩ := List.nodup_cons.mp nd
    have hx := s x (List.mem_cons_self ..)
    have p := List.perm_cons_erase hx
    refine p.trans (List.Perm.cons x (perm_len n2 (fun y hy => ?_) ?_))
    · exact (List.mem_erase_of_ne (fun (z : y = x) => n1 (by rw [← z]; exact hy))).mpr (s y (List.mem_cons_of_mem _ hy))
    · have := p.length_eq
      rw [List.length_cons] at this h
      omega
/-- what a walk over it gives: its texts in some order -/
theorem Hold.texts {l : List Str} {D : SD} (ok : TxOk P w D l) (un : l.Nodup) : ∃ ks : List Str, ks.Perm l ∧ ∀ vs : List Value, vs.Perm (D.1.toList.map (·.2)) → ∃ ys : List Str, ys.Perm l ∧ Vals (ys.map V.str) vs := by
  have each : ∀ e ∈ D.1.toList, ∃ k u, e.2 = Value.str k u := fun e he => by
    obtain ⟨⟨k, h1, _⟩, _⟩ := ok.el e he
    obtain ⟨hh, v⟩ := e
    have h1 : Value.isStrOf k v = true := h1
    cases v <;> first
      | exact ⟨_, _, rfl⟩
      | exact absurd h1 Bool.false_ne_true
  let kf : Value → Str := fun v => match v with | .str k _ => k | _ => Str.empty
  have mem : ∀ k, k ∈ l ↔ k ∈ (D.1.toList.map (·.2)).map kf := fun k => by
    rw [ok.mem k]
    constructor
    · rintro ⟨e, he, z⟩
      obtain ⟨k2, u, e2⟩ := each e he
      refine List.mem_map.mpr ⟨e.2, List.mem_map.mpr ⟨e, he, rfl⟩, ?_⟩
      rw [e2] at z ⊢
      have z : Value.isStrOf k (.str k2 u) = true := z
      simpa [Value.isStrOf] using z
    · intro hk
      obtain ⟨v, hv, z⟩ := List.mem_map.mp hk
      obtain ⟨e, he, rfl⟩ := List.mem_map.mp hv
      obtain ⟨k2, u, e2⟩ := each e he
      refine ⟨e, he, ?_⟩
      rw [e2] at z ⊢
      have z : k2 = k := z
      rw [z]
      exact is_str k u
  have len : ((D.1.toList.map (·.2)).map kf).length = l.length := by
    rw [List.length_map, List.length_map, Array.length_toList]
    exact ok.sz
  have pm : ((D.1.toList.map (·.2)).map kf).Perm l := by
    exact perm_len un (fun k hk => (mem k).mp hk) len
  refine ⟨_, pm, fun vs hv => ⟨vs.map kf, (hv.map kf).trans pm, ?_⟩⟩
  have all : ∀ v ∈ vs, ∃ k u, v = Value.str k u := fun v hv' => by
    obtain ⟨e, he, rfl⟩ := List.mem_map.mp (hv.mem_iff.mp hv')
    exact each e he
  clear hv
  induction vs with
  | nil => exact .nil
  | cons v r ih =>
    obtain ⟨k, u, rfl⟩ := all v (List.mem_cons_self ..)
    exact .cons ⟨u, rfl⟩ (ih fun x hx => all x (List.mem_cons_of_mem _ hx))
end
end TX

set_option maxRecDepth 100000
set_option maxHeartbeats 4000000
namespace TX
open PySem PySem.Spec PyProof.Rows L2 PySem.Froz
section
variable {P : Program} {w : World} {A : Around} {E : Value → Shared → Prop} {s : Shared} {a : Addr}
/-- sorted(a set of texts) -/
theorem Hold.inOrder {l : List Str} {Q : Value → Shared → Prop} (q : Hold P w s.heap a l) (calm : A.handled = none) (few : l.length < 64)
    (go : ∀ (s' : Shared) (p : Addr) (out : Array Value) (c : Nat) (ys : List Str), (∀ b o, s.heap.get? b = some o → s'.heap.get? b = some o) → s'.gens = s.gens → s'.os = s.os → s.heap.objs.size ≤ p → s'.heap.get? p = some (seqObj "list" out c) → StrsAre out.toList ys → ys.Perm l → sortedS ys = true → Q (.ref p) s') :
    wpAny (model P w) A (call (.builtin "sorted") [.ref a]) Q E s := by
  obtain ⟨D, ho, ok, ri, le⟩ := q.at_
  obtain ⟨_, _, walk⟩ := Hold.texts ok q.un
  have fits : D.2.2.fits D.1.size = true := ok.fit
  have room : D.1.size < scanBound := by
    have := ok.sz
    have : 64 < scanBound := by decide
    omega
  refine Calls.call_function_entry kind_sorted plain_sorted entry_sorted (args_sorted1 _) ?_
  unfold Builtin.«sorted»
  refine wpAny_bind (m := checkCount "sorted" 1 1 _) (wpAny_pure ?_)
  refine wpAny_bind (collect_set (A := A.in1) calm ⟨_, ho, rfl, rfl⟩ fits room ri le fun s1 vs k1 hz g1 o1 pm => ?_)
  obtain ⟨ys0, pm0, vals⟩ := walk vs pm
  have lenV : vs.length = l.length := by rw [← vals.length, List.length_map, pm0.length_eq]
  refine wpAny_bind (wpAny_newList ?_ (by rw [lenV, sizeLine_eq]; omega))
  have hoL : (s1.heap.push (seqObj "list" vs.toArray 0)).get? s1.heap.objs.size = some (seqObj "list" vs.toArray 0) := Heap.get?_push_size _ rfl
  have tx : StrsAre vs ys0 := vals.strs
  refine wpAny_bind (wpAny_holding (wpAny_call_entry slot_list_sort ⟨_, hoL, rfl⟩ entry_list_sort (list_sort_treeK strKind_oneLt hoL tx.keysOf (fun v1 v2 rest e => keyKind_strs (by rw [← e]; exact tx)) (by rw [lenV]; exact few) fun st' hp hs => ⟨_, rfl, ?_⟩) (args_list_sort _)))
  obtain ⟨ys, g3, g4, g5⟩ := sorted_out_str tx hp hs
  obtain ⟨c, hc⟩ := sortedHeap_at (vs := vs) (out := (arrOf st').map (·.2)) hoL
  refine wpAny_pure ⟨_, rfl, go _ s1.heap.objs.size _ c ys (fun b u e => ?_) g1 o1 hz hc g3 (g4.trans pm0) g5⟩
  have q1 := k1 b u e
  have lt := Heap.lt_size q1
  show (sortedHeap (s1.heap.push (seqObj "list" vs.toArray 0)) s1.heap.objs.size vs ((arrOf st').map (·.2))).get? b = some u
  rw [sortedHeap_old (Nat.ne_of_lt lt) (by rw [size_push']; exact Nat.lt_succ_of_lt lt)]
  exact Heap.get?_push_of_some _ q1
end
end TX

set_option maxRecDepth 100000
set_option maxHeartbeats 4000000
namespace TX
open PySem PySem.Spec PyProof.Rows L2 PySem.Froz PpSet
section
variable {X : Cx}
theorem setS_get {pins : List (Addr × Obj)} {σ : L2.St} {H : Hp} {s : Shared} {a : Addr} {l : List Str} (I : Inv X pins σ H s) (ha : H a = some (SetS X.prog X.w a l)) : TX.Hold X.prog X.w s.heap a l := (I.hok a _ ha).1
def rSortedSetS (P : Program) (w : World) : List V → Hp → VK → Prop := fun vs H Q => ∃ (a : Addr) (l : List Str), vs = [V.ref a] ∧ H a = some (SetS P w a l) ∧ l.length < 64 ∧ ∀ (ys : List Str) (p : Addr), ys.Perm l → sortedS ys = true → H p = none → Q (.ref p) (upd H p (.lst (ys.map V.str)))
theorem cr_sortedSetS (hc : X.calm = true) : CallR X (.builtin "sorted") (rSortedSetS X.prog X.w) := by
  intro pins s σ H vs us Q I r h
  obtain ⟨a, l, rfl, ha, few, q⟩ := h
  rw [Vals.ref1 r]
  refine TX.Hold.inOrder (setS_get I ha) (I.ok.hd hc) few fun s' p out c ys k g o hp hg hi pm so => ?_
  have hn : H p = none := I.hok.fresh hp
  have ln : (ys.map V.str).length ≤ sizeLine := by rw [List.length_map, pm.length_eq, sizeLine_eq]; omega
  have J : Inv X pins σ (upd H p (.lst (ys.map V.str))) { s with heap := s'.heap, gens := s'.gens, drawn := s'.drawn, toks := s'.toks } := I.call (ch := []) (Un.laid k hp hn) (I.hok.laid k hp ⟨ln, out.toList, c, vals_of_strs hi, hg⟩) (by rw [g]; exact I.bare) (fun _ z => nomatch z)
  have e : s' = { s with heap := s'.heap, gens := s'.gens, drawn := s'.drawn, toks := s'.toks } := by
    cases s'
    cases s
    cases o
    rfl
  rw [e]
  exact ⟨.ref p, _, J, rfl, q ys p pm so hn⟩
/-- what each turn of {te for g in wi if tt} owes, its texts unlike -/
def SetTurn (P : Program) (w : World) (J : It) (g : TG) (tt : TT) (te : TE) (vs : List Nat) (σ : L2.St) (D : Addr) (Q : VK) (W : Nat → Nat → Hp → Prop) : Prop := ∀ i m H, W i m H →
  (J.stop i H ∧ Q (.ref D) H) ∨ (J.go i H ∧ ∃ Nx : Hp → Prop, (∀ H', Nx H' → ∃ m', m' < m ∧ W (i + 1) m' H') ∧ ∀ x H', J.yld i H x H' → g x (wipe σ vs) H' fun σ2 H2 => wipe σ2 vs = wipe σ vs ∧ tt σ2 H2 fun b H3 =>
    if b = true then te σ2 H3 fun y H4 => ∃ (c : Str) (l : List Str), y = .str c ∧ H4 D = some (SetS P w D l) ∧ c ∉ l ∧ l.length + 1 < scanBound ∧ Nx (upd H4 D (SetS P w D (c :: l))) else Nx H3)
def tSetC (P : Program) (w : World) (wi : TI) (g : TG) (tt : TT) (te : TE) (vs : List Nat) : TE := fun σ H Q => wi σ H fun J H1 => ∀ D, H1 D = none → ∃ W : Nat → Nat → Hp → Prop, (∃ m, W 0 m (upd H1 D (SetS P w D []))) ∧ SetTurn P w J g tt te vs σ D Q W
theorem pe_setC {el tgt itr : Expr} {tests : List Expr} {scp : Scope} {own : List (PySem.Str × Nat)} {po : Pos} {wi : TI} {g : TG} {tt : TT} {te : TE} (calm : X.calm = true) (nd : X.N.Nodup) (walk : PI X tgt itr wi) (blk : BlkOk X.N X.env.scope scp own)
    (tgR : ∀ (s : Shared) (H : Hp) (C : Addr) (cl : List (PySem.Str × Addr)) (fp : List Addr), PG (X.blk s H scp (compEnvC scp cl C X.env) fp) tgt g) (ttR : ∀ (s : Shared) (H : Hp) (C : Addr) (cl : List (PySem.Str × Addr)) (fp : List Addr), PTs (X.blk s H scp (compEnvC scp cl C X.env) fp) tests tt)
    (teR : ∀ (s : Shared) (H : Hp) (C : Addr) (cl : List (PySem.Str × Addr)) (fp : List Addr), PE (X.blk s H scp (compEnvC scp cl C X.env) fp) el te) (fold : ∀ x, foldedSetIterable itr X.env x = pure x := by intro _; rfl) :
    PE X (.SetComp el [⟨tgt, itr, tests, 0⟩] scp po) (tSetC X.prog X.w wi g tt te (own.map (·.2))) := by
  refine ⟨fun pins s σ H Q I h => ?_⟩
  rw [eval_SetComp]
  have cells : ∀ y ∈ scp.names, y.2 = .free → ∃ c, X.env.cells.lookup y.1 = some c := fun y hy e => (blk.free y hy e).elim (fun k => I.ok.has _ (.inl k)) fun k => I.ok.has _ (.inr k)
  refine wpAny_comprehension_free (use := none) rfl fold (closure_ok cells) blk.kind (fun y hy e => by rw [blk.uniq y hy, e]) (thn (walk.run pins s σ H _ I h) fun xv s1 hx => thn hx fun itv s2 h2 => ?_)
  obtain ⟨it, fp, tn, J, H2, rfl, I2, tu, st2, free2, q⟩ := h2
  refine newSet_ok (newEnv_comp ?_)
  generalize eD : s2.heap.objs.size = D
  have nD : H2 D = none := I2.hok.fresh (Nat.le_of_eq eD)
  obtain ⟨W, ⟨m0, w0⟩, turns⟩ := q D nD
  have I3 : Inv X pins σ (upd H2 D (SetS X.prog X.w D [])) { s2 with heap := s2.heap.push { cls := .type "set", dict := none, data := .set #[] 0 (.fresh 0 0 (!X.w.params.followText "set-order")) } } := by
    refine I2.laid (t' := s2.toks) (fun b o e => Heap.get?_push_of_some _ e) (Nat.le_of_eq eD) ?_
    rw [← eD]
    exact setS_ok (TX.Hold.bare s2.heap)
  generalize e3 : ({ s2 with heap := s2.heap.push { cls := .type "set", dict := none, data := .set #[] 0 (.fresh 0 0 (!X.w.params.followText "set-order")) } } : Shared) = s3 at I3 ⊢
  have h3 : s3.heap = s2.heap.push { cls := .type "set", dict := none, data := .set #[] 0 (.fresh 0 0 (!X.w.params.followText "set-order")) } := by rw [← e3]
  have free3 : ∀ b ∈ fp, FpOk X pins (upd H2 D (SetS X.prog X.w D [])) b ∧ b < s3.heap.objs.size := fun b hb => by
    obtain ⟨o, e, _⟩ := tu.obj _ _ st2 b hb
    have lt := Heap.lt_size e
    refine ⟨⟨by rw [upd_ne (by rw [← eD]; exact Nat.ne_of_lt lt)]; exact (free2 b hb).1, (free2 b hb).2⟩, by rw [h3, Heap.size_push]; exact Nat.lt_succ_of_lt lt⟩
  have st3 : tn 0 s3.heap := tu.keep _ _ _ st2 fun b _ o e => by rw [h3]; exact Heap.get?_push_of_some _ e
  have I4 := block_start I3 blk nd free3
  show codeAny (model X.prog X.w) X.A (.compStart (.SetComp el [⟨tgt, itr, tests, 0⟩] scp po) 0 (.ref it) (.ref D) (compEnvC scp (cellsFrom (s3.heap.objs.size + 1) scp.names (cloFrom X.env.cells scp.names [])) s3.heap.objs.size X.env)) (compPost (model X.prog X.w) X.A X.xe none (EP X pins σ Q) (.ref D) s3.heap.objs.size) { s3 with heap := pushCells (s3.heap.push { cls := .type "dict", data := .dict #[] }) scp.names }
  generalize eH : upd H2 D (SetS X.prog X.w D []) = H3 at I3 I4 w0 free3
  generalize eK : cellsFrom (s3.heap.objs.size + 1) scp.names (cloFrom X.env.cells scp.names []) = cls at I4 ⊢
  have pg := tgR s3 H3 s3.heap.objs.size cls fp
  have pt := ttR s3 H3 s3.heap.objs.size cls fp
  have pe := teR s3 H3 s3.heap.objs.size cls fp
  have home : (compEnvC scp cls s3.heap.objs.size X.env).locals = s3.heap.objs.size := rfl
  generalize compEnvC scp cls s3.heap.objs.size X.env = ce at I4 pg pt pe home ⊢
  generalize e4 : ({ s3 with heap := pushCells (s3.heap.push { cls := .type "dict", data := .dict #[] }) scp.names } : Shared) = s4 at I4 ⊢
  have st4 : tn 0 s4.heap := tu.keep _ _ _ st3 fun b _ o e => by rw [← e4]; exact pushCells_keeps _ _ _ _ (Heap.get?_push_of_some _ e)
  have inner : ∀ {σ' : L2.St} {H' : Hp} {s' : Shared}, Inv (X.blk s3 H3 scp ce fp) [] σ' H' s' → (∀ b ∈ fp, H' b = none) → ∀ b ∈ fp, FpOk (X.blk s3 H3 scp ce fp) [] H' b := fun {σ' H' s'} J' n b hb =>
    ⟨n b hb, (J'.ok.exf b hb).1, J'.ok.exfs b hb, .inl hb, fun x c e => (J'.ok.exf b hb).2 x c e, fun p hp => nomatch hp⟩
  refine codeAny_compStart_set ?_ (tu.self X.A 0 _ _ _ st4 ?_) <;>
  · refine compLoopS_any (fun n s' => ∃ i H', Inv (X.blk s3 H3 scp ce fp) [] (wipe σ (own.map (·.2))) H' s' ∧ tn i s'.heap ∧ (∀ b ∈ fp, H' b = none) ∧ W i n H') ?_ m0 ⟨0, H3, I4, st4, fun b hb => (free3 b hb).1.1, w0⟩
    rintro n s5 ⟨i, H5, I5, st5, n5, w5⟩
    rcases turns i n H5 w5 with ⟨stop, fin⟩ | ⟨go, Nx, back, step⟩
    · refine thnF (tu.done (X.blk s3 H3 scp ce fp) rfl rfl rfl calm i [] s5 _ H5 (fun _ _ => False) I5 (inner I5 n5) st5 stop) fun r s6 ⟨hr, I6⟩ => ?_
      subst hr
      have I7 : Inv X pins σ H5 s6 := I3.call' (ch := fp) I6.os I6.base I6.hok I6.bare fun b hb => ⟨(free3 b hb).1.2.2.2.1, (free3 b hb).1.2.1, (free3 b hb).1.2.2.2.2.1, (free3 b hb).1.2.2.2.2.2⟩
      have nC : H5 s3.heap.objs.size = none := by
        have z : H5 ce.locals = none := I6.free
        rw [home] at z
        exact z
      obtain ⟨m, hm, _⟩ := I6.loc
      have hm : s6.heap.Ns ce.locals m := hm
      rw [home] at hm
      refine ⟨m, hm, fun h'' sb => ?_⟩
      obtain ⟨f0, f1, f2, f3, f4, f5⟩ := I3.fpOk (Nat.le_refl _) nC
      exact ⟨.ref D, H5, I7.turned (t' := s6.toks) (fun b o hb e => (sb.2 b hb).trans e) f0 f1 f3 f4 f5, rfl, fin⟩
    · refine thnF (tu.item (X.blk s3 H3 scp ce fp) rfl rfl rfl calm i [] s5 _ H5 (fun _ _ => False) I5 (inner I5 n5) st5 go) fun r s6 ⟨u, hr, h6⟩ => ?_
      subst hr
      refine thnF h6 fun _ s7 ⟨x, H7, I7, r7, y7, st7, n7⟩ => ?_
      refine thnF (pg.run _ s7 _ H7 x u _ (I7.pinned (inner I7 n7) (tu.obj _ _ st7)) r7 (step x H7 y7)) fun _ s8 ⟨σ8, H8, I8, ew, q8⟩ => ?_
      refine thnF (pt.run _ s8 σ8 H8 _ I8 q8) fun b s9 ⟨H9, I9, q9⟩ => ?_
      have ret : ∀ {s' : Shared} {H' : Hp}, Inv (X.blk s3 H3 scp ce fp) ([] ++ pinsAt fp s7.heap) σ8 H' s' → Nx H' → ∃ m, m < n ∧ ∃ i H', Inv (X.blk s3 H3 scp ce fp) [] (wipe σ (own.map (·.2))) H' s' ∧ tn i s'.heap ∧ (∀ b ∈ fp, H' b = none) ∧ W i m H' := fun {s' H'} J' nx => by
        obtain ⟨m', lt, w'⟩ := back H' nx
        have held : ∀ b ∈ fp, ∀ o, s7.heap.get? b = some o → s'.heap.get? b = some o ∧ H' b = none := fun b hb o e =>
          have z := J'.pin (b, o) (List.mem_append_right _ (List.mem_append_right _ (mem_pinsAt hb e)))
          ⟨z.1, z.2.1⟩
        refine ⟨m', lt, i + 1, H', (J'.unpinned (pins := [])).weak (by rw [← ew, wipe_length]) (fun j v e => ?_), tu.keep _ _ _ st7 fun b hb o e => (held b hb o e).1, fun b hb => ?_, w'⟩
        · rw [← ew] at e
          exact (wipe_some e).1
        · obtain ⟨o, e, _⟩ := tu.obj _ _ st7 b hb
          exact (held b hb o e).2
      cases b with
      | false =>
        simp only [Bool.false_eq_true, if_false] at q9 ⊢
        exact ret I9 q9
      | true =>
        simp only [if_true] at q9 ⊢
        refine thnF (pe.run _ s9 σ8 H9 _ I9 q9) fun z s10 ⟨yv, H10, I10, r10, c, l, ey, hD, nc, few, nx⟩ => ?_
        subst ey
        obtain ⟨tk, rfl⟩ : ∃ tk, z = Value.str c tk := r10
        refine TX.Hold.more (setS_get (X := X.blk s3 H3 scp ce fp) I10 hD) nc few fun h' sb hold => ?_
        have hN : h'.get? D ≠ none := by
          obtain ⟨o, e, _⟩ := hold.at_
          rw [e]
          exact fun z => nomatch z
        obtain ⟨oD, eD'⟩ : ∃ o, h'.get? D = some o := by
          obtain ⟨o, e, _⟩ := hold.at_
          exact ⟨_, e⟩
        exact ret (I10.write (e := D) (t' := s10.toks + 1) (by rw [hD]; trivial) (.inl rfl) (fun b v hb hv => (sb.2 b hb).trans hv) ⟨oD, eD'⟩ (setS_ok hold)) nx
end
end TX

set_option maxRecDepth 100000
set_option maxHeartbeats 4000000
namespace K3
open PySem PySem.Spec PyProof.Rows L2
section
variable {P : Program} {w : World} {K : PySem.W.Frag} {mg : Str → Option Value} {base : Heap} {R Pp C0 : Addr} {Ps : List Addr}
/-! missing: slots store=0 names=1 name=2 -/
abbrev s_missing : Stmt := topS 18
theorem sc_missing : FnScope ["store", "names", "name"] ["store", "names"] (defScope s_missing) := ⟨rfl, rfl, rfl, by decide +kernel, rfl, by decide +kernel, by decide +kernel⟩
def missL (m : List (Str × Str)) (xs : List Str) : List Str := xs.filter fun x => !(look m x).isSome
def sp_missing (K : PySem.W.Frag) (C0 : Addr) (Ps : List Addr) : Sp := fun vs H Q E => ∃ (p pd la : Addr) (m : List (Str × Str)) (xs : List Str), vs = [.ref p, .ref la] ∧ StoreAt C0 H p pd m ∧ SqL K H la (xs.map V.str) ∧ (missL m xs).Nodup ∧ xs.length ≤ 40 ∧ Tb Ps H ∧
  ∀ ys : List Str, ys.Perm (missL m xs) → sortedS ys = true → NewT Ps H (ys.map V.str) Q
theorem ok_missing {f : Addr} {fd : FuncData} {k : Nat} (F : Fun K "missing" "missing" s_missing f fd) (T : Txt K mg R Pp C0) : FnOk P w K mg base (L2.CX P w) (k + 1) f fd ["store", "names"] (sp_missing K C0 Ps) := by
  refine F.okX sc_missing (fun vs H Q E h => ?_) (fun cdv A outer s H vs Q E hr h => ?_)
  · obtain ⟨p, pd, la, m, xs, rfl, _⟩ := h
    rfl
  · obtain ⟨p, pd, la, m, xs, rfl, ⟨⟨dx, hp⟩, hpd⟩, hla, nd, lx, tb, hq⟩ := h
    have hu := hr.units
    have hu1 : (A.deeper (envOfC "missing" (defScope s_missing) s.heap.objs.size f cdv)).units + 1 < cLine := by omega
    refine ⟨_, pss_one (ps_ret (pe_callTy call_tuple_of (by rfl) T.z_tuple (by decide +kernel) (pa_cons (pe_callB (TX.cr_sortedSetS rfl) (by rfl) T.z_sorted (by decide +kernel) (pa_cons
      (TX.pe_setC (own := [("name", 2)]) rfl sc_missing.nd (pi_list (pv 1)) (blkOk_by (by show blkC ["store", "names", "name"] (defScope s_missing) _ _ = true; decide +kernel)) (fun _ _ _ _ _ => pg_name (i := 2) sc_missing.nd rfl (.inl rfl)) (fun _ _ _ _ _ => pts_one (pt_cmp (pc_dnotin hu1 (pv 2) (pe_fldK (K0 := K) rfl (pv 0) rfl)) (by with_unfolding_all rfl))) (fun _ _ _ _ _ => pv 2)) pa_nil)) pa_nil))), ?_⟩
    have npP : p ∉ Ps := tb.not hp fun _ z => by cases z
    have ndP : pd ∉ Ps := tb.not hpd fun _ z => by cases z
    refine ⟨_, rfl, la, rfl, ⟨_, hla⟩, fun D hD => ?_⟩
    have nDP : D ∉ Ps := tb.none hD
    have hl2 : (xs.map V.str).length = xs.length := List.length_map ..
    refine ⟨fun i n G => n = xs.length - i ∧ i ≤ xs.length ∧ Gw Ps H G ∧ ∃ l, G D = some (TX.SetS P w D l) ∧ l.Perm (missL m (xs.take i)), ⟨xs.length, rfl, Nat.zero_le _, (Gw.refl tb).new hD, [], upd_same, by rw [List.take_zero]; exact List.Perm.refl _⟩, ?_⟩
    rintro i n G ⟨rfl, hi, g, l, hG, pm⟩
    by_cases lt : i < xs.length
    · have hx : xs[i]? = some xs[i] := List.getElem?_eq_getElem lt
      refine .inr ⟨⟨_, .str xs[i], g.sqL tb hla, by rw [List.getElem?_map, hx]; rfl⟩, fun G' => Gw Ps H G' ∧ ∃ l, G' D = some (TX.SetS P w D l) ∧ l.Perm (missL m (xs.take (i + 1))), fun G' h => ⟨xs.length - (i + 1), by omega, rfl, lt, h⟩, fun x G' y => ?_⟩
      obtain ⟨rfl, y⟩ := y
      have ex := y _ (g.sqL tb hla)
      rw [List.getElem?_map, hx] at ex
      obtain rfl : V.str xs[i] = x := Option.some.inj ex
      have tk : missL m (xs.take (i + 1)) = missL m (xs.take i) ++ (if (!(look m xs[i]).isSome) = true then [xs[i]] else []) := by
        unfold missL
        rw [List.take_add_one, hx, List.filter_append]
        congr 1
        show [xs[i]].filter _ = _
        rw [List.filter_cons]
        rfl
      refine ⟨rfl, ?_⟩
      refine ⟨_, rfl, _, rfl, p, C0, dx, _, _, rfl, g.2 _ _ npP hp, T.cl, T.nPc, stP pd, pd, _, rfl, DGet.k (k := .inr xs[i]) (g.2 _ _ ndP hpd), _, rfl, ?_⟩
      rw [val_look]
      cases hk : look m xs[i] with
      | some v =>
        refine ⟨g, l, hG, ?_⟩
        rw [tk, hk]
        simpa using pm
      | none =>
        refine ⟨_, rfl, xs[i], l, rfl, hG, fun hm => ?_, ?_, g.set hD nDP, _, upd_same, ?_⟩
        · have h1 := pm.mem_iff.mp hm
          have e2 : (missL m (xs.take (i + 1))).Nodup := nd.sublist ((List.take_sublist ..).filter _)
          rw [tk, hk] at e2
          exact (List.nodup_append.mp e2).2.2 _ h1 xs[i] (List.mem_singleton.mpr rfl) rfl
        · have : l.length ≤ xs.length := by
            rw [pm.length_eq]
            refine Nat.le_trans (List.length_filter_le _ _) ?_
            rw [List.length_take]
            omega
          exact Nat.lt_of_le_of_lt (show l.length + 1 ≤ 50 by omega) (by decide)
        · rw [tk, hk]
          exact (List.Perm.cons _ pm).trans (List.perm_append_singleton _ _).symm
    · have ei : i = xs.length := by omega
      subst ei
      rw [List.take_length] at pm
      refine .inl ⟨⟨_, g.sqL tb hla, by rw [hl2]; exact Nat.le_refl _⟩, ?_⟩
      have ll : l.length ≤ xs.length := by
        rw [pm.length_eq]
        exact List.length_filter_le _ _
      refine ⟨D, l, rfl, hG, by omega, fun ys q pm2 so hq0 => ⟨q, _, rfl, .inl ⟨SqL.of upd_same, fun u hu => ?_⟩⟩⟩
      have g1 := g.new (o := .lst (ys.map V.str)) hq0
      exact hq ys (pm2.trans pm) so _ u (g1.new hu) (g1.none tb hu) upd_same
end
end K3

set_option maxRecDepth 100000
set_option maxHeartbeats 4000000
namespace K3
open PySem PySem.Spec PyProof.Rows L2
def drawn : List Str := ["AAA", "PeQ", "", "a", "z z", "AAA."]
/-- the first of the names of figures, by number -/
theorem right_small : ∀ x ∈ drawn, ∀ t ∈ drawn, ∀ n < 9, right (nmS x n) t = decide (fig x = fig t) := by decide +kernel
theorem nm_one : ∀ x ∈ drawn, ∀ t ∈ drawn, ∀ a < 9, ∀ b < 9, nmS x a = nmS t b → fig x = fig t ∧ a = b := by
  intro x hx t ht a ha b hb h
  have r1 := right_small x hx t ht a ha
  have r2 := right_small t ht t ht b hb
  rw [h, r2, decide_eq_true rfl] at r1
  have e : fig x = fig t := of_decide_eq_true r1.symm
  refine ⟨e, ?_⟩
  have : nmS x a = nmS t a := by unfold nmS; rw [e]
  exact nmS_inj (by omega) (by omega) (this.symm.trans h)
theorem smT_drawn : ∀ t ∈ drawn, SmT t := by
  intro t ht
  have : ∀ t ∈ drawn, t.length ≤ 100 ∧ ∀ c ∈ chs t, c ≤ 1000 := by decide +kernel
  exact this t ht
/-- what the law keeps: its table of pieces to names -/
structure TI (tb : List (Str × Str)) : Prop where
  kn : (tb.map (·.1)).Nodup
  kd : ∀ e ∈ tb, e.1 ∈ drawn
  nm : ∀ e ∈ tb, ∃ n, n < 9 ∧ e.2 = nmS e.1 n
  vn : (tb.map (·.2)).Nodup
/-- the store's table -/
def mOf (tb : List (Str × Str)) : List (Str × Str) := tb.map fun e => (e.2, e.1)
theorem keys_len {tb : List (Str × Str)} (h : TI tb) : tb.length ≤ 6 := by
  have := len_leS h.kn fun x hx => by
    obtain ⟨e, he, rfl⟩ := List.mem_map.mp hx
    exact h.kd e he
  rw [List.length_map] at this
  exact this
theorem TI.nil : TI [] := ⟨List.nodup_nil, (fun _ h => nomatch h), (fun _ h => nomatch h), List.nodup_nil⟩
theorem find_key : ∀ {l : List (Str × Str)} {a b : Str}, (l.map (·.1)).Nodup → ((a, b) ∈ l ↔ (l.find? fun e => decide (e.1 = a)).map (·.2) = some b)
  | [], a, b, _ => by simp
  | e :: r, a, b, h => by
    rw [List.map_cons] at h
    obtain ⟨h1, h2⟩ := List.nodup_cons.mp h
    by_cases c : e.1 = a
    · have : (e :: r).find? (fun e => decide (e.1 = a)) = some e := by simp [c]
      rw [this]
      constructor
      · intro hm
        rcases List.mem_cons.mp hm with hm | hm
        · rw [← hm]; rfl
        · exact absurd (List.mem_map.mpr ⟨_, hm, c.symm⟩) h1
      · intro z
        have z : e.2 = b := Option.some.inj z
        exact List.mem_cons.mpr (.inl (by rw [← z, ← c]))
    · have : (e :: r).find? (fun e => decide (e.1 = a)) = r.find? fun e => decide (e.1 = a) := by simp [c]
      rw [this, ← find_key h2, List.mem_cons]
      constructor
      · rintro (z | z)
        · exact absurd (by rw [← z]) c
        · exact z
      · exact .inr
theorem look_m {tb : List (Str × Str)} (h : TI tb) {nm t : Str} : look (mOf tb) nm = some t ↔ (t, nm) ∈ tb := by
  unfold look
  rw [← find_key (l := mOf tb) (by unfold mOf; rw [List.map_map]; exact h.vn)]
  unfold mOf
  rw [List.mem_map]
  constructor
  · rintro ⟨e, he, z⟩
    cases z
    exact he
  · exact fun he => ⟨_, he, rfl⟩
theorem look_t {tb : List (Str × Str)} (h : TI tb) {nm t : Str} : look tb t = some nm ↔ (t, nm) ∈ tb := (find_key h.kn).symm
theorem smM {tb : List (Str × Str)} (h : TI tb) : SmM (mOf tb) := by
  refine ⟨by unfold mOf; rw [List.length_map]; have := keys_len h; omega, fun e he => ?_⟩
  obtain ⟨e', he', rfl⟩ := List.mem_map.mp he
  refine ⟨?_, smT_drawn _ (h.kd e' he')⟩
  obtain ⟨n, hn, en⟩ := h.nm e' he'
  rw [en]
  have : ∀ x ∈ drawn, ∀ n < 9, (nmS x n).length ≤ 1000 := by decide +kernel
  exact this _ (h.kd e' he') n hn
theorem names_m {tb : List (Str × Str)} (h : TI tb) (t : Str) (ht : t ∈ drawn) : ∀ x, x ∈ namesOf (mOf tb) t ↔ (t, x) ∈ tb := by
  intro x
  unfold namesOf
  rw [List.mem_map]
  constructor
  · rintro ⟨e, he, rfl⟩
    obtain ⟨h1, h2⟩ := List.mem_filter.mp he
    obtain ⟨e', he', rfl⟩ := List.mem_map.mp h1
    have h2 : (decide (e'.1 = t) && right e'.2 t) = true := h2
    rw [Bool.and_eq_true, decide_eq_true_iff] at h2
    have : (t, e'.2) = e' := by rw [← h2.1]
    show (t, e'.2) ∈ tb
    rw [this]
    exact he'
  · intro he
    refine ⟨(x, t), List.mem_filter.mpr ⟨List.mem_map.mpr ⟨_, he, rfl⟩, ?_⟩, rfl⟩
    show (decide (t = t) && right x t) = true
    obtain ⟨n, hn, en⟩ := h.nm _ he
    have en : x = nmS t n := en
    rw [en, right_small t ht t ht n hn]
    simp
theorem look_none {tb : List (Str × Str)} (h : TI tb) {nm : Str} : look (mOf tb) nm = none ↔ nm ∉ tb.map (·.2) := by
  constructor
  · intro z hm
    obtain ⟨e, he, rfl⟩ := List.mem_map.mp hm
    have := (look_m h (nm := e.2) (t := e.1)).mpr he
    rw [z] at this
    cases this
  · intro z
    cases e : look (mOf tb) nm with
    | none => rfl
    | some t => exact absurd (List.mem_map.mpr ⟨_, (look_m h).mp e, rfl⟩) z
theorem look_noneT {tb : List (Str × Str)} (h : TI tb) {t : Str} : look tb t = none ↔ t ∉ tb.map (·.1) := by
  constructor
  · intro z hm
    obtain ⟨e, he, rfl⟩ := List.mem_map.mp hm
    have := (look_t h (nm := e.2) (t := e.1)).mpr he
    rw [z] at this
    cases this
  · intro z
    cases e : look tb t with
    | none => rfl
    | some x => exact absurd (List.mem_map.mpr ⟨_, (look_t h).mp e, rfl⟩) z
/-- the numbers that aren't taken -/
def freeL (tb : List (Str × Str)) (t : Str) : List Str := ((List.range 9).map (nmS t)).filter fun x => !decide (x ∈ tb.map (·.2))
/-- the least free number -/
theorem least {tb : List (Str × Str)} (h : TI tb) {t : Str} : ∃ n, n < 9 ∧ nmS t n ∉ tb.map (·.2) ∧ (∀ k < n, nmS t k ∈ tb.map (·.2)) ∧ (freeL tb t)[0]? = some (nmS t n) := by
  have key : ∀ (n : Nat), (∀ k < n, nmS t k ∈ tb.map (·.2)) → n ≤ 8 → ∃ j, n ≤ j ∧ j < 9 ∧ nmS t j ∉ tb.map (·.2) ∧ ∀ k < j, nmS t k ∈ tb.map (·.2) := by
    intro n
    generalize hm : 8 - n = m
    induction m generalizing n with
    | zero =>
      intro al hn
      have e : n = 8 := by omega
      subst e
      refine ⟨8, Nat.le_refl _, by decide, fun z => ?_, al⟩
      have := few (m := mOf tb) (t := t) (n := 9) (by decide) fun k hk => by
        by_cases c : k = 8
        · rw [c]
          cases e : look (mOf tb) (nmS t 8) with
          | none => exact absurd z ((look_none h).mp e)
          | some _ => rfl
        · cases e : look (mOf tb) (nmS t k) with
          | none => exact absurd (al k (by omega)) ((look_none h).mp e)
          | some _ => rfl
      have l6 := keys_len h
      unfold mOf at this
      rw [List.length_map] at this
      omega
    | succ m ih =>
      intro al hn
      by_cases c : nmS t n ∈ tb.map (·.2)
      · obtain ⟨j, h1, h2⟩ := ih (n + 1) (by omega) (fun k hk => by
          by_cases z : k = n
          · rw [z]; exact c
          · exact al k (by omega)) (by omega)
        exact ⟨j, by omega, h2⟩
      · exact ⟨n, Nat.le_refl _, by omega, c, al⟩
  obtain ⟨j, _, h1, h2, h3⟩ := key 0 (fun k hk => absurd hk (Nat.not_lt_zero k)) (by decide)
  refine ⟨j, h1, h2, h3, ?_⟩
  unfold freeL
  have e : List.range 9 = List.range j ++ List.range' j (9 - j) := by
    have := List.range'_append_1 (s := 0) (m := j) (n := 9 - j)
    rw [Nat.zero_add, show j + (9 - j) = 9 by omega] at this
    rw [List.range_eq_range', List.range_eq_range']
    exact this.symm
  have e9 : 9 - j = (8 - j) + 1 := by omega
  rw [e, List.map_append, List.filter_append, e9, List.range'_succ, List.map_cons]
  have n1 : ((List.range j).map (nmS t)).filter (fun x => !decide (x ∈ tb.map (·.2))) = [] := by
    refine List.filter_eq_nil_iff.mpr fun x hx => ?_
    obtain ⟨k, hk, rfl⟩ := List.mem_map.mp hx
    have := h3 k (List.mem_range.mp hk)
    simp [this]
  rw [n1, List.nil_append, List.filter_cons, if_pos (by simp [h2])]
  rfl
/-- a piece more -/
theorem TI.more {tb : List (Str × Str)} (h : TI tb) {t : Str} {n : Nat} (ht : t ∈ drawn) (nt : t ∉ tb.map (·.1)) (hn : n < 9) (nn : nmS t n ∉ tb.map (·.2)) : TI (tb ++ [(t, nmS t n)]) := by
  refine ⟨?_, fun e he => ?_, fun e he => ?_, ?_⟩
  · rw [List.map_append]
    exact List.nodup_append.mpr ⟨h.kn, List.nodup_cons.mpr ⟨(fun z => nomatch z), List.nodup_nil⟩, fun a ha b hb z => nt (by rw [← show b = t from List.mem_singleton.mp hb, ← z]; exact ha)⟩
  · rcases List.mem_append.mp he with he | he
    · exact h.kd e he
    · rw [List.mem_singleton.mp he]; exact ht
  · rcases List.mem_append.mp he with he | he
    · exact h.nm e he
    · rw [List.mem_singleton.mp he]; exact ⟨n, hn, rfl⟩
  · rw [List.map_append]
    exact List.nodup_append.mpr ⟨h.vn, List.nodup_cons.mpr ⟨(fun z => nomatch z), List.nodup_nil⟩, fun a ha b hb z => nn (by rw [← show b = nmS t n from List.mem_singleton.mp hb, ← z]; exact ha)⟩
theorem TI.less {tb : List (Str × Str)} (h : TI tb) (p : Str × Str → Bool) : TI (tb.filter p) :=
  ⟨h.kn.sublist (List.filter_sublist.map _), fun e he => h.kd e (List.mem_filter.mp he).1, fun e he => h.nm e (List.mem_filter.mp he).1, h.vn.sublist (List.filter_sublist.map _)⟩
end K3

set_option maxRecDepth 100000
set_option maxHeartbeats 4000000
namespace K3
open PySem PySem.Spec PyProof.Rows L2
/-! ### sorted texts, one list alone -/
def nle (x y : Str) : Prop := strKind.blt y.cps.toList x.cps.toList = false
theorem nle_anti {x y : Str} (h1 : nle x y) (h2 : nle y x) : x = y := by
  have e := strKind.total x.cps.toList y.cps.toList h2 h1
  cases x
  cases y
  simp only [Array.toList_inj] at e
  exact congrArg Str.mk e
theorem nle_trans {x y z : Str} (h1 : nle x y) (h2 : nle y z) : nle x z := by
  unfold nle at *
  cases e : strKind.blt z.cps.toList x.cps.toList with
  | false => rfl
  | true =>
    rcases strKind.negTrans _ y.cps.toList _ e with h | h
    · rw [h2] at h; cases h
    · rw [h1] at h; cases h
theorem nle_tot (x y : Str) : nle x y ∨ nle y x := by
  unfold nle
  cases e : strKind.blt y.cps.toList x.cps.toList with
  | false => exact .inl rfl
  | true =>
    refine .inr ?_
    cases e2 : strKind.blt x.cps.toList y.cps.toList with
    | false => rfl
    | true =>
      have := strKind.trans _ _ _ e e2
      rw [strKind.irrefl] at this
      cases this
theorem blt_cps (a b : List Nat) : strKind.blt a b = ltCps a b := by
  rw [ltCps_eq]
theorem perm_one {α : Type} {r : α → α → Prop} (anti : ∀ x y, r x y → r y x → x = y) : ∀ {l1 l2 : List α}, l1.Perm l2 → l1.Pairwise r → l2.Pairwise r → l1 = l2
  | [], l2, p, _, _ => (List.nil_perm.mp p).symm
  | a :: t, [], p, _, _ => absurd p.length_eq (by simp)
  | a :: t, b :: u, p, h1, h2 => by
    have e : a = b := by
      by_cases c : a = b
      · exact c
      · have ha : a ∈ u := (List.mem_cons.mp (p.subset (List.mem_cons_self ..))).resolve_left c
        have hb : b ∈ t := (List.mem_cons.mp (p.symm.subset (List.mem_cons_self ..))).resolve_left fun z => c z.symm
        exact anti _ _ ((List.pairwise_cons.mp h1).1 b hb) ((List.pairwise_cons.mp h2).1 a ha)
    subst e
    rw [perm_one anti (List.perm_cons a |>.mp p) (List.pairwise_cons.mp h1).2 (List.pairwise_cons.mp h2).2]
theorem rising_pw : ∀ {l : List Str} {p : Str}, risingS p l = true → (p :: l).Pairwise nle
  | [], p, _ => List.pairwise_singleton _ _
  | x :: r, p, h => by
    have h : (!ltCps x.cps.toList p.cps.toList && risingS x r) = true := h
    rw [Bool.and_eq_true] at h
    have ih := rising_pw h.2
    have h0 : nle p x := by
      unfold nle
      rw [blt_cps]
      simpa using h.1
    refine List.pairwise_cons.mpr ⟨fun y hy => ?_, ih⟩
    rcases List.mem_cons.mp hy with rfl | hy
    · exact h0
    · exact nle_trans h0 ((List.pairwise_cons.mp ih).1 y hy)
theorem sorted_pw {l : List Str} (h : sortedS l = true) : l.Pairwise nle := by
  cases l with
  | nil => exact List.Pairwise.nil
  | cons x r => exact rising_pw h
/-- sorted -/
def ss (l : List Str) : List Str := l.mergeSort fun x y => !strKind.blt y.cps.toList x.cps.toList
theorem ss_perm (l : List Str) : (ss l).Perm l := List.mergeSort_perm _ _
theorem ss_pw (l : List Str) : (ss l).Pairwise nle := by
  have h := List.pairwise_mergeSort (le := fun x y : Str => !strKind.blt y.cps.toList x.cps.toList) (fun a b c h1 h2 => by
    have h1 : nle a b := by unfold nle; simpa using h1
    have h2 : nle b c := by unfold nle; simpa using h2
    have := nle_trans h1 h2
    unfold nle at this
    show (!PyProof.Rows.strKind.blt c.cps.toList a.cps.toList) = true
    rw [this]; rfl) (fun a b => by
    rcases nle_tot a b with h | h
    · unfold nle at h
      show ((!PyProof.Rows.strKind.blt b.cps.toList a.cps.toList) || (!PyProof.Rows.strKind.blt a.cps.toList b.cps.toList)) = true
      rw [h]; rfl
    · unfold nle at h
      show ((!PyProof.Rows.strKind.blt b.cps.toList a.cps.toList) || (!PyProof.Rows.strKind.blt a.cps.toList b.cps.toList)) = true
      rw [h]; simp) l
  exact h.imp fun {a b} h => by unfold nle; simpa using h
theorem eq_ss {ys l : List Str} (p : ys.Perm l) (h : ys.Pairwise nle) : ys = ss l := perm_one (fun _ _ => nle_anti) (p.trans (ss_perm l).symm) h (ss_pw l)
theorem eq_ssS {ys l : List Str} (p : ys.Perm l) (h : sortedS ys = true) : ys = ss l := eq_ss p (sorted_pw h)
theorem ss_congr {l m : List Str} (p : l.Perm m) : ss l = ss m := eq_ss ((ss_perm l).trans p) (ss_pw l)
theorem ss_filter (l : List Str) (q : Str → Bool) : (ss l).filter q = ss (l.filter q) := eq_ss ((ss_perm l).filter q) ((ss_pw l).sublist List.filter_sublist)
theorem ss_one (x : Str) : ss [x] = [x] := (eq_ss (List.Perm.refl _) (List.pairwise_singleton _ _)).symm
theorem ss_mem {l : List Str} {x : Str} : x ∈ ss l ↔ x ∈ l := (ss_perm l).mem_iff
/-- sorted pairs whose seconds their firsts tell -/
theorem eq_sp {xs ys : List (Str × Str)} {l l' : List (Addr × Str × Str)} {f : Str → Str} (e1 : l.map (·.2) = xs) (e2 : l'.map (·.2) = ys) (p : l'.Perm l) (pw : l'.Pairwise (fun e f => RU.ltS f e = false)) (hf : ∀ e ∈ xs, e.2 = f e.1) : ys = (ss (xs.map (·.1))).map fun x => (x, f x) := by
  have py : ys.Perm xs := by rw [← e1, ← e2]; exact p.map _
  have pn : (ys.map (·.1)).Pairwise nle := by
    rw [← e2, List.map_map, List.pairwise_map]
    refine pw.imp fun {a b} h => ?_
    unfold RU.ltS RU.keyS at h
    exact (PyProof.Rows.lex_false.mp h).1
  rw [← eq_ss (py.map _) pn, List.map_map]
  have : ∀ e ∈ ys, ((fun x => (x, f x)) ∘ fun x : Str × Str => x.1) e = id e := fun e he => by
    show (e.1, f e.1) = e
    rw [← hf e (py.subset he)]
  rw [List.map_congr_left this, List.map_id]
end K3

set_option maxRecDepth 100000
set_option maxHeartbeats 4000000
namespace K3
open PySem PySem.Spec PyProof.Rows L2
open RP (putD putD_new)
variable {tb : List (Str × Str)} {t nm : Str}
theorem TI.fun1 (h : TI tb) {a b c : Str} (h1 : (a, b) ∈ tb) (h2 : (a, c) ∈ tb) : b = c := by
  have e1 := (look_t h).mpr h1
  have e2 := (look_t h).mpr h2
  rw [e1] at e2
  exact Option.some.inj e2
theorem TI.fun2 (h : TI tb) {a b c : Str} (h1 : (b, a) ∈ tb) (h2 : (c, a) ∈ tb) : b = c := by
  have e1 := (look_m h).mpr h1
  have e2 := (look_m h).mpr h2
  rw [e1] at e2
  exact Option.some.inj e2
theorem names_uq (h : TI tb) (ht : t ∈ drawn) : namesOf (mOf tb) t ≠ [] → ∃ x, x ∈ namesOf (mOf tb) t ∧ ∀ y ∈ namesOf (mOf tb) t, y = x := fun ne => by
  cases e : namesOf (mOf tb) t with
  | nil => exact absurd e ne
  | cons x r =>
    have hx : x ∈ namesOf (mOf tb) t := by rw [e]; exact List.mem_cons_self ..
    refine ⟨x, List.mem_cons_self .., fun y hy => ?_⟩
    rw [← e] at hy
    exact h.fun1 ((names_m h t ht y).mp hy) ((names_m h t ht x).mp hx)
theorem names_none (h : TI tb) (ht : t ∈ drawn) (hn : look tb t = none) : namesOf (mOf tb) t = [] := by
  cases e : namesOf (mOf tb) t with
  | nil => rfl
  | cons x r =>
    have hx : x ∈ namesOf (mOf tb) t := by rw [e]; exact List.mem_cons_self ..
    have := (look_t h).mpr ((names_m h t ht x).mp hx)
    rw [hn] at this
    cases this
/-- the name that is due to t -/
def due (tb : List (Str × Str)) (t : Str) : Str := (look tb t).getD ((freeL tb t).headD Str.empty)
theorem due_some (h : look tb t = some nm) : due tb t = nm := by unfold due; rw [h]; rfl
theorem due_none (h : TI tb) (hn : look tb t = none) {n : Nat} (al : ∀ k < n, (look (mOf tb) (nmS t k)).isSome = true) (nn : look (mOf tb) (nmS t n) = none) : due tb t = nmS t n ∧ n < 9 := by
  obtain ⟨j, j9, j1, j2, j3⟩ := least h (t := t)
  have e : n = j := by
    rcases Nat.lt_trichotomy n j with c | c | c
    · exact absurd (j2 n c) ((look_none h).mp nn)
    · exact c
    · have := al j c
      rw [(look_none h).mpr j1] at this
      cases this
  subst e
  refine ⟨?_, j9⟩
  unfold due
  rw [hn]
  cases e : freeL tb t with
  | nil => rw [e] at j3; cases j3
  | cons x r => rw [e] at j3; exact Option.some.inj j3
theorem due_free (h : TI tb) (hn : look tb t = none) : (freeL tb t)[0]? = some (due tb t) ∧ ∃ n, n < 9 ∧ due tb t = nmS t n ∧ nmS t n ∉ tb.map (·.2) := by
  obtain ⟨j, j9, j1, j2, j3⟩ := least h (t := t)
  have e : due tb t = nmS t j := by
    unfold due
    rw [hn]
    cases e : freeL tb t with
    | nil => rw [e] at j3; cases j3
    | cons x r => rw [e] at j3; exact Option.some.inj j3
  exact ⟨by rw [e]; exact j3, j, j9, e, j1⟩
theorem putD_same (h : TI tb) (hx : look tb t = some nm) : putD tb t nm = tb := by
  unfold putD
  rw [if_pos]
  · refine (List.map_congr_left fun e he => ?_).trans (List.map_id tb)
    by_cases c : e.1 = t
    · rw [if_pos c]
      have h1 : (t, e.2) ∈ tb := by rw [← c]; exact he
      rw [h.fun1 ((look_t h).mp hx) h1, ← c]
      rfl
    · rw [if_neg c]
      rfl
  · exact List.any_eq_true.mpr ⟨_, (look_t h).mp hx, decide_eq_true rfl⟩
theorem putS_new {m : List (Str × Str)} {a x : Str} (h : look m a = none) : putS m a x = m ++ [(a, x)] := by
  unfold putS
  rw [if_neg]
  intro z
  obtain ⟨e, he, z⟩ := List.any_eq_true.mp z
  unfold look at h
  have h := Option.map_eq_none_iff.mp h
  exact List.find?_eq_none.mp h e he z
theorem mOf_app {x : Str} : mOf (tb ++ [(t, x)]) = mOf tb ++ [(x, t)] := by unfold mOf; rw [List.map_append]; rfl
theorem put_new (h : TI tb) (hn : look tb t = none) : putD tb t (due tb t) = tb ++ [(t, due tb t)] := putD_new ((look_noneT h).mp hn)
theorem TI.put (h : TI tb) (ht : t ∈ drawn) : TI (putD tb t (due tb t)) := by
  cases e : look tb t with
  | some x => rw [due_some e, putD_same h e]; exact h
  | none =>
    rw [put_new h e]
    obtain ⟨_, n, n9, en, nn⟩ := due_free h e
    rw [en]
    exact h.more ht ((look_noneT h).mp e) n9 nn
theorem drop_m (h : TI tb) (hx : look tb t = some nm) : dropS (mOf tb) nm = mOf (tb.filter fun e => decide (e.1 ≠ t)) := by
  unfold dropS mOf
  rw [List.filter_map]
  congr 1
  refine List.filter_congr fun e he => ?_
  show decide (e.2 ≠ nm) = decide (e.1 ≠ t)
  refine decide_eq_decide.mpr (not_congr ⟨fun z => ?_, fun z => ?_⟩)
  · have h1 : (e.1, nm) ∈ tb := by rw [← z]; exact he
    exact h.fun2 h1 ((look_t h).mp hx)
  · have h1 : (t, e.2) ∈ tb := by rw [← z]; exact he
    exact h.fun1 h1 ((look_t h).mp hx)
theorem rebuilt (h : TI tb) : ((tb.map (·.1)).filter (fun x => !decide (x = t))).map (fun x => (x, (look tb x).getD Str.empty)) = tb.filter fun e => decide (e.1 ≠ t) := by
  rw [List.filter_map, List.map_map]
  have e1 : ((fun x : Str => !decide (x = t)) ∘ fun e : Str × Str => e.1) = fun e => decide (e.1 ≠ t) := by
    funext e
    show (!decide (e.1 = t)) = decide (e.1 ≠ t)
    rw [decide_not]
  rw [e1]
  refine (List.map_congr_left fun e he => ?_).trans (List.map_id _)
  show (e.1, (look tb e.1).getD Str.empty) = e
  rw [(look_t h).mpr (show (e.1, e.2) ∈ tb from (List.mem_filter.mp he).1)]
  rfl
theorem repr_drawn : ∀ x ∈ drawn, ∀ n < 9, (reprText (nmS x n)).length ≤ 20000 := by decide +kernel
theorem TI.repr (h : TI tb) (hm : nm ∈ tb.map (·.2)) : (reprText nm).length ≤ 20000 := by
  obtain ⟨e, he, rfl⟩ := List.mem_map.mp hm
  obtain ⟨n, hn, en⟩ := h.nm e he
  rw [en]
  exact repr_drawn _ (h.kd e he) n hn
theorem TI.rgt (h : TI tb) (hm : (t, nm) ∈ tb) : right nm t = true := by
  obtain ⟨n, hn, en⟩ := h.nm _ hm
  have en : nm = nmS t n := en
  rw [en, right_small t (h.kd _ hm) t (h.kd _ hm) n hn]
  simp
theorem ks_mOf : (mOf tb).map (·.1) = tb.map (·.2) := by unfold mOf; rw [List.map_map]; rfl
end K3

set_option maxRecDepth 100000
set_option maxHeartbeats 4000000
namespace K3
open PySem PySem.Spec PyProof.Rows L2
variable {tb m m2 : List (Str × Str)} {t nm : Str}
theorem brk_nil {l : List Str} (h : ∀ x ∈ l, ∃ v, look m x = some v ∧ right x v = true) : brk m l = [] := List.filter_eq_nil_iff.mpr fun x hx => by
  obtain ⟨v, h1, h2⟩ := h x hx
  rw [h1, Option.getD_some, h2]
  decide
theorem TI.at (h : TI tb) (hx : nm ∈ tb.map (·.2)) : ∃ v, look (mOf tb) nm = some v ∧ right nm v = true ∧ (v, nm) ∈ tb := by
  obtain ⟨e, he, rfl⟩ := List.mem_map.mp hx
  exact ⟨e.1, (look_m h).mpr he, h.rgt he, he⟩
theorem brk_mOf (h : TI tb) : brk (mOf tb) (ss ((mOf tb).map (·.1))) = [] := brk_nil fun x hx => by
  rw [ss_mem, ks_mOf] at hx
  obtain ⟨v, h1, h2, _⟩ := h.at hx
  exact ⟨v, h1, h2⟩
theorem lensum_mOf : ∀ tb : List (Str × Str), ((tb.map (·.1)).map fun x => (x.length : Int)).sum = ((lensum (mOf tb) : Nat) : Int)
  | [] => rfl
  | e :: r => by
    have ih := lensum_mOf r
    rw [List.map_cons, List.map_cons, List.sum_cons, ih]
    show (e.1.length : Int) + _ = (((mOf (e :: r)).map fun e => e.2.length).sum : Nat)
    unfold mOf
    rw [List.map_cons, List.map_cons, List.sum_cons]
    show (e.1.length : Int) + _ = ((e.1.length + ((r.map fun e => (e.2, e.1)).map fun e => e.2.length).sum : Nat) : Int)
    unfold lensum
    rw [Int.natCast_add]
theorem pairs_mOf (h : TI tb) : (tb.map (·.1)).map (fun x => ((look tb x).getD Str.empty, x)) = mOf tb := by
  rw [List.map_map]
  refine List.map_congr_left fun e he => ?_
  show ((look tb e.1).getD Str.empty, e.1) = (e.2, e.1)
  rw [(look_t h).mpr (show (e.1, e.2) ∈ tb from he)]
  rfl
def two0 : List Str := ["1.0", "7.0"]
theorem miss_is (h : TI tb) : missL (mOf tb) (two0 ++ tb.map (·.2)) = two0.filter fun x => !decide (x ∈ tb.map (·.2)) := by
  unfold missL
  rw [List.filter_append]
  have e2 : (tb.map (·.2)).filter (fun x => !(look (mOf tb) x).isSome) = [] := List.filter_eq_nil_iff.mpr fun x hx => by
    obtain ⟨v, h1, _⟩ := h.at hx
    rw [h1]
    simp
  rw [e2, List.append_nil]
  refine List.filter_congr fun x _ => ?_
  congr 1
  cases e : look (mOf tb) x with
  | none => rw [decide_eq_false ((look_none h).mp e)]; rfl
  | some v =>
    have : x ∈ tb.map (·.2) := List.mem_map.mpr ⟨_, (look_m h).mp e, rfl⟩
    rw [decide_eq_true this]
    rfl
theorem two0_nd : two0.Nodup := by decide +kernel
theorem miss_nd (h : TI tb) : (missL (mOf tb) (two0 ++ tb.map (·.2))).Nodup := by
  rw [miss_is h]
  exact two0_nd.sublist List.filter_sublist
theorem miss_len (h : TI tb) : (two0 ++ tb.map (·.2)).length ≤ 40 := by
  have := keys_len h
  rw [List.length_append, List.length_map]
  show 2 + _ ≤ 40
  omega
theorem ok_drawn : ∀ x ∈ drawn, PyData.strOk x = true := by decide +kernel
theorem ok_nmS : ∀ x ∈ drawn, ∀ n < 9, PyData.strOk (nmS x n) = true := by decide +kernel
theorem ok_two0 : ∀ x ∈ two0, PyData.strOk x = true := by decide +kernel
theorem TI.okN (h : TI tb) : ∀ x ∈ tb.map (·.2), PyData.strOk x = true := fun x hx => by
  obtain ⟨e, he, rfl⟩ := List.mem_map.mp hx
  obtain ⟨n, hn, en⟩ := h.nm e he
  rw [en]
  exact ok_nmS _ (h.kd e he) n hn
theorem TI.okP (h : TI tb) {m : List (Str × Str)} (hm : ∀ e ∈ m, (e.2, e.1) ∈ tb) : ∀ x ∈ (ss (m.map (·.1))).map (prS m), PyData.strOk x.1 = true ∧ PyData.strOk x.2 = true := fun x hx => by
  obtain ⟨y, hy, rfl⟩ := List.mem_map.mp hx
  rw [ss_mem] at hy
  obtain ⟨v, hv⟩ := look_some hy
  have h1 := hm _ (look_mem hv)
  refine ⟨h.okN y (List.mem_map.mpr ⟨_, h1, rfl⟩), ?_⟩
  show PyData.strOk ((look m y).getD Str.empty) = true
  rw [hv]
  exact ok_drawn _ (h.kd _ h1)
theorem mem_mOf : ∀ e ∈ mOf tb, (e.2, e.1) ∈ tb := fun e he => by
  obtain ⟨e', he', rfl⟩ := List.mem_map.mp he
  exact he'
/-! ### the other store -/
structure OI (tb m2 : List (Str × Str)) : Prop where
  nd : (m2.map (·.1)).Nodup
  mem : ∀ e ∈ m2, (e.2, e.1) ∈ tb
theorem look_of_mem {m : List (Str × Str)} (nd : (m.map (·.1)).Nodup) (h : (nm, t) ∈ m) : look m nm = some t := (find_key nd).mp h
theorem OI.at (o : OI tb m2) (h : nm ∈ m2.map (·.1)) : ∃ v, look m2 nm = some v ∧ (v, nm) ∈ tb := by
  obtain ⟨e, he, rfl⟩ := List.mem_map.mp h
  exact ⟨e.2, look_of_mem o.nd he, o.mem e he⟩
theorem look_noneM {m : List (Str × Str)} (h : nm ∉ m.map (·.1)) : look m nm = none := by
  cases e : K3.look m nm with
  | none => rfl
  | some v => exact absurd (List.mem_map.mpr ⟨_, look_mem e, rfl⟩) h
theorem OI.len (o : OI tb m2) (h : TI tb) : m2.length ≤ 6 := by
  have := len_leS o.nd (b := tb.map (·.2)) fun x hx => by
    obtain ⟨e, he, rfl⟩ := List.mem_map.mp hx
    exact List.mem_map.mpr ⟨_, o.mem e he, rfl⟩
  rw [List.length_map, List.length_map] at this
  have := keys_len h
  omega
theorem smM_of (h : TI tb) (hl : m2.length ≤ 40) (hm : ∀ e ∈ m2, e.1 ∈ tb.map (·.2) ∧ SmT e.2) : SmM m2 := ⟨hl, fun e he => by
  obtain ⟨h1, h2⟩ := hm e he
  obtain ⟨e', he', e1⟩ := List.mem_map.mp h1
  have := (smM h).2 (e'.2, e'.1) (List.mem_map.mpr ⟨e', he', rfl⟩)
  exact ⟨by rw [← e1]; exact this.1, h2⟩⟩
theorem OI.sm (o : OI tb m2) (h : TI tb) : SmM m2 := smM_of h (by have := o.len h; omega) fun e he => ⟨List.mem_map.mpr ⟨_, o.mem e he, rfl⟩, smT_drawn _ (h.kd _ (o.mem e he))⟩
/-- rows of the store -/
theorem OI.rows (h : TI tb) {xs : List (Str × Str)} (hs : xs.Sublist ((ss ((mOf tb).map (·.1))).map (prS (mOf tb)))) : OI tb xs := by
  refine ⟨?_, fun e he => ?_⟩
  · have : (((ss ((mOf tb).map (·.1))).map (prS (mOf tb))).map (·.1)).Nodup := by
      rw [List.map_map]
      have : ((fun x : Str × Str => x.1) ∘ prS (mOf tb)) = id := rfl
      rw [this, List.map_id, (ss_perm _).nodup_iff, ks_mOf]
      exact h.vn
    exact this.sublist (hs.map _)
  · obtain ⟨x, hx, rfl⟩ := List.mem_map.mp (hs.subset he)
    rw [ss_mem, ks_mOf] at hx
    obtain ⟨v, h1, _, h3⟩ := h.at hx
    show ((look (mOf tb) x).getD Str.empty, x) ∈ tb
    rw [h1]
    exact h3
end K3

set_option maxRecDepth 100000
set_option maxHeartbeats 4000000
namespace K3
open PySem PySem.Spec PyProof.Rows L2
open XT (Sm pe_msg pt_chain3)
open SkE (pmk_own1)
local macro_rules | `(tactic| walk_at "ev3") => `(tactic| simp only [tSeq, tIfS, tNot, XT.tChain3, rI0, tC, tVar, tRet, tTup, tLst, tCons, tNil, tJs, tFmt, tNext, tTest, tOp, tUn, rI, rU, tCall, tCB, tAnd, tOr, tB, tDrop, tAsg, gName, tAug, tPar, ipI, tBM, rAppend, tSl, rSlS, tPart, tNoPart, tIf, tM1, rEq, rNe, tFld, tMeth, tMake, L2.start, List.map_cons, List.map_nil, List.length_cons, List.length_nil, Nat.reduceAdd, Nat.reduceSub, Nat.sub_self, List.replicate_zero, List.append_nil, List.replicate_succ, List.cons_append, List.nil_append,
  List.getElem?_cons_zero, List.getElem?_cons_succ, Option.some.injEq, exists_eq_left', exists_eq_left, V.int.injEq, V.str.injEq, V.bl.injEq, V.ref.injEq, List.set_cons_zero, List.set_cons_succ, List.cons.injEq, and_true, true_and, reduceCtorEq, false_and, exists_false, false_or, or_false, exists_and_left, and_assoc, decide_eq_true_eq, Bool.not_eq_true', decide_eq_false_iff_not, Bool.not_false, Bool.not_true, if_true, if_false, Bool.false_eq_true, ↓reduceIte])
section
variable {P : Program} {w : World} {K : PySem.W.Frag} {mg : Str → Option Value} {base : Heap} {R Pp C0 : Addr} {Ps : List Addr}
abbrev s__law_dice : Stmt := topS 21
theorem sc__law_dice : FnScope ["cell"] ["cell"] (defScope s__law_dice) := ⟨rfl, rfl, rfl, by decide +kernel, rfl, by decide +kernel, by decide +kernel⟩
def sp__law_dice : Sp := fun vs H Q E => ∃ cell : Int, vs = [.int cell] ∧ ∀ p a b c, H p = none → Q (.ref p) (upd H p (.lst [.int a, .int b, .int c]))
theorem ok__law_dice {f : Addr} {fd : FuncData} {k : Nat} (F : Fun K "_law_dice" "_law_dice" s__law_dice f fd) (T : Txt K mg R Pp C0) : FnOk P w K mg base (L2.CX P w) (k + 1) f fd ["cell"] sp__law_dice := by
  refine F.okX sc__law_dice (fun vs H Q E h => ?_) (fun cdv A outer s H vs Q E hr h => ?_)
  · obtain ⟨c, rfl, _⟩ := h
    rfl
  · obtain ⟨c, rfl, hq⟩ := h
    refine ⟨_, (pss_cons (ps_if (pt_chain op_lt op_lt (pe_op op_sub pe_int pe_int) (pv 0) pe_int)
      (pss_one (ps_ret (pe_lst (pa_cons (pe_callB call_abs (by rfl) T.z_abs (by decide +kernel) (pa_cons (pv 0) pa_nil)) (pa_cons pe_int (pa_cons pe_int pa_nil)))))) pss_nil)
    (pss_one (ps_ret (pe_lst (pa_cons (pv 0) (pa_cons (pe_op op_add pe_int (pe_op op_modN (pe_callTy call_int1 (by rfl) T.z_int (by decide +kernel) (pa_cons (pv 0) pa_nil)) pe_int)) (pa_cons (pe_callTy call_int1 (by rfl) T.z_int (by decide +kernel) (pa_cons (pe_cmpR op_ge (pv 0) (pe_op op_pow pe_int pe_int) (nomark _)) pa_nil)) pa_nil))))))), ?_⟩
    walk_at "ev3"
    simp only [tChain]
    walk_at "ev3"
    have e18 : CPow 10 18 := ⟨by decide, by decide, by decide⟩
    by_cases c1 : 0 - 10 < c
    · rw [if_pos c1]
      by_cases c2 : c < 10
      · rw [if_pos c2]
        exact ⟨by decide, fun p hp => hq p _ _ _ hp⟩
      · rw [if_neg c2]
        exact ⟨by decide, e18, by decide, fun p hp => hq p _ _ _ hp⟩
    · rw [if_neg c1]
      exact ⟨by decide, e18, by decide, fun p hp => hq p _ _ _ hp⟩
abbrev s__law_roll : Stmt := topS 22
theorem sc__law_roll : FnScope ["dice", "many", "found"] ["dice", "many"] (defScope s__law_roll) := ⟨rfl, rfl, rfl, by decide +kernel, rfl, by decide +kernel, by decide +kernel⟩
def sp__law_roll : Sp := fun vs H Q E => ∃ (d : Addr) (many : Int), vs = [.ref d, .int many] ∧ Dice H d ∧ 1 ≤ many ∧ many ≤ 1000 ∧ ∀ (r : Nat) a b c, (r : Int) < many → Q (.int (r : Nat)) (upd H d (.lst [.int a, .int b, .int c]))
theorem ok__law_roll {f : Addr} {fd : FuncData} {k : Nat} (F : Fun K "_law_roll" "_law_roll" s__law_roll f fd) (T : Txt K mg R Pp C0) : FnOk P w K mg base (L2.CX P w) (k + 1) f fd ["dice", "many"] sp__law_roll := by
  refine F.okX sc__law_roll (fun vs H Q E h => ?_) (fun cdv A outer s H vs Q E hr h => ?_)
  · obtain ⟨d, m, rfl, _⟩ := h
    rfl
  · obtain ⟨d, m, rfl, ⟨a, b, c, hd⟩, m1, m2, hq⟩ := h
    refine ⟨_, (pss_cons (ps_if (PW.pt (pw_or (pt_cmpR op_eq (pe_ix ix_list (pv 0) pe_int (fun _ _ => rfl)) pe_int (nomark _)) (pw_or1 (PW.pt (pw_and (pt_cmpR op_eq (pe_ix ix_list (pv 0) pe_int (fun _ _ => rfl)) pe_int (nomark _)) (pw_and1 (pt_cmpR op_gt (pe_ix ix_list (pv 0) pe_int (fun _ _ => rfl)) pe_int (nomark _))))))))
      (pss_cons (ps_set (i := 2) sc__law_roll.nd rfl (.inl rfl) (pe_op op_modN (pe_callTy call_int1 (by rfl) T.z_int (by decide +kernel) (pa_cons (pe_ix ix_list (pv 0) pe_int (fun _ _ => rfl)) pa_nil)) (pv 1)))
    (pss_cons (ps_asg (pe_op op_fdivN (pe_ix ix_list (pv 0) pe_int (fun _ _ => rfl)) (pv 1)) (pg_sub (pv 0) pe_int set_list))
    (pss_one (ps_ret (pv 2))))) pss_nil)
    (pss_cons (ps_asg pe_int (pg_sub (pv 0) pe_int set_list))
    (pss_cons (ps_asg (pe_op op_modN (pe_callTy call_int1 (by rfl) T.z_int (by decide +kernel) (pa_cons (pe_op op_add (pe_op op_add (pe_op op_mul (pe_ix ix_list (pv 0) pe_int (fun _ _ => rfl)) pe_int) (pe_op op_mul (pe_ix ix_list (pv 0) pe_int (fun _ _ => rfl)) pe_int)) pe_int) pa_nil)) pe_int) (pg_sub (pv 0) pe_int set_list))
    (pss_cons (ps_asg (pe_op op_add (pe_ix ix_list (pv 0) pe_int (fun _ _ => rfl)) pe_int) (pg_sub (pv 0) pe_int set_list))
    (pss_one (ps_ret (pe_op op_modN (pe_callTy call_int1 (by rfl) T.z_int (by decide +kernel) (pa_cons (pe_op op_add (pe_op op_fdivN (pe_ix ix_list (pv 0) pe_int (fun _ _ => rfl)) pe_int) (pe_ix ix_list (pv 0) pe_int (fun _ _ => rfl))) pa_nil)) (pv 1)))))))), ?_⟩
    walk_at "ev3"
    have hdS : ∀ (x y z : Int) (G : Hp), upd G d (.lst [.int x, .int y, .int z]) d = some (.lst [.int x, .int y, .int z]) := fun x y z G => upd_same
    have fm : ∀ x : Int, x.fmod m = ((x.fmod m).toNat : Int) ∧ x.fmod m < m := fun x => by
      have h1 := Int.fmod_nonneg_of_pos x (show 0 < m by omega)
      have h2 := Int.fmod_lt_of_pos x (show 0 < m by omega)
      exact ⟨by omega, h2⟩
    refine ⟨d, _, 2, _, rfl, rfl, SqL.of hd, rfl, rfl, ?_⟩
    by_cases c1 : c = 2
    · rw [if_pos (by rw [c1])]
      refine ⟨d, _, 0, _, rfl, rfl, SqL.of hd, rfl, .inl ⟨_, rfl, by omega, d, _, 0, _, rfl, rfl, SqL.of hd, rfl, _, rfl, ⟨by omega, by omega⟩, ?_⟩⟩
      refine ⟨_, rfl, d, _, 0, 0, rfl, rfl, hd, rfl, _, rfl, ?_⟩
      rw [(fm a).1]
      exact hq _ _ _ _ (by rw [← (fm a).1]; exact (fm a).2)
    rw [if_neg (fun z => c1 (V.int.inj z))]
    refine ⟨d, _, 2, _, rfl, rfl, SqL.of hd, rfl, rfl, ?_⟩
    by_cases c2 : c = 1
    · rw [if_pos (by rw [c2])]
      refine ⟨d, _, 0, _, rfl, rfl, SqL.of hd, rfl, _, rfl, ?_⟩
      by_cases c3 : 0 < a
      · rw [if_pos c3]
        refine ⟨d, _, 0, _, rfl, rfl, SqL.of hd, rfl, .inl ⟨_, rfl, by omega, d, _, 0, _, rfl, rfl, SqL.of hd, rfl, _, rfl, ⟨by omega, by omega⟩, ?_⟩⟩
        refine ⟨_, rfl, d, _, 0, 0, rfl, rfl, hd, rfl, _, rfl, ?_⟩
        rw [(fm a).1]
        exact hq _ _ _ _ (by rw [← (fm a).1]; exact (fm a).2)
      rw [if_neg c3]
      refine ⟨_, rfl, d, _, 2, 2, rfl, rfl, hd, rfl, ?_⟩
      walk_at "ev3"
      refine ⟨d, _, 0, _, rfl, rfl, SqL.of upd_same, rfl, _, rfl, .inr ⟨by decide, by decide⟩, ?_⟩
      refine ⟨d, _, 1, _, rfl, rfl, SqL.of upd_same, rfl, _, rfl, .inr ⟨by decide, by decide⟩, ?_⟩
      refine ⟨by decide, _, rfl, d, _, 0, 0, rfl, rfl, upd_same, rfl, ?_⟩
      rw [upd_upd]
      walk_at "ev3"
      refine ⟨d, _, 1, _, rfl, rfl, SqL.of upd_same, rfl, _, rfl, ?_⟩
      refine ⟨_, rfl, d, _, 1, 1, rfl, rfl, upd_same, rfl, ?_⟩
      rw [upd_upd]
      walk_at "ev3"
      refine ⟨d, _, 0, _, rfl, rfl, SqL.of upd_same, rfl, _, rfl, ⟨by decide, by decide⟩, ?_⟩
      refine ⟨d, _, 0, _, rfl, rfl, SqL.of upd_same, rfl, _, rfl, by omega, ?_⟩
      rw [(fm _).1]
      exact hq _ _ _ _ (by rw [← (fm _).1]; exact (fm _).2)
    rw [if_neg (fun z => c2 (V.int.inj z))]
    refine ⟨_, rfl, d, _, 2, 2, rfl, rfl, hd, rfl, ?_⟩
    walk_at "ev3"
    refine ⟨d, _, 0, _, rfl, rfl, SqL.of upd_same, rfl, _, rfl, .inr ⟨by decide, by decide⟩, ?_⟩
    refine ⟨d, _, 1, _, rfl, rfl, SqL.of upd_same, rfl, _, rfl, .inr ⟨by decide, by decide⟩, ?_⟩
    refine ⟨by decide, _, rfl, d, _, 0, 0, rfl, rfl, upd_same, rfl, ?_⟩
    rw [upd_upd]
    walk_at "ev3"
    refine ⟨d, _, 1, _, rfl, rfl, SqL.of upd_same, rfl, _, rfl, ?_⟩
    refine ⟨_, rfl, d, _, 1, 1, rfl, rfl, upd_same, rfl, ?_⟩
    rw [upd_upd]
    walk_at "ev3"
    refine ⟨d, _, 0, _, rfl, rfl, SqL.of upd_same, rfl, _, rfl, ⟨by decide, by decide⟩, ?_⟩
    refine ⟨d, _, 0, _, rfl, rfl, SqL.of upd_same, rfl, _, rfl, by omega, ?_⟩
    rw [(fm _).1]
    exact hq _ _ _ _ (by rw [← (fm _).1]; exact (fm _).2)
abbrev s__law_rounds : Stmt := topS 23
theorem sc__law_rounds : FnScope ["script", "most", "cells", "cell"] ["script", "most"] (defScope s__law_rounds) := ⟨rfl, rfl, rfl, by decide +kernel, rfl, by decide +kernel, by decide +kernel⟩
theorem bk_lr : BlkOk ["script", "most", "cells", "cell"] (defScope s__law_rounds) { kind := ScopeKind.function, names := [(".0", NameKind.local), ("cell", NameKind.local), ("_law_dice", NameKind.globalImplicit)], isGenerator := false, isCoroutine := false } [("cell", 3)] := blkOk_by (by decide +kernel)
def sp__law_rounds (K : PySem.W.Frag) (Ps : List Addr) : Sp := fun vs H Q E => ∃ (a : Addr) (ns : List Int), vs = [.ref a, .int 1] ∧ SqL K H a (ns.map V.int) ∧ Tb Ps H ∧ ∀ H' p d, Gw Ps H H' → H p = none → H d = none → d ≠ p → H' p = some (.lst [.ref d]) → Dice H' d → Q (.ref p) H'
theorem ok__law_rounds {f fe : Addr} {fd fde : FuncData} {k ke : Nat} (F : Fun K "_law_rounds" "_law_rounds" s__law_rounds f fd) (T : Txt K mg R Pp C0) (Ge : Cal P w K mg base (L2.CX P w) ke "_law_dice" ["cell"] sp__law_dice fe fde) (hk : ke ≤ k) : FnOk P w K mg base (L2.CX P w) (k + 1) f fd ["script", "most"] (sp__law_rounds K Ps) := by
  refine F.okX sc__law_rounds (fun vs H Q E h => ?_) (fun cdv A outer s H vs Q E hr h => ?_)
  · obtain ⟨a, ns, rfl, _⟩ := h
    rfl
  · obtain ⟨a, ns, rfl, hx, tb, hq⟩ := h
    refine ⟨_, (pss_cons (ps_set (i := 2) sc__law_rounds.nd rfl (.inl rfl) (pe_slice sl_list (pv 0) po_none (po_some (pv 1))))
    (pss_cons (ps_if (pt_cmpR (op_eqK rfl hr.units) (pv 2) (pe_lst pa_nil) (nomark _))
      (pss_one (ps_set (i := 2) sc__law_rounds.nd rfl (.inl rfl) (pe_lst (pa_cons pe_int pa_nil)))) pss_nil)
    (pss_one (ps_ret (pe_lc (own := [("cell", 3)]) rfl sc__law_rounds.nd (pi_list (pv 2)) bk_lr (fun _ _ _ _ _ => (pg_name (i := 3) sc__law_rounds.nd rfl (.inl rfl))) (fun _ _ _ _ _ => pts_nil) (fun _ _ _ _ _ => (pe_call Ge.ok (hr.mono hk) (by rfl) Ge.g Ge.kp Ge.b .nil passF (pa_cons (pv 3) pa_nil)))))))), ?_⟩
    walk_at "ev3"
    have fin : ∀ (q : Addr) (c : Int) (G : Hp) (σ : L2.St), σ[2]? = some (some (.ref q)) → Gw Ps H G → G q = some (.lst [V.int c]) → tLc (iList K (tVar 2)) (gName 3) tYes (tCall sp__law_dice [] (fun x x_2 x_3 => False) (tCons (tVar 3) tNil)) [3] [some (.ref a), some (.int 1), some (.ref q), none] G Q := by
      intro q c G σ _ g hl
      refine ⟨_, rfl, q, rfl, ⟨_, SqL.of hl⟩, fun D hD => ?_⟩
      have nqD : q ≠ D := fun z => by
        rw [z, hD] at hl
        cases hl
      have hDH : H D = none := g.none tb hD
      refine lc_list (xs := [V.int c]) (fun i H' => H' q = some (.lst [V.int c]) ∧ Gw Ps H H' ∧ (i = 0 → H' D = some (.lst [])) ∧ (i = 1 → ∃ d, H d = none ∧ d ≠ D ∧ H' D = some (.lst [.ref d]) ∧ Dice H' d)) ⟨by rw [upd_ne nqD]; exact hl, g.new hD, fun _ => upd_same, fun z => by cases z⟩ (fun i H' _ z => SqL.of z.1) ?_ ?_
      · intro i x H' hx hP
        obtain ⟨p1, p2, p3, p4⟩ := hP
        cases i with
        | succ i => simp at hx
        | zero =>
          obtain rfl : V.int c = x := Option.some.inj hx
          refine ⟨rfl, ?_⟩
          simp only [tYes, wipe, List.set_cons_zero, List.set_cons_succ, ↓reduceIte]
          walk_at "ev3"
          refine ⟨c, rfl, fun p a1 b1 c1 hp => ?_⟩
          have hD0 := p3 rfl
          have np : D ≠ p := fun z => by
            rw [z, hp] at hD0
            cases hD0
          refine ⟨[], by rw [upd_ne np]; exact hD0, by decide, ?_, ?_, (fun z => z.elim), fun _ => ⟨p, p2.none tb hp, np.symm, upd_same, a1, b1, c1, by rw [upd_ne np.symm]; exact upd_same⟩⟩
          · rw [upd_ne nqD, upd_ne (fun z => by rw [z, hp] at p1; cases p1)]
            exact p1
          · exact (p2.new hp).set hDH (g.1.none hD)
      · intro H' hP
        obtain ⟨p1, p2, p3, p4⟩ := hP
        obtain ⟨d, h1, h2, h3, h4⟩ := p4 rfl
        exact hq H' D d p2 hDH h1 h2 h3 h4
    refine ⟨a, _, rfl, hx, fun q hq1 => ⟨by decide, fun e he => ?_⟩⟩
    have g1 : Gw Ps H (upd H q (.lst (cutV (ns.map V.int) none (some 1)))) := (Gw.refl tb).new hq1
    have nqe : q ≠ e := (upd_none he).2.symm
    cases ns with
    | nil =>
      refine rEq_lI (ns := []) (ms := []) (SqL.of (by rw [upd_ne nqe]; exact upd_same)) (SqL.of upd_same) ⟨_, rfl, ?_⟩
      rw [if_pos (by decide)]
      exact ⟨by decide, fun p2 hp2 => fin p2 0 _ [none, none, some (.ref p2)] rfl ((g1.new he).new hp2) upd_same⟩
    | cons n r =>
      have ec : cutV ((n :: r).map V.int) none (some 1) = [n].map V.int := by
        unfold cutV
        have e1 : HT.sIx ((n :: r).map V.int).length 0 none = 0 := rfl
        have e2 : HT.sIx ((n :: r).map V.int).length ((n :: r).map V.int).length (some 1) = 1 := by
          rw [show ((1 : Int)) = ((1 : Nat) : Int) from rfl, HT.sIx_nat]
          simp
        rw [e1, e2]
        rfl
      rw [ec] at g1 he ⊢
      refine rEq_lI (ns := [n]) (ms := []) (SqL.of (by rw [upd_ne nqe]; exact upd_same)) (SqL.of upd_same) ⟨_, rfl, ?_⟩
      rw [if_neg (by simp)]
      exact fin q n _ [none, none, some (.ref q)] rfl (g1.new he) (by rw [upd_ne nqe]; exact upd_same)
end
end K3

set_option maxRecDepth 100000
set_option maxHeartbeats 4000000
namespace K3
open PySem PySem.Spec PyProof.Rows L2
open XT (Sm pe_msg pt_chain3)
open SkE (pmk_own1)
section
variable {P : Program} {w : World} {K : PySem.W.Frag} {mg : Str → Option Value} {base : Heap} {R Pp C0 : Addr} {Ps : List Addr}
/-- the nine kinds, by a refusal of the kind Pp (the second) or R (the ninth) -/
structure Nine (K : PySem.W.Frag) (mg : Str → Option Value) (R Pp : Addr) : Prop where
  path : ∃ c, mg "BadPath" = some (.ref c) ∧ PySem.W.exmOne K (.ref R) (.ref c) = some false ∧ PySem.W.exmOne K (.ref Pp) (.ref c) = some false
  piece : mg "BadPiece" = some (.ref Pp) ∧ PySem.W.exmOne K (.ref R) (.ref Pp) = some false ∧ PySem.W.exmOne K (.ref Pp) (.ref Pp) = some true
  rule : ∃ c, mg "BadRule" = some (.ref c) ∧ PySem.W.exmOne K (.ref R) (.ref c) = some false
  paper : ∃ c, mg "BadPaper" = some (.ref c) ∧ PySem.W.exmOne K (.ref R) (.ref c) = some false
  size : ∃ c, mg "BadSize" = some (.ref c) ∧ PySem.W.exmOne K (.ref R) (.ref c) = some false
  store : ∃ c, mg "BadStore" = some (.ref c) ∧ PySem.W.exmOne K (.ref R) (.ref c) = some false
  text : ∃ c, mg "BadText" = some (.ref c) ∧ PySem.W.exmOne K (.ref R) (.ref c) = some false
  lost : ∃ c, mg "Lost" = some (.ref c) ∧ PySem.W.exmOne K (.ref R) (.ref c) = some false
  such : mg "NoSuch" = some (.ref R) ∧ PySem.W.exmOne K (.ref R) (.ref R) = some true
abbrev s__law_told : Stmt := topS 24
theorem sc__law_told : FnScope ["what"] ["what"] (defScope s__law_told) := ⟨rfl, rfl, rfl, by decide +kernel, rfl, by decide +kernel, by decide +kernel⟩
abbrev rw9 (x : Str) : Addr → Value → Option Addr → TS := fun _ _ _ => tRet (tC (.str x))
/-- what() refused with the kind R or Pp is told so -/
def E9 (R Pp : Addr) (Q : VK) : XK := fun cls _ H' => (cls = .ref R ∧ Q (.str "no such") H') ∨ (cls = .ref Pp ∧ Q (.str "piece") H')
theorem many9 {D : L2.Ends} {Wout : WX} {c1 c3 c4 c5 c6 c7 c8 : Addr} {Q : VK} {cls : Value} {d : Option Addr} {σ : L2.St} {H : Hp} (e1 : PySem.W.exmOne K (.ref R) (.ref c1) = some false) (e2 : PySem.W.exmOne K (.ref R) (.ref Pp) = some false) (e3 : PySem.W.exmOne K (.ref R) (.ref c3) = some false) (e4 : PySem.W.exmOne K (.ref R) (.ref c4) = some false) (e5 : PySem.W.exmOne K (.ref R) (.ref c5) = some false) (e6 : PySem.W.exmOne K (.ref R) (.ref c6) = some false) (e7 : PySem.W.exmOne K (.ref R) (.ref c7) = some false) (e8 : PySem.W.exmOne K (.ref R) (.ref c8) = some false) (e9 : PySem.W.exmOne K (.ref R) (.ref R) = some true)
    (f1 : PySem.W.exmOne K (.ref Pp) (.ref c1) = some false) (f2 : PySem.W.exmOne K (.ref Pp) (.ref Pp) = some true)
    (hD : D.rt = Q) (h : E9 R Pp Q cls d H) : wMany K Wout D [(.ref c1, rw9 "path"), (.ref Pp, rw9 "piece"), (.ref c3, rw9 "rule"), (.ref c4, rw9 "paper"), (.ref c5, rw9 "size"), (.ref c6, rw9 "store"), (.ref c7, rw9 "text"), (.ref c8, rw9 "lost"), (.ref R, rw9 "no such")] cls d σ H := by
  rcases h with ⟨rfl, h⟩ | ⟨rfl, h⟩
  · refine ⟨false, e1, fun z => (by cases z), fun _ => ?_⟩
    refine ⟨false, e2, fun z => (by cases z), fun _ => ?_⟩
    refine ⟨false, e3, fun z => (by cases z), fun _ => ?_⟩
    refine ⟨false, e4, fun z => (by cases z), fun _ => ?_⟩
    refine ⟨false, e5, fun z => (by cases z), fun _ => ?_⟩
    refine ⟨false, e6, fun z => (by cases z), fun _ => ?_⟩
    refine ⟨false, e7, fun z => (by cases z), fun _ => ?_⟩
    refine ⟨false, e8, fun z => (by cases z), fun _ => ?_⟩
    refine ⟨true, e9, fun _ a _ => ?_, fun z => (by cases z)⟩
    show D.rt (.str "no such") H
    rw [hD]
    exact h
  · refine ⟨false, f1, fun z => (by cases z), fun _ => ⟨true, f2, fun _ a _ => ?_, fun z => (by cases z)⟩⟩
    show D.rt (.str "piece") H
    rw [hD]
    exact h
def sp__law_told (P : Program) (w : World) (K : PySem.W.Frag) (mg : Str → Option Value) (base : Heap) (k : Nat) (R Pp : Addr) : Sp := fun vs H Q E => ∃ (f : Addr) (L : LX.LF) (tl : XK → Hp → VK → Prop), vs = [.ref f] ∧ H f = some (LX.LamO f L) ∧ H L.c = some (LamX.CodeO L.c L.qual) ∧ LX.LamOk P w K mg base k L tl ∧ tl (E9 R Pp Q) H Q
theorem ok__law_told {f : Addr} {fd : FuncData} {k : Nat} (F : Fun K "_law_told" "_law_told" s__law_told f fd) (N : Nine K mg R Pp) : FnOk P w K mg base (L2.CX P w) (k + 2) f fd ["what"] (sp__law_told P w K mg base k R Pp) := by
  refine F.okX sc__law_told (fun vs H Q E h => ?_) (fun cdv A outer s H vs Q E hr h => ?_)
  · obtain ⟨f, L, tl, rfl, _⟩ := h
    rfl
  · obtain ⟨g, L, tl, rfl, hg, hc, lok, ht⟩ := h
    obtain ⟨c1, m1, e1, f1⟩ := N.path
    obtain ⟨m2, e2, f2⟩ := N.piece
    obtain ⟨c3, m3, e3⟩ := N.rule
    obtain ⟨c4, m4, e4⟩ := N.paper
    obtain ⟨c5, m5, e5⟩ := N.size
    obtain ⟨c6, m6, e6⟩ := N.store
    obtain ⟨c7, m7, e7⟩ := N.text
    obtain ⟨c8, m8, e8⟩ := N.lost
    obtain ⟨m9, e9⟩ := N.such
    refine ⟨_, pss_one (ps_try_many (Wout := fun _ _ _ _ => False) (tb := fun W D σ H => ∃ Ech : XK, (∀ cls d σ' H', Ech cls d H' → W cls d σ' H') ∧ LX.tAct P w K mg base k 0 Ech σ H D.rt) rfl rfl LamX.takes0 (fun W pn xe tk _ => ?_)
      (.cons (c := .ref c1) (ts := rw9 "path") ⟨by rfl, by decide, .inl m1⟩ (fun a oe cls d pn _ _ => pss_one (ps_ret pe_str))
      (.cons (c := .ref Pp) (ts := rw9 "piece") ⟨by rfl, by decide, .inl m2⟩ (fun a oe cls d pn _ _ => pss_one (ps_ret pe_str))
      (.cons (c := .ref c3) (ts := rw9 "rule") ⟨by rfl, by decide, .inl m3⟩ (fun a oe cls d pn _ _ => pss_one (ps_ret pe_str))
      (.cons (c := .ref c4) (ts := rw9 "paper") ⟨by rfl, by decide, .inl m4⟩ (fun a oe cls d pn _ _ => pss_one (ps_ret pe_str))
      (.cons (c := .ref c5) (ts := rw9 "size") ⟨by rfl, by decide, .inl m5⟩ (fun a oe cls d pn _ _ => pss_one (ps_ret pe_str))
      (.cons (c := .ref c6) (ts := rw9 "store") ⟨by rfl, by decide, .inl m6⟩ (fun a oe cls d pn _ _ => pss_one (ps_ret pe_str))
      (.cons (c := .ref c7) (ts := rw9 "text") ⟨by rfl, by decide, .inl m7⟩ (fun a oe cls d pn _ _ => pss_one (ps_ret pe_str))
      (.cons (c := .ref c8) (ts := rw9 "lost") ⟨by rfl, by decide, .inl m8⟩ (fun a oe cls d pn _ _ => pss_one (ps_ret pe_str))
      (.cons (c := .ref R) (ts := rw9 "no such") ⟨by rfl, by decide, .inl m9⟩ (fun a oe cls d pn _ _ => pss_one (ps_ret pe_str)) .nil)))))))))), ?_⟩
    · refine ⟨fun pins s' σ H' D I h' => ?_⟩
      obtain ⟨Ech, hW, h1⟩ := h'
      exact (pss_one (ps_ret (LX.pe_act (Z := (cxOf (L2.CX P w) P w K mg base ["what"] "_law_told" (defScope s__law_told) f cdv A outer s H E).tr pn xe) (k := k) (i := 0) (a := "what") (E := Ech) (passes_call tk hW) hr rfl (.inl rfl)))).run pins s' σ H' D I h1
    · refine ⟨E9 R Pp Q, fun cls d σ' H' h => many9 e1 e2 e3 e4 e5 e6 e7 e8 e9 f1 f2 rfl h, g, L, tl, rfl, hg, hc, lok, ht⟩
/-- the lambda that captures, given to it -/
def TT9 (R Pp : Addr) : (XK → Hp → VK → Prop) → Hp → VK → Prop := fun tl H Q => tl (E9 R Pp Q) H Q
theorem told9_gives {X : Cx} {g : Addr} {cdg : Value} {q : Str} (N : Nine X.K X.mg R Pp) : LamX.GivesTo X ["what"] "_law_told" (defScope s__law_told) g cdg (defBody s__law_told) "what" q (TT9 R Pp) := by
  intro f c' s H Q tl act hc h
  obtain ⟨c1, m1, e1, f1⟩ := N.path
  obtain ⟨m2, e2, f2⟩ := N.piece
  obtain ⟨c3, m3, e3⟩ := N.rule
  obtain ⟨c4, m4, e4⟩ := N.paper
  obtain ⟨c5, m5, e5⟩ := N.size
  obtain ⟨c6, m6, e6⟩ := N.store
  obtain ⟨c7, m7, e7⟩ := N.text
  obtain ⟨c8, m8, e8⟩ := N.lost
  obtain ⟨m9, e9⟩ := N.such
  refine ⟨_, pss_one (ps_try_many (X := (cxOf C8.CX0 X.prog X.w X.K X.mg X.base ["what"] "_law_told" (defScope s__law_told) g cdg X.A X.stack s H C8.E0).nox) (Wout := fun _ _ _ _ => False) (tb := fun W D σ H => ∃ Ech : XK, (∀ cls d σ' H', Ech cls d H' → W cls d σ' H') ∧ σ[0]? = some (some (.ref f)) ∧ H c' = some (LamX.CodeO c' q) ∧ tl Ech H D.rt) rfl rfl LamX.takes0 (fun W pn xe tk _ => ?_)
      (.cons (c := .ref c1) (ts := rw9 "path") ⟨by rfl, by decide, .inl m1⟩ (fun a oe cls d pn _ _ => pss_one (ps_ret pe_str))
      (.cons (c := .ref Pp) (ts := rw9 "piece") ⟨by rfl, by decide, .inl m2⟩ (fun a oe cls d pn _ _ => pss_one (ps_ret pe_str))
      (.cons (c := .ref c3) (ts := rw9 "rule") ⟨by rfl, by decide, .inl m3⟩ (fun a oe cls d pn _ _ => pss_one (ps_ret pe_str))
      (.cons (c := .ref c4) (ts := rw9 "paper") ⟨by rfl, by decide, .inl m4⟩ (fun a oe cls d pn _ _ => pss_one (ps_ret pe_str))
      (.cons (c := .ref c5) (ts := rw9 "size") ⟨by rfl, by decide, .inl m5⟩ (fun a oe cls d pn _ _ => pss_one (ps_ret pe_str))
      (.cons (c := .ref c6) (ts := rw9 "store") ⟨by rfl, by decide, .inl m6⟩ (fun a oe cls d pn _ _ => pss_one (ps_ret pe_str))
      (.cons (c := .ref c7) (ts := rw9 "text") ⟨by rfl, by decide, .inl m7⟩ (fun a oe cls d pn _ _ => pss_one (ps_ret pe_str))
      (.cons (c := .ref c8) (ts := rw9 "lost") ⟨by rfl, by decide, .inl m8⟩ (fun a oe cls d pn _ _ => pss_one (ps_ret pe_str))
      (.cons (c := .ref R) (ts := rw9 "no such") ⟨by rfl, by decide, .inl m9⟩ (fun a oe cls d pn _ _ => pss_one (ps_ret pe_str)) .nil)))))))))), ?_⟩
  · refine ⟨fun pins s' σ H' D I h' => ?_⟩
    obtain ⟨Ech, hW, h1, h2, h3⟩ := h'
    exact (pss_one (ps_ret (act W pn xe Ech _ _ tk hW))).run pins s' σ H' D I ⟨h1, h2, h3⟩
  · exact ⟨E9 R Pp Q, fun cls d σ' H' h => many9 e1 e2 e3 e4 e5 e6 e7 e8 e9 f1 f2 rfl h, rfl, hc, h⟩
end
end K3

set_option maxRecDepth 100000
set_option maxHeartbeats 4000000
namespace K3
open PySem PySem.Spec PyProof.Rows L2
open XT (Sm pe_msg)
open SkE (pmk_own1)
local macro_rules | `(tactic| walk_at "ev3") => `(tactic| simp only [tSeq, tIfS, tNot, XT.tChain3, rI0, tC, tVar, tRet, tTup, tLst, tCons, tNil, tJs, tFmt, tNext, tTest, tOp, tUn, rI, rU, tCall, tCB, tAnd, tOr, tB, tDrop, tAsg, gName, tAug, tPar, ipI, tBM, rAppend, tSl, rSlS, tPart, tNoPart, tIf, tM1, rEq, rNe, tFld, tMeth, tMake, L2.start, List.map_cons, List.map_nil, List.length_cons, List.length_nil, Nat.reduceAdd, Nat.reduceSub, Nat.sub_self, List.replicate_zero, List.append_nil, List.replicate_succ, List.cons_append, List.nil_append,
  List.getElem?_cons_zero, List.getElem?_cons_succ, Option.some.injEq, exists_eq_left', exists_eq_left, V.int.injEq, V.str.injEq, V.bl.injEq, V.ref.injEq, List.set_cons_zero, List.set_cons_succ, List.cons.injEq, and_true, true_and, reduceCtorEq, false_and, exists_false, false_or, or_false, exists_and_left, and_assoc, decide_eq_true_eq, Bool.not_eq_true', decide_eq_false_iff_not, Bool.not_false, Bool.not_true, if_true, if_false, Bool.false_eq_true, ↓reduceIte])
section
variable {P : Program} {w : World} {K : PySem.W.Frag} {mg : Str → Option Value} {base : Heap} {R Pp C0 : Addr} {Ps : List Addr}
abbrev s__law_figure : Stmt := topS 25
theorem sc__law_figure : FnScope ["text", "found", "sign"] ["text"] (defScope s__law_figure) := ⟨rfl, rfl, rfl, by decide +kernel, rfl, by decide +kernel, by decide +kernel⟩
theorem ok__law_figure {f : Addr} {fd : FuncData} {k : Nat} (F : Fun K "_law_figure" "_law_figure" s__law_figure f fd) (T : Txt K mg R Pp C0) : FnOk P w K mg base (L2.CX P w) (k + 1) f fd ["text"] sp_figure := by
  refine F.okX sc__law_figure (fun vs H Q E h => ?_) (fun cdv A outer s H vs Q E hr h => ?_)
  · obtain ⟨t, rfl, _⟩ := h
    rfl
  · obtain ⟨t, rfl, st, hq⟩ := h
    refine ⟨_, (pss_cons (ps_set (i := 1) sc__law_figure.nd rfl (.inl rfl) pe_int)
    (pss_cons (ps_for (passes_of rfl) rfl (pi_str (pv 0)) (pg_name (i := 2) sc__law_figure.nd rfl (.inl rfl))
      (pss_one (ps_set (i := 1) sc__law_figure.nd rfl (.inl rfl) (pe_op op_mod (pe_op op_add (pe_op op_mul (pv 1) pe_int) (pe_callB call_ord (by rfl) T.z_ord (by decide +kernel) (pa_cons (pv 2) pa_nil))) pe_int))))
    (pss_one (ps_ret (pv 1))))), ?_⟩
    walk_at "ev3"
    refine ⟨_, rfl, t, rfl, for_it walk_str (fun i σ H' => H' = H ∧ ∃ z, σ = [some (.str t), some (.int (figN ((chs t).take i) : Nat)), z]) ⟨rfl, _, rfl⟩ (fun _ _ _ _ _ => True.intro) ?_ ?_⟩
    · rintro i x σ H' H'' hi ⟨rfl, z, rfl⟩ ⟨rfl, c, hc, rfl⟩
      have hc2 : (chs t)[i]? = some c := by
        show t.cps.toList[i]? = some c
        rw [Array.getElem?_toList]
        exact hc
      walk_at "ev3"
      refine ⟨.inr ⟨by decide, by decide⟩, ?_⟩
      have ek : (chs t).take (i + 1) = (chs t).take i ++ [c] := by rw [List.take_add_one, hc2]; rfl
      rw [ek, figN_snoc]
      have e0 : (#[c].getD 0 0 : Nat) = c := rfl
      rw [e0]
      exact ⟨rfl, by decide, by omega, _, rfl⟩
    · rintro σ H' ⟨rfl, z, rfl⟩
      walk_at "ev3"
      have e : (chs t).take t.cps.size = chs t := by
        refine List.take_of_length_le ?_
        show t.cps.toList.length ≤ _
        simp
      rw [e]
      exact hq
abbrev s__law_else : Stmt := topS 26
theorem sc__law_else : FnScope ["piece"] ["piece"] (defScope s__law_else) := ⟨rfl, rfl, rfl, by decide +kernel, rfl, by decide +kernel, by decide +kernel⟩
/-- another text -/
def elseS (t : Str) : Str := (if cutS t none (some 1) = Str.ofString "a" then Str.ofString "b" else Str.ofString "a") ++ cutS t (some 1) none
def sp__law_else : Sp := fun vs H Q E => ∃ t : Str, vs = [.str t] ∧ t.length ≤ 100 ∧ Q (.str (elseS t)) H
theorem ok__law_else {f : Addr} {fd : FuncData} {k : Nat} (F : Fun K "_law_else" "_law_else" s__law_else f fd) (T : Txt K mg R Pp C0) : FnOk P w K mg base (L2.CX P w) (k + 1) f fd ["piece"] sp__law_else := by
  refine F.okX sc__law_else (fun vs H Q E h => ?_) (fun cdv A outer s H vs Q E hr h => ?_)
  · obtain ⟨t, rfl, _⟩ := h
    rfl
  · obtain ⟨t, rfl, st, hq⟩ := h
    refine ⟨_, (pss_one (ps_ret (pe_op op_add_str (pe_ifExp (pt_cmpR op_eq (pe_slice sl_str (pv 0) po_none (po_some pe_int)) pe_str (nomark _)) pe_str pe_str) (pe_slice sl_str (pv 0) (po_some pe_int) po_none)))), ?_⟩
    walk_at "ev3"
    have big : 1000 ≤ sizeLine := by decide
    have lc : (cutS t (some 1) none).length ≤ t.length := cutS_length _ _ _
    have e1 : (Str.ofString "a").length = 1 := rfl
    have e2 : (Str.ofString "b").length = 1 := rfl
    refine ⟨by omega, rfl, ?_⟩
    unfold elseS at hq
    split
    · rename_i c
      rw [if_pos c] at hq
      exact ⟨by omega, by omega, hq⟩
    · rename_i c
      rw [if_neg c] at hq
      exact ⟨by omega, by omega, hq⟩
end
end K3

set_option maxRecDepth 100000
set_option maxHeartbeats 4000000
/-! the promises of the stores, as rules -/
namespace K3
open PySem PySem.Spec PyProof.Rows L2
open RP hiding Tb Tb.not Tb.upd Gm
open RP (Gm)
section
variable {P : Program} {w : World} {K : PySem.W.Frag} {mg : Str → Option Value} {base : Heap} {R Pp C0 : Addr} {Ps : List Addr} {pT : Addr} {q0 : Str}
variable {B : Bs} {M M' : Mu} {G : Gm} {F H F' H' : Hp} {σ : L2.St} {E : XK} {Ra Rb : VRel} {m m2 : List (Str × Str)}
abbrev ks (m : List (Str × Str)) : List Str := m.map (·.1)
def StM (m : List (Str × Str)) : MRel := EqM (.dK (kvS m)) true (fun _ z => nomatch z)
/-- a store whose table is m; its table's place is N -/
def StQ (PT : Tbs) (C0 : Addr) (M : Mu) (R : VRel) (m : List (Str × Str)) (N : Addr → Prop) : Prop := ∀ F H v, Sh PT M F H → R.R F v → ∃ p pd, v = .ref p ∧ StoreAt C0 H p pd m ∧ N pd
theorem StQ.imp {PT : Tbs} {N N' : Addr → Prop} (h : StQ PT C0 M Ra m N) (k : ∀ a, N a → N' a) : StQ PT C0 M Ra m N' := fun F H v s r => by
  obtain ⟨p, pd, e, st, n⟩ := h F H v s r
  exact ⟨p, pd, e, st, k _ n⟩
theorem StQ.mu {PT : Tbs} {p pd : Addr} (hm : (pd, StM m) ∈ M) : StQ PT C0 M (Obj p C0 (stF pd)) m (· = pd) := fun F H v s ⟨e, dx, h⟩ => by
  obtain ⟨o, h1, rfl⟩ := s.mu _ hm
  exact ⟨p, pd, e, ⟨⟨dx, s.sub.ins h⟩, h1⟩, rfl⟩
/-- a store that stands as it is -/
def StF (C0 : Addr) (m : List (Str × Str)) : VRel := ⟨fun F v => ∃ p pd dx, v = .ref p ∧ F p = some (.ins C0 dx (stF pd)) ∧ F pd = some (.dK (kvS m)), fun F F' v l ⟨p, pd, dx, e, h1, h2⟩ => ⟨p, pd, dx, e, l _ _ h1, l _ _ h2⟩⟩
theorem StQ.fz {PT : Tbs} (ow : ∀ e ∈ M, e.2.own = true) : StQ PT C0 M (StF C0 m) m (fun a => ∀ e ∈ M, e.1 ≠ a) := fun F H v s ⟨p, pd, dx, e, h1, h2⟩ => by
  refine ⟨p, pd, e, ⟨⟨dx, s.sub.ins h1⟩, s.fz _ _ h2 fun e he _ => ow e he⟩, fun e he z => ?_⟩
  have := (s.ow e he).2 (ow e he)
  rw [z, h2] at this
  cases this
abbrev PT (Ps : List Addr) (pT : Addr) (q0 : Str) : Tbs := mkPs Ps pT q0
variable {N : Addr → Prop} (nP : pT ∉ Ps)
include nP
theorem oc_names (h : StQ (PT Ps pT q0) C0 M Ra m N) (sm : SmM m) : Oc (PT Ps pT q0) M (fun vs H Q => sp_names C0 Ps (vs ++ []) H Q E) [Ra] (Is K (Tl.mk (ss (ks m)))) := fun F H vs Q s r q => by
  obtain ⟨v, rfl, r1⟩ := rs1 r
  obtain ⟨p, pd, rfl, st, _⟩ := h F H v s r1
  refine ⟨p, pd, m, rfl, st, sm, Tb.tb0 s.tb, fun ys pm so H' u g hu hu' => ?_⟩
  obtain ⟨F', ev, t1, _⟩ := s.gwN nP g
  exact q _ F' H' ev ⟨u, _, rfl, SqT.of (t1 u _ hu hu'), by rw [← eq_ssS pm so]; exact str_ps2 ys⟩
theorem oc_broken (h : StQ (PT Ps pT q0) C0 M Ra m N) (sm : SmM m) : Oc (PT Ps pT q0) M (fun vs H Q => sp_broken C0 Ps (vs ++ []) H Q E) [Ra] (Is K (Tl.mk (brk m (ss (ks m))))) := fun F H vs Q s r q => by
  obtain ⟨v, rfl, r1⟩ := rs1 r
  obtain ⟨p, pd, rfl, st, _⟩ := h F H v s r1
  refine ⟨p, pd, m, rfl, st, sm, Tb.tb0 s.tb, fun ys pm so H' u g hu hu' => ?_⟩
  obtain ⟨F', ev, t1, _⟩ := s.gwN nP g
  exact q _ F' H' ev ⟨u, _, rfl, SqT.of (t1 u _ hu hu'), by rw [← eq_ssS pm so]; exact str_ps2 _⟩
theorem oc_size (h : StQ (PT Ps pT q0) C0 M Ra m N) (sm : SmM m) : Oc (PT Ps pT q0) M (fun vs H Q => sp_size C0 Ps (vs ++ []) H Q E) [Ra] (Is K ((lensum m : Nat) : Int)) := fun F H vs Q s r q => by
  obtain ⟨v, rfl, r1⟩ := rs1 r
  obtain ⟨p, pd, rfl, st, _⟩ := h F H v s r1
  refine ⟨p, pd, m, rfl, st, sm, Tb.tb0 s.tb, fun H' g => ?_⟩
  obtain ⟨F', ev, _⟩ := s.gwN nP g
  exact q _ F' H' ev rfl
theorem oc_shown (h : StQ (PT Ps pT q0) C0 M Ra m N) (sm : SmM m) : Oc (PT Ps pT q0) M (fun vs H Q => sp_shown C0 Ps (vs ++ []) H Q E) [Ra] (Is K (Tl.mk ((ss (ks m)).map (prS m)))) := fun F H vs Q s r q => by
  obtain ⟨v, rfl, r1⟩ := rs1 r
  obtain ⟨p, pd, rfl, st, _⟩ := h F H v s r1
  refine ⟨p, pd, m, rfl, st, sm, Tb.tb0 s.tb, fun ys pm so H' u es g hu hu' e2 hes => ?_⟩
  obtain ⟨F', ev, t1, _⟩ := s.gwN nP g
  refine q _ F' H' ev ⟨u, _, rfl, SqT.of (t1 u _ hu hu'), ?_⟩
  rw [← eq_ssS pm so]
  show Ps2 K F' _ (ys.map (prS m))
  rw [← e2]
  clear e2 hu'
  induction es with
  | nil => exact .nil
  | cons e l ih => exact .cons ⟨e.1, .str e.2.1, .str e.2.2, rfl, t1 _ _ (hes e (List.mem_cons_self ..)).1 (hes e (List.mem_cons_self ..)).2, rfl, rfl⟩ (ih fun x hx => hes x (List.mem_cons_of_mem _ hx))
theorem oc_get {nm v : Str} (h : StQ (PT Ps pT q0) C0 M Ra m N) (sm : SmM m) (lr : (reprText nm).length ≤ 20000) (hv : look m nm = some v) (hr : right nm v = true) : Oc (PT Ps pT q0) M (fun vs H Q => sp_get R Pp C0 Ps (vs ++ []) H Q E) [Ra, Is K nm] (Is K v) := fun F H vs Q s r q => by
  obtain ⟨v0, w0, rfl, r1, r2⟩ := rs2 r
  obtain ⟨p, pd, rfl, st, _⟩ := h F H v0 s r1
  cases r2
  refine ⟨p, pd, m, nm, rfl, st, sm, lr, Tb.tb0 s.tb, (fun z => by rw [hv] at z; cases z), fun v' e' hr' H' g => ?_, fun v' e' hr' => ?_⟩
  · obtain ⟨F', ev, _⟩ := s.gwN nP g
    rw [hv] at e'
    cases e'
    exact q _ F' H' ev rfl
  · rw [hv] at e'
    cases e'
    rw [hr] at hr'
    cases hr'
theorem oc_missing {xs : List Str} (h : StQ (PT Ps pT q0) C0 M Ra m N) (nd : (missL m xs).Nodup) (lx : xs.length ≤ 40) : Oc (PT Ps pT q0) M (fun vs H Q => sp_missing K C0 Ps (vs ++ []) H Q E) [Ra, Is K xs] (Is K (Tl.mk (ss (missL m xs)))) := fun F H vs Q s r q => by
  obtain ⟨v0, w0, rfl, r1, r2⟩ := rs2 r
  obtain ⟨p, pd, rfl, st, _⟩ := h F H v0 s r1
  obtain ⟨a, ws, rfl, hl, hp⟩ := r2
  refine ⟨p, pd, a, m, xs, rfl, st, SqL.of (by rw [← ps2_str hp]; exact s.sub.lst hl), nd, lx, Tb.tb0 s.tb, fun ys pm so H' u g hu hu' => ?_⟩
  obtain ⟨F', ev, t1, _⟩ := s.gwN nP g
  exact q _ F' H' ev ⟨u, _, rfl, SqT.of (t1 u _ hu hu'), by rw [← eq_ssS pm so]; exact str_ps2 ys⟩
/-- copied: the other's table grows -/
theorem oc_copied {j : Nat} {p2 pd2 : Addr} {xs : List Str} (h : StQ (PT Ps pT q0) C0 M Ra m N) (hj : M[j]? = some (pd2, StM m2)) (sm : SmM m) (sm2 : SmM m2) (lx : xs.length ≤ 40) (lr : ∀ nm ∈ xs, (reprText nm).length ≤ 20000) (ok : ∀ x ∈ xs, okN m m2 x) :
    OcS (PT Ps pT q0) B G M (fun vs H Q => sp_copied K R Pp C0 Ps (vs ++ []) H Q E) [Ra, Obj p2 C0 (stF pd2), Is K xs] (fun Rr M' => Rr = Is K (Tl.mk (ss ((frL m m2 xs).map (·.1)))) ∧ M' = M.set j (pd2, StM (afterL m2 (frL m m2 xs)))) := fun σ F H vs Q s r q => by
  obtain ⟨v0, v1, v2, rfl, r1, r2, r3⟩ := rs3 r
  obtain ⟨p, pd, rfl, st, _⟩ := h F H v0 s.sh r1
  obtain ⟨p2', pd2', rfl, st2, e2⟩ := StQ.mu (List.mem_of_getElem? hj) F H v1 s.sh r2
  subst e2
  obtain ⟨a, ws, rfl, hl, hp⟩ := r3
  refine ⟨p, pd, p2', pd2', a, m, m2, xs, rfl, st, st2, sm, sm2, SqL.of (by rw [← ps2_str hp]; exact s.sh.sub.lst hl), lx, lr, Tb.tb0 s.sh.tb, fun pre nm post e al hn => ?_, fun pre nm post v e al hv hb => ?_, fun _ ys pm so H' u g hd hu hu' => ?_⟩
  · obtain ⟨v, h1, _⟩ := ok nm (by rw [e]; simp)
    rw [hn] at h1
    cases h1
  · obtain ⟨v', h1, h2, h3⟩ := ok nm (by rw [e]; simp)
    rw [hv] at h1
    cases h1
    rcases hb with hb | ⟨hb1, hb2⟩
    · rw [h2] at hb; cases hb
    · rcases h3 with h3 | h3
      · rw [hb1] at h3; cases h3
      · exact absurd h3 hb2
  · obtain ⟨F', s', le, t1, _⟩ := s.gpN (r' := StM (afterL m2 (frL m m2 xs))) nP hj rfl g.1 g.2 hd rfl
    exact q _ _ _ F' H' ⟨rfl, rfl⟩ s' le ⟨u, _, rfl, SqT.of (t1 u _ hu hu'), by rw [← eq_ssS pm so]; exact str_ps2 ys⟩
theorem oc_mended {j : Nat} {p pd : Addr} (hj : M[j]? = some (pd, StM m)) (h : StQ (PT Ps pT q0) C0 M Rb m2 (fun a => pd ≠ a)) (sm : SmM m) (sm2 : SmM m2) :
    OcS (PT Ps pT q0) B G M (fun vs H Q => sp_mended C0 Ps (vs ++ []) H Q E) [Obj p C0 (stF pd), Rb] (fun Rr M' => Rr = Is K (Tl.mk ((brk m (ss (ks m))).filter (hasR m2))) ∧ M' = M.set j (pd, StM (setM m2 m ((brk m (ss (ks m))).filter (hasR m2))))) := fun σ F H vs Q s r q => by
  obtain ⟨v0, v1, rfl, r1, r2⟩ := rs2 r
  obtain ⟨p', pd', rfl, st, e2⟩ := StQ.mu (List.mem_of_getElem? hj) F H v0 s.sh r1
  subst e2
  obtain ⟨p2, pd2, rfl, st2, ne⟩ := h F H v1 s.sh r2
  refine ⟨p', pd', p2, pd2, m, m2, rfl, st, st2, ne, sm, sm2, Tb.tb0 s.sh.tb, fun ys pm so H' u g hd hu hu' => ?_⟩
  have es := eq_ssS pm so
  subst es
  obtain ⟨F', s', le, t1, _⟩ := s.gpN (r' := StM (setM m2 m ((brk m (ss (ks m))).filter (hasR m2)))) nP hj rfl g.1 g.2 hd rfl
  exact q _ _ _ F' H' ⟨rfl, rfl⟩ s' le ⟨u, _, rfl, SqT.of (t1 u _ hu hu'), str_ps2 _⟩
end
end K3

set_option maxRecDepth 100000
set_option maxHeartbeats 4000000
namespace K3
open PySem PySem.Spec PyProof.Rows L2
open RP hiding Tb Tb.not Tb.upd Gm
open RP (Gm)
theorem foldl_map' {α β γ : Type} (f : γ → β → γ) (g : α → β) : ∀ (l : List α) (c : γ), l.foldl (fun c x => f c (g x)) c = (l.map g).foldl f c
  | [], _ => rfl
  | x :: r, c => foldl_map' f g r (f c (g x))
def tabP (xs : List (Str × Str)) : List (Str × Str) := xs.foldl (fun m e => putS m e.1 e.2) []
theorem tabOf_P (l : List (Addr × Str × Str)) : tabOf l = tabP (l.map (·.2)) := foldl_map' (fun m (e : Str × Str) => putS m e.1 e.2) (fun e : Addr × Str × Str => e.2) l []
section
variable {P : Program} {w : World} {K : PySem.W.Frag} {mg : Str → Option Value} {base : Heap} {R Pp C0 : Addr} {Ps : List Addr} {pT : Addr} {q0 : Str}
variable {B : Bs} {M M' : Mu} {G : Gm} {F H F' H' : Hp} {σ : L2.St} {E : XK} {Ra Rb : VRel} {m m2 tb : List (Str × Str)}
variable {N : Addr → Prop} (nP : pT ∉ Ps)
include nP
theorem oc_find {t : Str} (h : StQ (PT Ps pT q0) C0 M Ra (mOf tb) N) (ti : TI tb) (ht : t ∈ drawn) : Oc (PT Ps pT q0) M (fun vs H Q => sp_find C0 Ps (vs ++ []) H Q E) [Ra, Is K t] (Is K (look tb t)) := fun F H vs Q s r q => by
  obtain ⟨v0, w0, rfl, r1, r2⟩ := rs2 r
  obtain ⟨p, pd, rfl, st, _⟩ := h F H v0 s r1
  cases r2
  refine ⟨p, pd, mOf tb, t, rfl, st, smM ti, smT_drawn t ht, Tb.tb0 s.tb, names_uq ti ht, fun n H' al hl g => ?_, fun n H' al hl g => ⟨fun ne => ?_, fun x hx => ?_⟩⟩
  · obtain ⟨F', ev, _⟩ := s.gwN nP g
    rw [(look_t ti).mpr ((look_m ti).mp hl)] at q
    exact q _ F' H' ev rfl
  · obtain ⟨F', ev, _⟩ := s.gwN nP g
    have e : look tb t = none := by
      cases e : look tb t with
      | none => rfl
      | some x =>
        have := (names_m ti t ht x).mpr ((look_t ti).mp e)
        rw [ne] at this
        cases this
    rw [e] at q
    exact q _ F' H' ev rfl
  · obtain ⟨F', ev, _⟩ := s.gwN nP g
    rw [(look_t ti).mpr ((names_m ti t ht x).mp hx)] at q
    exact q _ F' H' ev rfl
theorem set_same {j : Nat} {e : Addr × MRel} (h : M[j]? = some e) : M.set j e = M := by
  obtain ⟨hl, e1⟩ := List.getElem?_eq_some_iff.mp h
  rw [← e1]
  exact List.set_getElem_self hl
theorem ocS_put {t : Str} {j : Nat} {p pd : Addr} (hj : M[j]? = some (pd, StM (mOf tb))) (ti : TI tb) (ht : t ∈ drawn) :
    OcS (PT Ps pT q0) B G M (fun vs H Q => sp_put C0 Ps (vs ++ []) H Q E) [Obj p C0 (stF pd), Is K t] (fun Rr M' => Rr = Is K (due tb t) ∧ M' = M.set j (pd, StM (mOf (putD tb t (due tb t))))) := fun σ F H vs Q s r q => by
  obtain ⟨v0, w0, rfl, r1, r2⟩ := rs2 r
  obtain ⟨p', pd', rfl, st, e2⟩ := StQ.mu (List.mem_of_getElem? hj) F H v0 s.sh r1
  subst e2
  cases r2
  have same : ∀ x, look tb t = some x → ∀ H', Gw Ps H H' → Q (.str x) H' := fun x e H' g => by
    obtain ⟨F', ev, _⟩ := s.sh.gwN nP g
    have e1 := due_some e
    refine q _ M _ F' H' ⟨rfl, ?_⟩ (s.evo ev) ev.le (congrArg V.str e1.symm)
    rw [e1, putD_same ti e]
    exact (set_same nP hj).symm
  refine ⟨p', pd', mOf tb, t, rfl, st, smM ti, smT_drawn t ht, Tb.tb0 s.sh.tb, names_uq ti ht, fun n H' al hl g => ?_, fun n al hl => ⟨fun ne H' g hd => ?_, fun x hx H' g => ?_⟩⟩
  · exact same _ ((look_t ti).mpr ((look_m ti).mp hl)) H' g
  · have e : look tb t = none := by
      cases e : look tb t with
      | none => rfl
      | some x =>
        have := (names_m ti t ht x).mpr ((look_t ti).mp e)
        rw [ne] at this
        cases this
    obtain ⟨ed, _⟩ := due_none ti e al.some hl
    obtain ⟨F', s', le, _⟩ := s.gpN (r' := StM (mOf (putD tb t (due tb t)))) (o := .dK (kvS (mOf (putD tb t (due tb t))))) nP hj rfl g.1 g.2 (by rw [hd, put_new ti e, mOf_app, ed, putS_new hl]) rfl
    exact q _ _ _ F' H' ⟨rfl, rfl⟩ s' le (congrArg V.str ed.symm)
  · exact same _ ((look_t ti).mpr ((names_m ti t ht x).mp hx)) H' g
theorem ocS_drop {t nm : Str} {j : Nat} {p pd : Addr} (hj : M[j]? = some (pd, StM (mOf tb))) (ti : TI tb) (hx : look tb t = some nm) :
    OcS (PT Ps pT q0) B G M (fun vs H Q => sp_drop R C0 Ps (vs ++ []) H Q E) [Obj p C0 (stF pd), Is K nm] (fun Rr M' => M' = M.set j (pd, StM (mOf (tb.filter fun e => decide (e.1 ≠ t))))) := fun σ F H vs Q s r q => by
  obtain ⟨v0, w0, rfl, r1, r2⟩ := rs2 r
  obtain ⟨p', pd', rfl, st, e2⟩ := StQ.mu (List.mem_of_getElem? hj) F H v0 s.sh r1
  subst e2
  cases r2
  have hm := (look_m ti).mpr ((look_t ti).mp hx)
  refine ⟨p', pd', mOf tb, nm, rfl, st, ti.repr (List.mem_map.mpr ⟨_, (look_t ti).mp hx, rfl⟩), Tb.tb0 s.sh.tb, fun _ H' g hd => ?_, fun z => by rw [hm] at z; cases z⟩
  rw [drop_m ti hx] at hd
  obtain ⟨F', s', le, _⟩ := s.gpN (r' := StM (mOf (tb.filter fun e => decide (e.1 ≠ t)))) nP hj rfl g.1 g.2 hd rfl
  exact q (Is K ()) _ _ F' H' rfl s' le rfl
/-! ### Store() -/
theorem make_core {x dx a : Addr} {l : List (Addr × Str × Str)} (s : Sh (PT Ps pT q0) M F H) (hx : H x = none) (hdx : H dx = none) (ne : dx ≠ x) (hr : RowsAt K H a l) (ll : l.length ≤ 40) {Q : VK}
    (q : ∀ pd H', H pd = none → upd H pd (.dK (kvS (tabOf l))) x = none → Gw0 Ps (upd (upd H pd (.dK (kvS (tabOf l)))) x (.ins C0 dx (stF pd))) H' → H' pd = some (.dK (kvS (tabOf l))) → Q (.ref x) H') : sp_init K C0 Ps [.ref x, .ref a] (upd (upd H dx (.own x)) x (.ins C0 dx [])) (fun v H2 => v = .non ∧ Q (.ref x) H2) E := by
  have tb : K3.Tb Ps H := Tb.tb0 s.tb
  have g1 : Gw Ps H (upd (upd H dx (.own x)) x (.ins C0 dx [])) := ((Gw.refl tb).new hdx).new (by rw [upd_ne ne.symm]; exact hx)
  refine ⟨x, dx, a, l, rfl, upd_same, ⟨hr.1.elim (fun h => .inl (g1.sqL tb h)) (fun h => .inr (g1.sqT tb h)), fun e he => g1.sqT tb (hr.2 e he)⟩, ll, g1.1, fun H' pd g hpd npx h1 h2 => ⟨rfl, ?_⟩⟩
  have hp := (upd_none (upd_none hpd).1).1
  refine q pd H' hp (by rw [upd_ne npx.symm]; exact hx) ⟨g.1, fun b o nb hb => ?_⟩ h2
  by_cases z : b = x
  · subst z
    rw [upd_same] at hb
    rw [h1, Option.some.inj hb]
  · rw [upd_ne z] at hb
    by_cases z2 : b = pd
    · subst z2
      rw [upd_same] at hb
      rw [h2, Option.some.inj hb]
    · rw [upd_ne z2] at hb
      exact g.2 b o nb z (by rw [upd_ne z, upd_ne (ne_of_none hb hdx)]; exact hb)
theorem make_fz {x dx a : Addr} {l : List (Addr × Str × Str)} (s : Sh (PT Ps pT q0) M F H) (hx : H x = none) (hdx : H dx = none) (ne : dx ≠ x) (hr : RowsAt K H a l) (ll : l.length ≤ 40) {Q : VK}
    (q : ∀ F' H', Evo (PT Ps pT q0) M F H F' H' → (StF C0 (tabOf l)).R F' (.ref x) → Q (.ref x) H') : sp_init K C0 Ps [.ref x, .ref a] (upd (upd H dx (.own x)) x (.ins C0 dx [])) (fun v H2 => v = .non ∧ Q (.ref x) H2) E :=
  make_core nP s hx hdx ne hr ll fun pd H' hp hx' g hd => by
    have e1 := s.new (o := .dK (kvS (tabOf l))) hp
    have e2 := (s.evo e1).new (o := .ins C0 dx (stF pd)) hx'
    have e3 := Evo.gw ((s.evo e1).evo e2) nP g
    refine q _ H' ((e1.trans e2).trans e3) ⟨x, pd, dx, rfl, upd_same, ?_⟩
    exact e2.le _ _ upd_same
theorem make_mu {x dx a : Addr} {l : List (Addr × Str × Str)} (s : Sa (PT Ps pT q0) B G M σ F H) (hx : H x = none) (hdx : H dx = none) (ne : dx ≠ x) (hr : RowsAt K H a l) (ll : l.length ≤ 40) {Q : VK}
    (q : ∀ pd F' H', Sa (PT Ps pT q0) B G ((pd, StM (tabOf l)) :: M) σ F' H' → Le F F' → (Obj x C0 (stF pd)).R F' (.ref x) → Q (.ref x) H') : sp_init K C0 Ps [.ref x, .ref a] (upd (upd H dx (.own x)) x (.ins C0 dx [])) (fun v H2 => v = .non ∧ Q (.ref x) H2) E :=
  make_core nP s.sh hx hdx ne hr ll fun pd H' hp hx' g hd => by
    have s1 := s.new (r := StM (tabOf l)) (o := .dK (kvS (tabOf l))) hp rfl
    have e2 := s1.sh.new (o := .ins C0 dx (stF pd)) hx'
    have s2 := s1.evo e2
    have e3 := Evo.gw s2.sh nP g
    exact q pd _ H' (s2.evo e3) (e2.le.trans e3.le) ⟨rfl, dx, upd_same⟩
theorem Ev.make0 {z : Addr} (hz : ∀ H : Hp, SqT K H z []) : Ev (PT Ps pT q0) G M (tMake C0 (sp_init K C0 Ps) [.ref z] E tNil) (StF C0 []) := fun σ F H Q en s q => fun x dx hx hdx ne =>
  make_fz (l := []) nP s hx hdx ne ⟨.inr (hz H), fun _ h => nomatch h⟩ (Nat.zero_le _) fun F' H' ev r => q _ F' H' ev r
theorem EvS.make0 {z : Addr} (hz : ∀ H : Hp, SqT K H z []) : EvS (PT Ps pT q0) B G M (tMake C0 (sp_init K C0 Ps) [.ref z] E tNil) (fun Rr M' => ∃ p pd, Rr = Obj p C0 (stF pd) ∧ M' = (pd, StM []) :: M) := fun σ F H Q s q => fun x dx hx hdx ne =>
  make_mu (l := []) nP s hx hdx ne ⟨.inr (hz H), fun _ h => nomatch h⟩ (Nat.zero_le _) fun pd F' H' s' le r => q _ _ _ F' H' ⟨x, pd, rfl, rfl⟩ s' le r
theorem rows_at {F H : Hp} (sub : Sub F H) {a : Addr} {vs : List V} {xs : List (Str × Str)} (h : F a = some (.lst vs)) (p : Ps2 K F vs xs) : ∃ l : List (Addr × Str × Str), RowsAt K H a l ∧ l.map (·.2) = xs := by
  have : ∃ l : List (Addr × Str × Str), l.map (fun e => V.ref e.1) = vs ∧ l.map (·.2) = xs ∧ ∀ e ∈ l, F e.1 = some (.tup [.str e.2.1, .str e.2.2]) := by
    clear h
    unfold Ps2 at p
    induction p with
    | nil => exact ⟨[], rfl, rfl, fun _ h => nomatch h⟩
    | @cons v x vs xs h t ih =>
      obtain ⟨l, h1, h2, h3⟩ := ih
      obtain ⟨b, u, w, rfl, hb, hu, hw⟩ := h
      cases hu
      cases hw
      refine ⟨(b, x) :: l, by rw [List.map_cons, h1], by rw [List.map_cons, h2], fun e he => ?_⟩
      rcases List.mem_cons.mp he with rfl | he
      · exact hb
      · exact h3 e he
  obtain ⟨l, h1, h2, h3⟩ := this
  exact ⟨l, ⟨.inl (SqL.of (by rw [h1]; exact sub.lst h)), fun e he => SqT.of (sub.tup (h3 e he))⟩, h2⟩
theorem EvS.make1 {t : TA} {Pr : List (Str × Str) → Prop} (ha : Ea (PT Ps pT q0) G M t [Exi K Pr]) (hl : ∀ xs, Pr xs → xs.length ≤ 40) : EvS (PT Ps pT q0) B G M (tMake C0 (sp_init K C0 Ps) [] E t) (fun Rr M' => ∃ p pd xs, Pr xs ∧ Rr = Obj p C0 (stF pd) ∧ M' = (pd, StM (tabP xs)) :: M) := fun σ F H Q s q => ha σ F H _ s.en s.sh fun vs F1 H1 e1 r1 => by
  obtain ⟨v, rfl, xs, px, a, ws, rfl, hF, hp⟩ := rs1 r1
  have s1 := s.evo e1
  obtain ⟨l, rows, el⟩ := rows_at nP s1.sh.sub hF hp
  intro x dx hx hdx ne
  refine make_mu (l := l) nP s1 hx hdx ne rows (by rw [← List.length_map (f := fun e : Addr × Str × Str => e.2), el]; exact hl xs px) fun pd F' H' s' le r => ?_
  rw [tabOf_P, el] at s'
  exact q _ _ _ F' H' ⟨x, pd, xs, px, rfl, rfl⟩ s' (e1.le.trans le) r
omit nP in
theorem oc_roll {d : Addr} {n : Int} (hM : (d, DiceM) ∈ M) (n1 : 1 ≤ n) (n2 : n ≤ 1000) : Oc (PT Ps pT q0) M (fun vs H Q => sp__law_roll (vs ++ []) H Q E) [At d, Is K n] (Exi K fun r : Int => 0 ≤ r ∧ r < n) :=
  Oc.roll hM n1 n2 fun H Q E hd k => ⟨d, n, rfl, hd, n1, n2, k⟩
omit nP in
theorem oc_figure {t : Str} (h : SmT t) : Oc (PT Ps pT q0) M (fun vs H Q => sp_figure (vs ++ []) H Q E) [Is K t] (Is K ((fig t : Nat) : Int)) := fun F H vs Q s r q => by
  obtain ⟨v, rfl, r1⟩ := rs1 r
  cases r1
  exact ⟨t, rfl, h, q _ F H s.refl rfl⟩
omit nP in
theorem oc_else {t : Str} (h : t.length ≤ 100) : Oc (PT Ps pT q0) M (fun vs H Q => sp__law_else (vs ++ []) H Q E) [Is K t] (Is K (elseS t)) := fun F H vs Q s r q => by
  obtain ⟨v, rfl, r1⟩ := rs1 r
  cases r1
  exact ⟨t, rfl, h, q _ F H s.refl rfl⟩
/-! ### refused, and told -/
def Tld (Ps : List Addr) (pT : Addr) (q0 : Str) (K : PySem.W.Frag) (R Pp : Addr) (M : Mu) (sp : Sp) (Rs : List VRel) (z : Str) : Prop := ∀ F H vs Q, Sh (PT Ps pT q0) M F H → RsOk F Rs vs → (∀ u F' H', Evo (PT Ps pT q0) M F H F' H' → (Is K z).R F' u → Q u H') → sp (vs ++ []) H Q (E9 R Pp Q)
theorem tld_getP {nm v : Str} (h : StQ (PT Ps pT q0) C0 M Ra m N) (sm : SmM m) (lr : (reprText nm).length ≤ 20000) (hv : look m nm = some v) (hr : right nm v = false) : Tld Ps pT q0 K R Pp M (sp_get R Pp C0 Ps) [Ra, Is K nm] "piece" := fun F H vs Q s r q => by
  obtain ⟨v0, w0, rfl, r1, r2⟩ := rs2 r
  obtain ⟨p, pd, rfl, st, _⟩ := h F H v0 s r1
  cases r2
  refine ⟨p, pd, m, nm, rfl, st, sm, lr, Tb.tb0 s.tb, (fun z => by rw [hv] at z; cases z), fun v' e' hr' => ?_, fun v' e' hr' H' g => ?_⟩
  · rw [hv] at e'
    cases e'
    rw [hr] at hr'
    cases hr'
  · obtain ⟨F', ev, _⟩ := s.gwN nP g
    exact .inr ⟨rfl, q _ F' H' ev rfl⟩
omit nP in
theorem tld_getN {nm : Str} (h : StQ (PT Ps pT q0) C0 M Ra m N) (sm : SmM m) (lr : (reprText nm).length ≤ 20000) (hv : look m nm = none) : Tld Ps pT q0 K R Pp M (sp_get R Pp C0 Ps) [Ra, Is K nm] "no such" := fun F H vs Q s r q => by
  obtain ⟨v0, w0, rfl, r1, r2⟩ := rs2 r
  obtain ⟨p, pd, rfl, st, _⟩ := h F H v0 s r1
  cases r2
  exact ⟨p, pd, m, nm, rfl, st, sm, lr, Tb.tb0 s.tb, (fun z => .inl ⟨rfl, q _ F H s.refl rfl⟩), (fun v' e' => by rw [hv] at e'; cases e'), fun v' e' => by rw [hv] at e'; cases e'⟩
omit nP in
theorem tld_dropN {nm : Str} (h : StQ (PT Ps pT q0) C0 M Ra m N) (lr : (reprText nm).length ≤ 20000) (hv : look m nm = none) : Tld Ps pT q0 K R Pp M (sp_drop R C0 Ps) [Ra, Is K nm] "no such" := fun F H vs Q s r q => by
  obtain ⟨v0, w0, rfl, r1, r2⟩ := rs2 r
  obtain ⟨p, pd, rfl, st, _⟩ := h F H v0 s r1
  cases r2
  exact ⟨p, pd, m, nm, rfl, st, lr, Tb.tb0 s.tb, (fun z => by rw [hv] at z; cases z), fun _ => .inl ⟨rfl, q _ F H s.refl rfl⟩⟩
omit nP in
theorem one_pre {nm x : Str} {pre post : List Str} (e : [nm] = pre ++ x :: post) : pre = [] ∧ x = nm := by
  cases pre with
  | nil => simp at e; exact ⟨rfl, e.1.symm⟩
  | cons a l => simp at e
theorem tld_cop {nm : Str} {z : Str} {N2 : Addr → Prop} (h : StQ (PT Ps pT q0) C0 M Ra m N) (h2 : StQ (PT Ps pT q0) C0 M Rb m2 N2) (sm : SmM m) (sm2 : SmM m2) (lr : (reprText nm).length ≤ 20000)
    (hz : (look m nm = none ∧ z = "no such") ∨ (∃ v, look m nm = some v ∧ (right nm v = false ∨ (need m2 nm = false ∧ look m2 nm ≠ some v)) ∧ z = "piece")) : Tld Ps pT q0 K R Pp M (sp_copied K R Pp C0 Ps) [Ra, Rb, Is K [nm]] z := fun F H vs Q s r q => by
  obtain ⟨v0, v1, v2, rfl, r1, r2, r3⟩ := rs3 r
  obtain ⟨p, pd, rfl, st, _⟩ := h F H v0 s r1
  obtain ⟨p2, pd2, rfl, st2, _⟩ := h2 F H v1 s r2
  obtain ⟨a, ws, rfl, hl, hp⟩ := r3
  refine ⟨p, pd, p2, pd2, a, m, m2, [nm], rfl, st, st2, sm, sm2, SqL.of (by rw [← ps2_str hp]; exact s.sub.lst hl), (show 1 ≤ 40 by decide), fun x hx => by rw [List.mem_singleton.mp hx]; exact lr, Tb.tb0 s.tb, fun pre x post e al hn H' g => ?_, fun pre x post v e al hv hb H' g => ?_, fun ok => ?_⟩
  · obtain ⟨rfl, rfl⟩ := one_pre e
    obtain ⟨F', ev, _⟩ := s.gwN nP g
    rcases hz with ⟨h0, rfl⟩ | ⟨v, h0, _⟩
    · exact .inl ⟨rfl, q _ F' H' ev rfl⟩
    · rw [hn] at h0; cases h0
  · obtain ⟨rfl, rfl⟩ := one_pre e
    obtain ⟨F', ev, _⟩ := s.gwN nP g
    rcases hz with ⟨h0, _⟩ | ⟨v', h0, _, rfl⟩
    · rw [hv] at h0; cases h0
    · exact .inr ⟨rfl, q _ F' H' ev rfl⟩
  · obtain ⟨v, h1, h2, h3⟩ := ok nm (List.mem_singleton.mpr rfl)
    rcases hz with ⟨h0, _⟩ | ⟨v', h0, hb, _⟩
    · rw [h0] at h1; cases h1
    · rw [h0] at h1
      cases h1
      rcases hb with hb | ⟨hb1, hb2⟩
      · rw [h2] at hb; cases hb
      · rcases h3 with h3 | h3
        · rw [hb1] at h3; cases h3
        · exact absurd h3 hb2
end
end K3

set_option maxRecDepth 100000
set_option maxHeartbeats 4000000
namespace K3
open PySem PySem.Spec PyProof.Rows L2
open RP hiding Tb Tb.not Tb.upd Gm
open RP (Gm)
abbrev s_law : Stmt := topS 27
abbrev Nlaw : List Str := ["script", "drawn", "dice", "store", "table", "turn", "piece", "one", "head", "taken", "free", "k", "due", "names", "name", "other", "row", "had", "fresh", "right", "two", "wrong", "pair"]
theorem sc_law : FnScope Nlaw ["script"] (defScope s_law) := ⟨rfl, rfl, rfl, by decide +kernel, rfl, by decide +kernel, by decide +kernel⟩
def nthS (l : List Stmt) (i : Nat) : Stmt := l.getD i (.Pass ⟨0, 0, 0, 0⟩)
def forB : Stmt → List Stmt
  | .For _ _ b _ _ => b
  | .If _ b _ _ => b
  | _ => []
def elsB : Stmt → List Stmt
  | .If _ _ b _ => b
  | _ => []
def lawS (i : Nat) : Stmt := nthS (defBody s_law) i
def lb (i : Nat) : Stmt := nthS (forB (lawS 1)) i
abbrev LX0 (P : Program) (w : World) (K : PySem.W.Frag) (mg : Str → Option Value) (base : Heap) (f c : Addr) (A : Around) (outer : List Env) (s : Shared) (H : Hp) (E : XK) : Cx := cxOf (L2.CX P w) P w K mg base Nlaw "law" (defScope s_law) f (.ref c) A outer s H E
/-- the law's callees -/
structure Callees (P : Program) (w : World) (K : PySem.W.Frag) (mg : Str → Option Value) (base : Heap) (R Pp C0 : Addr) (Ps : List Addr) (z : Addr) (k : Nat) : Prop where
  put : ∃ f fd j, j ≤ k ∧ MCal P w K mg base (L2.CX P w) j C0 "put" ["self", "piece"] (sp_put C0 Ps) f fd
  get : ∃ f fd j, j ≤ k ∧ MCal P w K mg base (L2.CX P w) j C0 "get" ["self", "name"] (sp_get R Pp C0 Ps) f fd
  find : ∃ f fd j, j ≤ k ∧ MCal P w K mg base (L2.CX P w) j C0 "find" ["self", "piece"] (sp_find C0 Ps) f fd
  drop : ∃ f fd j, j ≤ k ∧ MCal P w K mg base (L2.CX P w) j C0 "drop" ["self", "name"] (sp_drop R C0 Ps) f fd
  names : ∃ f fd j, j ≤ k ∧ MCal P w K mg base (L2.CX P w) j C0 "names" ["self"] (sp_names C0 Ps) f fd
  size : ∃ f fd j, j ≤ k ∧ MCal P w K mg base (L2.CX P w) j C0 "size" ["self"] (sp_size C0 Ps) f fd
  broken : ∃ f fd j, j ≤ k ∧ MCal P w K mg base (L2.CX P w) j C0 "broken" ["self"] (sp_broken C0 Ps) f fd
  shown : ∃ f fd j, j ≤ k ∧ MCal P w K mg base (L2.CX P w) j C0 "shown" ["self"] (sp_shown C0 Ps) f fd
  figure : ∃ f fd j, j ≤ k ∧ Cal P w K mg base (L2.CX P w) j "figure" ["text"] sp_figure f fd
  copied : ∃ f fd j, j ≤ k ∧ Cal P w K mg base (L2.CX P w) j "copied" ["store", "other", "names"] (sp_copied K R Pp C0 Ps) f fd
  missing : ∃ f fd j, j ≤ k ∧ Cal P w K mg base (L2.CX P w) j "missing" ["store", "names"] (sp_missing K C0 Ps) f fd
  mended : ∃ f fd j, j ≤ k ∧ Cal P w K mg base (L2.CX P w) j "mended" ["store", "other"] (sp_mended C0 Ps) f fd
  mkr : ∃ f fd j, j + 1 ≤ k ∧ Mk K C0 f ∧ FnOk P w K mg base (L2.CX P w) j f fd ["self", "rows"] (sp_init K C0 Ps) ∧ Binds K fd ["self", "rows"] [] ∧ ∃ ds, Vals [V.ref z] ds ∧ Binds K fd ["self", "rows"] ds
  hz : ∀ H : Hp, SqT K H z []
  roll : ∃ f fd j, j ≤ k ∧ Cal P w K mg base (L2.CX P w) j "_law_roll" ["dice", "many"] sp__law_roll f fd
  rounds : ∃ f fd j, j ≤ k ∧ Cal P w K mg base (L2.CX P w) j "_law_rounds" ["script", "most"] (sp__law_rounds K Ps) f fd
  lfig : ∃ f fd j, j ≤ k ∧ Cal P w K mg base (L2.CX P w) j "_law_figure" ["text"] sp_figure f fd
  els : ∃ f fd j, j ≤ k ∧ Cal P w K mg base (L2.CX P w) j "_law_else" ["piece"] sp__law_else f fd
section
variable {P : Program} {w : World} {K : PySem.W.Frag} {mg : Str → Option Value} {base : Heap} {R Pp C0 : Addr} {Ps : List Addr} {pT : Addr} {q0 : Str}
variable {f c z : Addr} {k : Nat} {A : Around} {outer : List Env} {s : Shared} {H0 : Hp} {E : XK}
/-- the slots of a round -/
def gI (K : PySem.W.Frag) (d : Addr) : Gm := [none, some (Is K drawn), some (At d), none, none, none, none, none, none, none, none, none, none, none, none, none, none, none, none, none, none, none, none]
def gA (K : PySem.W.Frag) (C0 d p pd D : Addr) : Gm := [none, some (Is K drawn), some (At d), some (Obj p C0 (stF pd)), some (At D), none, none, none, none, none, none, none, none, none, none, none, none, none, none, none, none, none, none]
def MI (K : PySem.W.Frag) (D pd d : Addr) (tb : List (Str × Str)) : Mu := [(D, DicM K tb), (pd, StM (mOf tb)), (d, DiceM)]
theorem l10 (nP : pT ∉ Ps) (Z : Callees P w K mg base R Pp C0 Ps z k) (T : Txt K mg R Pp C0) (hr : Room k (A.deeper (envOfC "law" (defScope s_law) s.heap.objs.size f (.ref c)))) : ∃ t, PS (LX0 P w K mg base f c A outer s H0 E) (lb 0) t ∧ ∀ d B D, (∀ p pd Da, Nx (PT Ps pT q0) B (gA K C0 d p pd Da) (MI K Da pd d []) D.nx) → Nx (PT Ps pT q0) B (gI K d) [(d, DiceM)] (t D) := by
  obtain ⟨_, _, _, k_mk, MK, FI, BI, ds, VD, BD⟩ := Z.mkr
  refine ⟨_, (ps_asg (pe_tup (pa_cons (pe_make0 MK FI (hr.mono k_mk) (by rfl) T.g_Store BD VD passF) (pa_cons pe_dnewK pa_nil))) (pg_tup rfl (pgs_cons (pg_name (i := 3) sc_law.nd rfl (.inr rfl)) (pgs_cons (pg_name (i := 4) sc_law.nd rfl (.inr rfl)) pgs_nil)))), fun d B D nx => ?_⟩
  refine Nx.par (EvS.make0 nP Z.hz) (fun Ra M' h => ?_) (P2 := fun Ra Rb M' => ∃ p pd Da, Ra = Obj p C0 (stF pd) ∧ Rb = At Da ∧ M' = MI K Da pd d []) (fun Ra Rb M' h => ?_)
  · obtain ⟨p, pd, rfl, rfl⟩ := h
    exact EvS.newD (K := K) (κ := Str) (α := Str) fun a => ⟨p, pd, a, rfl, rfl, rfl⟩
  · obtain ⟨p, pd, Da, rfl, rfl, rfl⟩ := h
    exact nx p pd Da
def li (i : Nat) : Stmt := nthS (forB (lb 1)) i
/-- within the turns: a piece -/
def gP (K : PySem.W.Frag) (C0 d p pd D : Addr) (t : Str) : Gm := [none, some (Is K drawn), some (At d), some (Obj p C0 (stF pd)), some (At D), none, some (Is K t), none, none, none, none, none, none, none, none, none, none, none, none, none, none, none, none]
theorem len_drawn : drawn.length = 6 := rfl
theorem l110 (Z : Callees P w K mg base R Pp C0 Ps z k) (hr : Room k (A.deeper (envOfC "law" (defScope s_law) s.heap.objs.size f (.ref c)))) : ∃ t, PS (LX0 P w K mg base f c A outer s H0 E) (li 0) t ∧ ∀ d p pd Da tb B D, (∀ x ∈ drawn, Nx (PT Ps pT q0) B (gP K C0 d p pd Da x) (MI K Da pd d tb) D.nx) → Nx (PT Ps pT q0) B (gA K C0 d p pd Da) (MI K Da pd d tb) (t D) := by
  obtain ⟨_, _, _, k_law_roll, G_law_roll⟩ := Z.roll
  refine ⟨_, (ps_set (i := 6) sc_law.nd rfl (.inr rfl) (pe_ix ix_list (pv 1) (pe_call G_law_roll.ok (hr.mono k_law_roll) (by rfl) G_law_roll.g G_law_roll.kp G_law_roll.b .nil passF (pa_cons (pv 2) (pa_cons pe_int pa_nil))) (fun _ _ => rfl))), fun d p pd Da tb B D nx => ?_⟩
  refine Nx.setX (P := (· ∈ drawn)) (Ev.op (Ev.var rfl) (Ev.call (Ea.cons (Ev.var rfl) (Ea.cons Ev.int Ea.nil)) (oc_roll (K := K) (by simp [MI]) (by decide) (by decide))) (o2_ixLx Ls.fz fun i hi => by rw [len_drawn]; omega)) fun x hx => nx x hx
end
end K3

set_option maxRecDepth 100000
set_option maxHeartbeats 4000000
namespace K3
open PySem PySem.Spec PyProof.Rows L2
open RP hiding Tb Tb.not Tb.upd Gm
open RP (Gm)
section
variable {P : Program} {w : World} {K : PySem.W.Frag} {mg : Str → Option Value} {base : Heap} {R Pp C0 : Addr} {Ps : List Addr} {pT : Addr} {q0 : Str}
variable {f c z : Addr} {k : Nat} {A : Around} {outer : List Env} {s : Shared} {H0 : Hp} {E : XK}
theorem at0 {α : Type} {xs : List α} {x : α} (h : xs[0]? = some x) : atI xs 0 = some x := by
  have hl := (List.getElem?_eq_some_iff.mp h).1
  unfold atI ixN
  rw [if_pos (by decide), if_pos (by omega)]
  exact h
theorem len_fig : ∀ x ∈ drawn, (ts (fig x)).length ≤ 100 := by decide +kernel
theorem len_num : ∀ n < 9, (ts n).length ≤ 100 := by decide +kernel
theorem len_figd : ∀ x ∈ drawn, (ts (fig x) ++ Str.ofString ".").length ≤ 200 := by decide +kernel
theorem log_num : ∀ n < 9, ((n : Nat) : Int).natAbs.log2 < 1920 := by decide +kernel
theorem nmS_is (t : Str) (n : Nat) : nmS t n = ts (fig t) ++ Str.ofString "." ++ ts n := rfl
theorem own_MI {D pd d : Addr} {tb : List (Str × Str)} : ∀ e ∈ MI K D pd d tb, e.2.own = true := fun e he => by
  simp only [MI, List.mem_cons, List.not_mem_nil, or_false] at he
  rcases he with rfl | rfl | rfl <;> rfl
theorem lookD_look (tb : List (Str × Str)) (t : Str) : lookD tb t = look tb t := rfl
theorem l111 (nP : pT ∉ Ps) (Z : Callees P w K mg base R Pp C0 Ps z k) (T : Txt K mg R Pp C0) (hr : Room k (A.deeper (envOfC "law" (defScope s_law) s.heap.objs.size f (.ref c)))) : ∃ t, PS (LX0 P w K mg base f c A outer s H0 E) (li 1) t ∧ ∀ d p pd Da tb x, TI tb → x ∈ drawn → ∀ B D, (∀ Da tb, TI tb → Nx (PT Ps pT q0) B (gA K C0 d p pd Da) (MI K Da pd d tb) D.nx) → Nx (PT Ps pT q0) B (gP K C0 d p pd Da x) (MI K Da pd d tb) (t D) := by
  obtain ⟨_, _, _, k_law_roll, G_law_roll⟩ := Z.roll
  obtain ⟨_, _, _, k_law_figure, G_law_figure⟩ := Z.lfig
  obtain ⟨_, _, _, k_drop, M_drop⟩ := Z.drop
  obtain ⟨_, _, _, k_put, M_put⟩ := Z.put
  have hu := hr.units
  have hu1 : (A.deeper (envOfC "law" (defScope s_law) s.heap.objs.size f (.ref c))).units + 1 < cLine := by omega
  refine ⟨_, (ps_if (PW.pt (pw_and (pt_cmpR op_eq (pe_call G_law_roll.ok (hr.mono k_law_roll) (by rfl) G_law_roll.g G_law_roll.kp G_law_roll.b .nil passF (pa_cons (pv 2) (pa_cons pe_int pa_nil))) pe_int (nomark _)) (pw_and1 (pt_cmp (pc_din hu1 (pv 6) (pv 4)) (by with_unfolding_all rfl)))))
      (pss_cons (ps_expr (pe_meth (pv 3) T.cl M_drop.m M_drop.ok (hr.mono k_drop) M_drop.b .nil passF (pa_cons (pe_dget hu1 (pv 4) (pv 6) (fun _ _ => rfl)) pa_nil)))
    (pss_one (ps_set (i := 4) sc_law.nd rfl (.inr rfl) (pe_callTy (call_dictP rfl) (by rfl) T.z_dict (by decide +kernel) (pa_cons (L2.pe_lock (pe_lc (own := [("one", 7)]) rfl sc_law.nd (pi_keys (pv 4)) (blkOk_by (by show blkC Nlaw (defScope s_law) _ _ = true; decide +kernel)) (fun _ _ _ _ _ => (pg_name (i := 7) sc_law.nd rfl (.inl rfl))) (fun _ _ _ _ _ => (pts_one (pt_cmpR op_ne (pv 7) (pv 6) (nomark _)))) (fun _ _ _ _ _ => (pe_tup (pa_cons (pv 7) (pa_cons (pe_dget hu1 (pv 4) (pv 7) (fun _ _ => rfl)) pa_nil)))))) pa_nil))))) (pss_cons (ps_asg (pe_tup (pa_cons (pe_callTy call_str_int (by rfl) T.z_str (by decide +kernel) (pa_cons (pe_call G_law_figure.ok (hr.mono k_law_figure) (by rfl) G_law_figure.g G_law_figure.kp G_law_figure.b .nil passF (pa_cons (pv 6) pa_nil)) pa_nil)) (pa_cons (RU.pe_listVals rfl (by rfl) T.z_list (by decide +kernel) (pv 4)) pa_nil))) (pg_tup rfl (pgs_cons (pg_name (i := 8) sc_law.nd rfl (.inr rfl)) (pgs_cons (pg_name (i := 9) sc_law.nd rfl (.inr rfl)) pgs_nil))))
    (pss_cons (ps_setLc (i := 10) (own := [("k", 11)]) rfl sc_law.nd rfl rfl (sw_true rfl rfl rfl (by rfl)) (pi_range1 (by rfl) T.z_range (pa_cons pe_int pa_nil)) (blkOk_by (by show blkC Nlaw (defScope s_law) _ _ = true; decide +kernel)) (fun _ _ _ _ _ => (pg_name (i := 11) sc_law.nd rfl (.inl rfl))) (fun _ _ _ _ _ => (pts_one (pt_cmpR (op_notInK (K0 := K) rfl) (pe_op op_add_str (pe_op op_add_str (pv 8) pe_str) (pe_callTy call_str_int (by rfl) T.z_str (by decide +kernel) (pa_cons (pv 11) pa_nil))) (pv 9) (by with_unfolding_all rfl)))) (fun _ _ _ _ _ => (pe_op op_add_str (pe_op op_add_str (pv 8) pe_str) (pe_callTy call_str_int (by rfl) T.z_str (by decide +kernel) (pa_cons (pv 11) pa_nil)))))
    (pss_cons (ps_set (i := 12) sc_law.nd rfl (.inl rfl) (pe_ifExp (pt_cmp (pc_din hu1 (pv 6) (pv 4)) (by with_unfolding_all rfl)) (pe_dget hu1 (pv 4) (pv 6) (fun _ _ => rfl)) (pe_ix ix_list (pv 10) pe_int (fun _ _ => rfl))))
    (pss_cons (ps_if (pt_cmpR op_ne (pe_meth (pv 3) T.cl M_put.m M_put.ok (hr.mono k_put) M_put.b .nil passF (pa_cons (pv 6) pa_nil)) (pv 12) (nomark _))
      (pss_one (ps_ret pe_bl)) pss_nil)
    (pss_one (ps_dput hu1 (pv 4) (pv 6) (pv 12) rfl))))))), fun d p pd Da tb x ti hx B D nx => ?_⟩
  have ds4 : Ds (PT Ps pT q0) (MI K Da pd d tb) K (At Da) tb := Ds.mu (by simp [MI])
  refine Nx.ite (P := fun b => b = true → (lookD tb x).isSome = true) ?_ (fun hb => ?_) (fun _ => ?_)
  · refine Et.and (P1 := fun _ => True) (Et.of (Ev.op (Ev.call (Ea.cons (Ev.var rfl) (Ea.cons Ev.int Ea.nil)) (oc_roll (K := K) (by simp [MI]) (by decide) (by decide))) Ev.int (O2.exi fun r _ => O2.bl o2_eq trivial))) (fun _ h => nomatch h) (fun _ => (Et.isB (Ev.din (Ev.var rfl) (Ev.var rfl) ds4)).imp fun b e h => by rw [← e]; exact h)
  · obtain ⟨nm, hnm⟩ := Option.isSome_iff_exists.mp (hb rfl)
    have hnm : look tb x = some nm := hnm
    refine Nx.seq (Nx.dropS (EvS.meth (Ev.var rfl) rfl (Ea.cons (Ev.dget (Ev.var rfl) ds4 (Ev.var rfl) hnm) Ea.nil) (ocS_drop nP (j := 1) rfl ti hnm)) fun R1 M1 e1 => ?_)
    subst e1
    have ti2 := ti.less fun e => decide (e.1 ≠ x)
    dsimp only
    refine Nx.setS (EvS.dictP (K := K) (xs := tb.filter fun e => decide (e.1 ≠ x)) (P := fun R1 M1 => ∃ a, R1 = At a ∧ M1 = (a, DicM K (tb.filter fun e => decide (e.1 ≠ x))) :: (MI K Da pd d tb).set 1 (pd, StM (mOf (tb.filter fun e => decide (e.1 ≠ x))))) (Ea.cons ?_ Ea.nil) ti2.kn fun a => ⟨a, rfl, rfl⟩) fun R1 M1 e1 => ?_
    · refine Ev.lockM (i := 4) (j := 0) (a := Da) (l := tb) (K := K) rfl rfl fun kv od hk => ?_
      refine (Ev.lcOf (K := K) (xs := tb.map (·.1)) (β := Str × Str) (Ei.keys (Ev.var rfl) (List.mem_cons_self ..) hk) (fun e he => by rw [List.mem_singleton.mp he]; exact List.mem_cons_self ..) (by rw [List.length_map]; have := keys_len ti; omega) (fun y => _) (p := fun y => !decide (y = x)) (f := fun y => (y, (look tb y).getD Str.empty)) (fun y _ => Eg.name) (fun k hk => hk) (fun y _ => Et.is (Ev.op (Ev.var rfl) (Ev.var rfl) o2_ne)) (fun y hy _ => ?_)).to (rebuilt ti)
      refine Ev.pair (Ev.var rfl) (Ev.dget (Ev.var rfl) (Ds.atk (List.mem_cons_self ..)) (Ev.var rfl) ?_)
      obtain ⟨v, hv⟩ := look_some hy
      show look tb y = some ((look tb y).getD Str.empty)
      rw [hv]
      rfl
    · obtain ⟨a, rfl, rfl⟩ := e1
      refine Nx.less (M' := MI K a pd d (tb.filter fun e => decide (e.1 ≠ x))) ?_ ?_ (Nx.gle (nx a _ ti2) ?_)
      · exact List.Sublist.cons₂ _ (List.Sublist.cons _ (List.Sublist.refl _))
      · intro e he
        refine .inr ?_
        rcases List.mem_cons.mp he with rfl | he
        · rfl
        · simp only [MI, List.set_cons_succ, List.set_cons_zero, List.mem_cons, List.not_mem_nil, or_false] at he
          rcases he with rfl | rfl | rfl <;> rfl
      · (repeat' (first | exact RP.GLe.nil | apply RP.GLe.keep | apply RP.GLe.drop))
  · have st := smT_drawn x hx
    refine Nx.seq (Nx.par (Ev.toS (P := fun R1 M1 => R1 = Is K (ts (fig x)) ∧ M1 = MI K Da pd d tb) (Ev.cb (Ea.cons (Ev.call (Ea.cons (Ev.var rfl) Ea.nil) (oc_figure st)) Ea.nil) (oc_strI (log_fig x))) ⟨rfl, rfl⟩) (P2 := fun R1 R2 M1 => R1 = Is K (ts (fig x)) ∧ R2 = Is K (tb.map (·.2)) ∧ M1 = MI K Da pd d tb) (fun R1 M1 h => ?_) fun R1 R2 M1 h => ?_)
    · obtain ⟨rfl, rfl⟩ := h
      exact Ev.toS (Ev.listVals (Ev.var rfl) (Du.mu (by simp [MI]))) ⟨rfl, rfl, rfl⟩
    · obtain ⟨rfl, rfl, rfl⟩ := h
      have nmE : ∀ {G : Gm} {M : Mu} {n : Nat}, (n : Int) < 9 → G[8]? = some (some (Is K (ts (fig x)))) → G[11]? = some (some (Is K (n : Int))) → Ev (PT Ps pT q0) G M (tOp (fun x y H Q => ∃ i j, x = .str i ∧ y = .str j ∧ i.length + j.length ≤ sizeLine ∧ Q (.str (i ++ j)) H) (tOp (fun x y H Q => ∃ i j, x = .str i ∧ y = .str j ∧ i.length + j.length ≤ sizeLine ∧ Q (.str (i ++ j)) H) (tVar 8) (tC (.str "."))) (tCB (fun vs H Q => ∃ i, vs = [.int i] ∧ i.natAbs.log2 < 1920 ∧ Q (.str (toString i)) H) (tCons (tVar 11) tNil))) (Is K (nmS x n)) := fun {G M n} hn h8 h11 => by
        have hn : n < 9 := by omega
        have l1 := len_fig x hx
        have l2 := len_num n hn
        have l3 := len_figd x hx
        exact Ev.op (Ev.op (Ev.var h8) Ev.str (o2_addS (by show (ts (fig x)).length + 1 ≤ 100000; omega))) (Ev.cb (Ea.cons (Ev.var h11) Ea.nil) (oc_strI (log_num n hn))) (o2_addS (by show (ts (fig x) ++ Str.ofString ".").length + (ts n).length ≤ 100000; omega))
      have eF : (((List.range (9 : Int).toNat).filter fun n => !decide (nmS x n ∈ tb.map (·.2))).map (nmS x)) = freeL tb x := by
        unfold freeL
        rw [List.filter_map]
        rfl
      refine Nx.seq (Nx.set (R := Is K (freeL tb x)) ((Ev.lcRf (K := K) (p := fun n => !decide (nmS x n ∈ tb.map (·.2))) (f := nmS x) (Ea.cons Ev.int Ea.nil) (by decide) (by decide) (fun n hn => ?_) (fun n hn _ => nmE hn rfl rfl)).to eF) ?_)
      · exact Et.is (Ev.op (nmE hn rfl rfl) (Ev.var rfl) (o2_inS (neg := true) (Ls.sq Ls.fz)))
      · refine Nx.seq (Nx.set (R := Is K (due tb x)) (Ev.ite (P := fun b => b = (lookD tb x).isSome) (Et.isB (Ev.din (Ev.var rfl) (Ev.var rfl) ds4)) (fun h => ?_) (fun h => ?_)) ?_)
        · obtain ⟨nm, hnm⟩ := Option.isSome_iff_exists.mp h.symm
          exact (Ev.dget (Ev.var rfl) ds4 (Ev.var rfl) hnm).to (due_some hnm).symm
        · have hn : look tb x = none := by
            cases e : look tb x with
            | none => rfl
            | some v =>
              have h : false = (look tb x).isSome := h
              rw [e] at h
              cases h
          exact Ev.op (Ev.var rfl) Ev.int (o2_ixL Ls.fz (at0 (due_free ti hn).1))
        · refine Nx.seq (Nx.ifF (EtS.test (EvS.opL (P := fun R1 M1 => R1 = Is K (due tb x) ∧ M1 = (MI K Da pd d tb).set 1 (pd, StM (mOf (putD tb x (due tb x))))) (P2 := fun R1 M1 => R1 = Is K false ∧ M1 = (MI K Da pd d tb).set 1 (pd, StM (mOf (putD tb x (due tb x))))) (EvS.meth (Ev.var rfl) rfl (Ea.cons (Ev.var rfl) Ea.nil) (ocS_put nP (j := 1) rfl ti hx)) fun R1 M1 h => ?_) (P2 := fun b M1 => b = false ∧ M1 = (MI K Da pd d tb).set 1 (pd, StM (mOf (putD tb x (due tb x))))) fun R1 M1 h => ⟨false, h.1, rfl, h.2⟩) (fun M1 h => nomatch h.1) fun M1 h => ?_)
          · obtain ⟨rfl, rfl⟩ := h
            exact ⟨Is K (due tb x), Is K false, Ev.var rfl, o2_ne.imp fun F v r => by rw [decide_eq_true rfl] at r; exact r, rfl, rfl⟩
          · obtain ⟨_, rfl⟩ := h
            refine Nx.dput (κ := Str) (α := Str) (l := tb) (k := x) (x := due tb x) (j := 0) (a := Da) (Ev.var rfl) (Ev.var rfl) (Ev.var rfl) rfl (by have := keys_len ti; omega) ?_
            refine Nx.gle (nx Da (putD tb x (due tb x)) (ti.put hx)) ?_
            (repeat' (first | exact RP.GLe.nil | apply RP.GLe.keep | apply RP.GLe.drop))
end
end K3

set_option maxRecDepth 100000
set_option maxHeartbeats 4000000
namespace K3
open PySem PySem.Spec PyProof.Rows L2
open RP hiding Tb Tb.not Tb.upd Gm
open RP (Gm)
section
variable {P : Program} {w : World} {K : PySem.W.Frag} {mg : Str → Option Value} {base : Heap} {R Pp C0 : Addr} {Ps : List Addr} {pT : Addr} {q0 : Str}
variable {f c z : Addr} {k : Nat} {A : Around} {outer : List Env} {s : Shared} {H0 : Hp} {E : XK}
theorem turn_is : forB (lb 1) = [li 0, li 1] := rfl
theorem l11 (nP : pT ∉ Ps) (Z : Callees P w K mg base R Pp C0 Ps z k) (T : Txt K mg R Pp C0) (hr : Room k (A.deeper (envOfC "law" (defScope s_law) s.heap.objs.size f (.ref c)))) : ∃ t, PS (LX0 P w K mg base f c A outer s H0 E) (lb 1) t ∧ ∀ d p pd Da B D, (∀ Da tb, TI tb → Nx (PT Ps pT q0) B (gA K C0 d p pd Da) (MI K Da pd d tb) D.nx) → Nx (PT Ps pT q0) B (gA K C0 d p pd Da) (MI K Da pd d []) (t D) := by
  obtain ⟨_, _, _, k_law_roll, G_law_roll⟩ := Z.roll
  obtain ⟨t0, p0, h0⟩ := l110 (pT := pT) (q0 := q0) (A := A) (outer := outer) (s := s) (H0 := H0) (E := E) Z hr
  obtain ⟨t1, p1, h1⟩ := l111 (q0 := q0) (A := A) (outer := outer) (s := s) (H0 := H0) (E := E) nP Z T hr
  refine ⟨_, (ps_for (passes_of rfl) rfl (pi_range1 (by rfl) T.z_range (pa_cons (pe_call G_law_roll.ok (hr.mono k_law_roll) (by rfl) G_law_roll.g G_law_roll.kp G_law_roll.b .nil passF (pa_cons (pv 2) (pa_cons pe_int pa_nil))) pa_nil)) (pg_name (i := 5) sc_law.nd rfl (.inl rfl)) (by show PSs _ [li 0, li 1] _; exact pss_cons p0 (pss_one p1))), fun d p pd Da B D nx => ?_⟩
  refine EvS.walkR1 (K := K) (p := fun r : Int => 0 ≤ r ∧ r < 9) (Ea.cons (Ev.call (Ea.cons (Ev.var rfl) (Ea.cons Ev.int Ea.nil)) (oc_roll (K := K) (by simp [MI]) (by decide) (by decide))) Ea.nil) (fun n hn => by omega) fun j hj t0' ei => ?_
  refine Nx.for0 (γ := Unit) (δ := Addr × List (Str × Str)) ei (fun _ c => TI c.2) (fun _ c => gA K C0 d p pd c.1) (fun _ c => MI K c.1 pd d c.2) (fun _ _ _ _ h => nomatch h) (fun _ _ => True) (fun i _ => Is K (i : Int)) (fun i _ F v r => ⟨(), trivial, r⟩) (Da, []) TI.nil GLe.refl rfl _ (fun i c x _ _ _ => Eg.name) (fun B' _ i c x _ ti _ N hN => ?_) fun c ti => nx c.1 c.2 ti
  refine Nx.gle (G' := gA K C0 d p pd c.1) ?_ (by (repeat' (first | exact RP.GLe.nil | apply RP.GLe.keep | apply RP.GLe.drop)))
  refine Nx.seq (h0 d p pd c.1 c.2 _ _ fun x hx => ?_)
  exact h1 d p pd c.1 c.2 x ti hx B' _ fun Da' tb' ti' => hN (Da', tb') ti'
end
end K3

set_option maxRecDepth 100000
set_option maxHeartbeats 4000000
namespace K3
open PySem PySem.Spec PyProof.Rows L2
open RP hiding Tb Tb.not Tb.upd Gm
open RP (Gm)
section
variable {P : Program} {w : World} {K : PySem.W.Frag} {mg : Str → Option Value} {base : Heap} {R Pp C0 : Addr} {Ps : List Addr} {pT : Addr} {q0 : Str}
variable {f c z : Addr} {k : Nat} {A : Around} {outer : List Env} {s : Shared} {H0 : Hp} {E : XK}
theorem ks_m {tb : List (Str × Str)} : ks (mOf tb) = tb.map (·.2) := ks_mOf
theorem inP {D pd d : Addr} {tb : List (Str × Str)} : (pd, StM (mOf tb)) ∈ MI K D pd d tb := List.mem_cons_of_mem _ (List.mem_cons_self ..)
theorem inD {D pd d : Addr} {tb : List (Str × Str)} : (D, DicM K tb) ∈ MI K D pd d tb := List.mem_cons_self ..
theorem shown_is {tb : List (Str × Str)} (ti : TI tb) {v : Hp} : True := trivial
/-- table's pairs, its keys walked -/
theorem evKeys {β : Type} [Rp β] {G : Gm} {M : Mu} {Da : Addr} {tb : List (Str × Str)} {i j : Nat} {tt : TT} {te : TE} {g : Str → β} {p : Str → Bool} (hi : G[i]? = some (some (At Da))) (hj : M[j]? = some (Da, DicM K tb)) (ln : tb.length ≤ 1000) {s : Nat}
    (ht : ∀ (kv : List (Key × V)) (od : PySem.Obj), ∀ x ∈ tb.map (·.1), Et (PT Ps pT q0) ((wipeG (G.set i (some (AtK K Da kv tb))) [s]).set s (some (Is K x))) (M.set j (Da, lkM od kv)) tt (· = p x))
    (he : ∀ (kv : List (Key × V)) (od : PySem.Obj), ∀ x ∈ tb.map (·.1), p x = true → Ev (PT Ps pT q0) ((wipeG (G.set i (some (AtK K Da kv tb))) [s]).set s (some (Is K x))) (M.set j (Da, lkM od kv)) te (Is K (g x))) (td : (G.set i (some (At Da)))[i]? = some (some (At Da))) :
    Ev (PT Ps pT q0) G M (tLockE (tLc (iKeys (tVar i)) (gName s) tt te [s])) (Is K (((tb.map (·.1)).filter p).map g)) := by
  have hjl := (List.getElem?_eq_some_iff.mp hj).1
  have hil := (List.getElem?_eq_some_iff.mp hi).1
  refine Ev.lockM (i := i) (j := j) (a := Da) (l := tb) (K := K) hi hj fun kv od hk => ?_
  have mem : (Da, lkM od kv) ∈ M.set j (Da, lkM od kv) := List.mem_of_getElem? (i := j) (by rw [List.getElem?_set_self hjl])
  exact Ev.lcOf (K := K) (xs := tb.map (·.1)) (β := β) (Ei.keys (Ev.var (by rw [List.getElem?_set_self hil])) mem hk) (fun e he => by rw [List.mem_singleton.mp he]; exact mem) (by rw [List.length_map]; omega) (fun y => _) (p := p) (f := g) (fun y _ => Eg.name) (fun k hk => hk) (fun y hy => ht kv od y hy) (fun y hy py => he kv od y hy py)
theorem l12 (nP : pT ∉ Ps) (Z : Callees P w K mg base R Pp C0 Ps z k) (T : Txt K mg R Pp C0) (hr : Room k (A.deeper (envOfC "law" (defScope s_law) s.heap.objs.size f (.ref c)))) : ∃ t, PS (LX0 P w K mg base f c A outer s H0 E) (lb 2) t ∧ ∀ d p pd Da tb B D, TI tb → Nx (PT Ps pT q0) B (gA K C0 d p pd Da) (MI K Da pd d tb) D.nx → Nx (PT Ps pT q0) B (gA K C0 d p pd Da) (MI K Da pd d tb) (t D) := by
  obtain ⟨_, _, _, k_names, M_names⟩ := Z.names
  obtain ⟨_, _, _, k_size, M_size⟩ := Z.size
  obtain ⟨_, _, _, k_shown, M_shown⟩ := Z.shown
  have hu := hr.units
  have hu1 : (A.deeper (envOfC "law" (defScope s_law) s.heap.objs.size f (.ref c))).units + 1 < cLine := by omega
  refine ⟨_, (ps_if (PW.pt (pw_or (pt_cmpR (op_neK (K0 := K) rfl hr.units) (pe_callTy call_list_of (by rfl) T.z_list (by decide +kernel) (pa_cons (pe_meth0 (pv 3) T.cl M_names.m M_names.ok (hr.mono k_names) M_names.b .nil passF) pa_nil)) (pe_callB (RU.cr_sortVals rfl) (by rfl) T.z_sorted (by decide +kernel) (pa_cons (RU.pe_vals (pv 4)) pa_nil)) (nomark _)) (pw_or (pt_cmpR op_ne (pe_meth0 (pv 3) T.cl M_size.m M_size.ok (hr.mono k_size) M_size.b .nil passF) (pe_callB (cr_sum rfl) (by rfl) T.z_sum (by decide +kernel) (pa_cons (L2.pe_lock (pe_lc (own := [("piece", 6)]) rfl sc_law.nd (pi_keys (pv 4)) (blkOk_by (by show blkC Nlaw (defScope s_law) _ _ = true; decide +kernel)) (fun _ _ _ _ _ => (pg_name (i := 6) sc_law.nd rfl (.inl rfl))) (fun _ _ _ _ _ => pts_nil) (fun _ _ _ _ _ => (pe_callB call_len_str (by rfl) T.z_len (by decide +kernel) (pa_cons (pv 6) pa_nil))))) pa_nil)) (nomark _)) (pw_or1 (pt_cmpR (op_neK (K0 := K) rfl hr.units) (pe_meth0 (pv 3) T.cl M_shown.m M_shown.ok (hr.mono k_shown) M_shown.b .nil passF) (pe_callTy call_tuple_of (by rfl) T.z_tuple (by decide +kernel) (pa_cons (pe_callB RU.cr_sortedSS (by rfl) T.z_sorted (by decide +kernel) (pa_cons (L2.pe_lock (pe_lc (own := [("piece", 6)]) rfl sc_law.nd (pi_keys (pv 4)) (blkOk_by (by show blkC Nlaw (defScope s_law) _ _ = true; decide +kernel)) (fun _ _ _ _ _ => (pg_name (i := 6) sc_law.nd rfl (.inl rfl))) (fun _ _ _ _ _ => pts_nil) (fun _ _ _ _ _ => (pe_tup (pa_cons (pe_dget hu1 (pv 4) (pv 6) (fun _ _ => rfl)) (pa_cons (pv 6) pa_nil)))))) pa_nil)) pa_nil)) (nomark _))))))
      (pss_one (ps_ret pe_bl)) pss_nil), fun d p pd Da tb B D ti nx => ?_⟩
  have ln := keys_len ti
  refine Nx.noIf (Et.orF ?_ (Et.orF ?_ ?_)) nx
  · refine Et.isF (Ev.op (Ra := Is K (ss (ks (mOf tb)))) (Rb := Is K (ss (tb.map (·.2)))) (Ev.cb (Ea.cons (Ev.meth (Ev.var rfl) rfl Ea.nil (oc_names nP (StQ.mu inP) (smM ti))) Ea.nil) (oc_list Sq.tl)) ((Ev.cb (Ea.cons (Ev.vals (Ev.var rfl) inD) Ea.nil) (oc_sortVals inD (by omega))).exiIs fun ys h => eq_ssS h.1 h.2) (o2_neD (fun x hx => ti.okN x (by rw [ss_mem, ks_m] at hx; exact hx)) (fun x hx => ti.okN x (by rw [ss_mem] at hx; exact hx)))) (ne_self ?_)
    show ss ((mOf tb).map (·.1)) = _
    rw [ks_mOf]
  · refine Et.isF (Ev.op (Ev.meth (Ev.var rfl) rfl Ea.nil (oc_size nP (StQ.mu inP) (smM ti))) (Ev.cb (Ea.cons (evKeys (K := K) (i := 4) (j := 0) (Da := Da) (tb := tb) (p := fun _ => true) (g := fun x : Str => (x.length : Int)) rfl rfl (by omega) (fun _ _ _ _ => Et.yes) (fun _ _ x hx _ => (Ev.cb (Ea.cons (Ev.var rfl) Ea.nil) (oc_lenS ?_)).natI) rfl) Ea.nil) (oc_sum Ls.fz)) o2_ne) (ne_self ?_)
    · obtain ⟨e, he, rfl⟩ := List.mem_map.mp hx
      have := (smT_drawn _ (ti.kd e he)).1
      omega
    · rw [List.filter_eq_self.mpr fun _ _ => rfl]
      exact (lensum_mOf tb).symm
  · refine Et.isF (Ev.op (Ev.meth (Ev.var rfl) rfl Ea.nil (oc_shown nP (StQ.mu inP) (smM ti))) (Ev.cb (Ea.cons ((Ev.cb (Ea.cons (evKeys (K := K) (i := 4) (j := 0) (Da := Da) (tb := tb) (p := fun _ => true) (g := fun x : Str => ((look tb x).getD Str.empty, x)) rfl rfl (by omega) (fun _ _ _ _ => Et.yes) (fun _ od x hx _ => Ev.pair (Ev.dget (Ev.var rfl) (Ds.atk (List.mem_cons_self ..)) (Ev.var rfl) ?_) (Ev.var rfl)) rfl) Ea.nil) (oc_sortSS Ls.fz)).exiIs (y := (ss (ks (mOf tb))).map (prS (mOf tb))) fun ys h => ?_) Ea.nil) (oc_tuple Ls.fz)) (o2_neD ?_ ?_)) (ne_self rfl)
    · obtain ⟨v, hv⟩ := look_some hx
      show look tb x = some ((look tb x).getD Str.empty)
      rw [hv]
      rfl
    · obtain ⟨l, l', e1, e2, pm, pw⟩ := h
      rw [List.filter_eq_self.mpr fun _ _ => rfl, pairs_mOf ti] at e1
      exact eq_sp (f := fun x => (look (mOf tb) x).getD Str.empty) e1 e2 pm pw fun e he => by
        have := look_of_mem (m := mOf tb) (by rw [ks_mOf]; exact ti.vn) (show (e.1, e.2) ∈ mOf tb from he)
        rw [this]
        rfl
    · exact ti.okP mem_mOf
    · exact ti.okP mem_mOf
end
end K3

set_option maxRecDepth 100000
set_option maxHeartbeats 4000000
namespace K3
open PySem PySem.Spec PyProof.Rows L2
open RP hiding Tb Tb.not Tb.upd Gm
open RP (Gm)
section
variable {P : Program} {w : World} {K : PySem.W.Frag} {mg : Str → Option Value} {base : Heap} {R Pp C0 : Addr} {Ps : List Addr} {pT : Addr} {q0 : Str}
variable {f c z : Addr} {k : Nat} {A : Around} {outer : List Env} {s : Shared} {H0 : Hp} {E : XK}
theorem filter_no {α β : Type} {xs : List α} {f : α → β} : (xs.filter fun _ => false).map f = [] := by
  rw [List.filter_eq_nil_iff.mpr fun _ _ => by simp]
  rfl
theorem l13 (nP : pT ∉ Ps) (Z : Callees P w K mg base R Pp C0 Ps z k) (T : Txt K mg R Pp C0) (hr : Room k (A.deeper (envOfC "law" (defScope s_law) s.heap.objs.size f (.ref c)))) : ∃ t, PS (LX0 P w K mg base f c A outer s H0 E) (lb 3) t ∧ ∀ d p pd Da tb B D, TI tb → Nx (PT Ps pT q0) B (gA K C0 d p pd Da) (MI K Da pd d tb) D.nx → Nx (PT Ps pT q0) B (gA K C0 d p pd Da) (MI K Da pd d tb) (t D) := by
  obtain ⟨_, _, _, k_find, M_find⟩ := Z.find
  obtain ⟨_, _, _, k_get, M_get⟩ := Z.get
  obtain ⟨_, _, _, k_broken, M_broken⟩ := Z.broken
  have hu := hr.units
  have hu1 : (A.deeper (envOfC "law" (defScope s_law) s.heap.objs.size f (.ref c))).units + 1 < cLine := by omega
  refine ⟨_, (ps_if (PW.pt (pw_or (pt_cmpR (op_neK (K0 := K) rfl hr.units) (pe_lc (own := [("piece", 6)]) rfl sc_law.nd (pi_list (pv 1)) (blkOk_by (by show blkC Nlaw (defScope s_law) _ _ = true; decide +kernel)) (fun _ _ _ _ _ => (pg_name (i := 6) sc_law.nd rfl (.inl rfl))) (fun _ _ _ _ _ => (pts_one (pt_cmpR op_ne (pe_meth (pv 3) T.cl M_find.m M_find.ok (hr.mono k_find) M_find.b .nil passF (pa_cons (pv 6) pa_nil)) (pe_dget1 hu1 (pv 4) (pv 6) ⟨rfl, by rfl, by rfl, by rfl⟩) (nomark _)))) (fun _ _ _ _ _ => (pv 6))) (pe_lst pa_nil) (nomark _)) (pw_or (pt_cmpR (op_neK (K0 := K) rfl hr.units) (L2.pe_lock (pe_lc (own := [("piece", 6)]) rfl sc_law.nd (pi_keys (pv 4)) (blkOk_by (by show blkC Nlaw (defScope s_law) _ _ = true; decide +kernel)) (fun _ _ _ _ _ => (pg_name (i := 6) sc_law.nd rfl (.inl rfl))) (fun _ _ _ _ _ => (pts_one (pt_cmpR op_ne (pe_meth (pv 3) T.cl M_get.m M_get.ok (hr.mono k_get) M_get.b .nil passF (pa_cons (pe_dget hu1 (pv 4) (pv 6) (fun _ _ => rfl)) pa_nil)) (pv 6) (nomark _)))) (fun _ _ _ _ _ => (pv 6)))) (pe_lst pa_nil) (nomark _)) (pw_or1 (pt_cmpR (op_neK (K0 := K) rfl hr.units) (pe_meth0 (pv 3) T.cl M_broken.m M_broken.ok (hr.mono k_broken) M_broken.b .nil passF) (pe_tup pa_nil) (nomark _))))))
      (pss_one (ps_ret pe_bl)) pss_nil), fun d p pd Da tb B D ti nx => ?_⟩
  have ln := keys_len ti
  refine Nx.noIf (Et.orF ?_ (Et.orF ?_ ?_)) nx
  · refine Et.isF (Ev.op (Rb := Is K ([] : List Str)) ((Ev.lcL (K := K) (p := fun _ => false) (f := fun x : Str => x) (Ev.var rfl) (by decide) (fun x hx => Et.isF (Ev.op (Ev.meth (Ev.var rfl) rfl (Ea.cons (Ev.var rfl) Ea.nil) (oc_find nP (StQ.mu inP) ti hx)) (Ev.dget1 (K := K) (Ev.var rfl) (Ds.mu inD) (Ev.var rfl)) o2_ne) (ne_self (lookD_look tb x).symm)) (fun x _ h => nomatch h)).to filter_no) (Ev.lstL (xs := ([] : List Str)) Ea.nil (by decide)) (o2_neD (fun _ h => nomatch h) (fun _ h => nomatch h))) (ne_self rfl)
  · refine Et.isF (Ev.op (Rb := Is K ([] : List Str)) ((evKeys (K := K) (i := 4) (j := 0) (Da := Da) (tb := tb) (p := fun _ => false) (g := fun x : Str => x) rfl rfl (Nat.le_trans ln (by decide)) (fun kv od x hx => ?_) (fun _ _ _ _ h => nomatch h) rfl).to filter_no) (Ev.lstL (xs := ([] : List Str)) Ea.nil (by decide)) (o2_neD (fun _ h => nomatch h) (fun _ h => nomatch h))) (ne_self rfl)
    obtain ⟨e, he, rfl⟩ := List.mem_map.mp hx
    have hl : look tb e.1 = some e.2 := (look_t ti).mpr he
    exact Et.isF (Ev.op (Ev.meth (Ev.var rfl) rfl (Ea.cons (Ev.dget (Ev.var rfl) (Ds.atk (List.mem_cons_self ..)) (Ev.var rfl) hl) Ea.nil) (oc_get nP (StQ.mu (List.mem_cons_of_mem _ (List.mem_cons_self ..))) (smM ti) (ti.repr (List.mem_map.mpr ⟨e, he, rfl⟩)) ((look_m ti).mpr he) (ti.rgt he))) (Ev.var rfl) o2_ne) (ne_self rfl)
  · exact Et.isF (Ev.op (Ev.meth (Ev.var rfl) rfl Ea.nil (oc_broken nP (StQ.mu inP) (smM ti))) (Ev.tupL (xs := ([] : List Str)) Ea.nil (by decide)) (o2_neD (by rw [show ss (ks (mOf tb)) = ss ((mOf tb).map (·.1)) from rfl, brk_mOf ti]; exact fun _ h => nomatch h) (fun _ h => nomatch h))) (ne_self (by rw [show ss (ks (mOf tb)) = ss ((mOf tb).map (·.1)) from rfl, brk_mOf ti]))
def gN (K : PySem.W.Frag) (C0 d p pd D : Addr) (tb : List (Str × Str)) : Gm := [none, some (Is K drawn), some (At d), some (Obj p C0 (stF pd)), some (At D), none, none, none, none, none, none, none, none, some (Is K (two0 ++ tb.map (·.2))), none, none, none, none, none, none, none, none, none]
theorem l14 (T : Txt K mg R Pp C0) (hr : Room k (A.deeper (envOfC "law" (defScope s_law) s.heap.objs.size f (.ref c)))) : ∃ t, PS (LX0 P w K mg base f c A outer s H0 E) (lb 4) t ∧ ∀ d p pd Da tb B D, TI tb → Nx (PT Ps pT q0) B (gN K C0 d p pd Da tb) (MI K Da pd d tb) D.nx → Nx (PT Ps pT q0) B (gA K C0 d p pd Da) (MI K Da pd d tb) (t D) := by
  refine ⟨_, (ps_set (i := 13) sc_law.nd rfl (.inl rfl) (pe_op op_cat (pe_lst (pa_cons pe_str (pa_cons pe_str pa_nil))) (RU.pe_listVals rfl (by rfl) T.z_list (by decide +kernel) (pv 4)))), fun d p pd Da tb B D ti nx => ?_⟩
  have ln := keys_len ti
  exact Nx.set (R := Is K (two0 ++ tb.map (·.2))) (Ev.op (Ev.lstL (xs := two0) (Ea.cons Ev.str (Ea.cons Ev.str Ea.nil)) (by decide)) (Ev.listVals (Ev.var rfl) (Du.mu inD)) (o2_cat Ls.fz Ls.fz (by rw [List.length_map]; show 2 + _ ≤ _; omega))) nx
theorem l15 (nP : pT ∉ Ps) (Z : Callees P w K mg base R Pp C0 Ps z k) (T : Txt K mg R Pp C0) (hr : Room k (A.deeper (envOfC "law" (defScope s_law) s.heap.objs.size f (.ref c)))) : ∃ t, PS (LX0 P w K mg base f c A outer s H0 E) (lb 5) t ∧ ∀ d p pd Da tb B D, TI tb → Nx (PT Ps pT q0) B (gA K C0 d p pd Da) (MI K Da pd d tb) D.nx → Nx (PT Ps pT q0) B (gN K C0 d p pd Da tb) (MI K Da pd d tb) (t D) := by
  obtain ⟨_, _, _, k_missing, G_missing⟩ := Z.missing
  refine ⟨_, (ps_if (pt_cmpR (op_neK (K0 := K) rfl hr.units) (pe_callTy call_list_of (by rfl) T.z_list (by decide +kernel) (pa_cons (pe_call G_missing.ok (hr.mono k_missing) (by rfl) G_missing.g G_missing.kp G_missing.b .nil passF (pa_cons (pv 3) (pa_cons (pv 13) pa_nil))) pa_nil)) (pe_callB cr_sortedS (by rfl) T.z_sorted (by decide +kernel) (pa_cons (pe_lc (own := [("name", 14)]) rfl sc_law.nd (pi_list (pe_lst (pa_cons pe_str (pa_cons pe_str pa_nil)))) (blkOk_by (by show blkC Nlaw (defScope s_law) _ _ = true; decide +kernel)) (fun _ _ _ _ _ => (pg_name (i := 14) sc_law.nd rfl (.inl rfl))) (fun _ _ _ _ _ => (pts_one (pt_cmpR (RU.op_notInVals rfl) (pv 14) (RU.pe_vals (pv 4)) (by with_unfolding_all rfl)))) (fun _ _ _ _ _ => (pv 14))) pa_nil)) (nomark _))
      (pss_one (ps_ret pe_bl)) pss_nil), fun d p pd Da tb B D ti nx => ?_⟩
  have ln := keys_len ti
  have ok2 : ∀ x ∈ ss (two0.filter fun x => !decide (x ∈ tb.map (·.2))), Dq.ok x := fun x hx => ok_two0 x (by rw [ss_mem] at hx; exact (List.mem_filter.mp hx).1)
  refine Nx.noIf (Et.isF (Ev.op (Ra := Is K (ss (two0.filter fun x => !decide (x ∈ tb.map (·.2))))) (Rb := Is K (ss (two0.filter fun x => !decide (x ∈ tb.map (·.2))))) (Ev.cb (Ea.cons ((Ev.call (Ea.cons (Ev.var rfl) (Ea.cons (Ev.var rfl) Ea.nil)) (oc_missing nP (StQ.mu inP) (miss_nd ti) (miss_len ti))).to (congrArg (fun l => Tl.mk (ss l)) (miss_is ti))) Ea.nil) (oc_list Sq.tl))
    ((Ev.cb (Ea.cons (Ev.lcL (K := K) (xs := two0) (p := fun x => !decide (x ∈ tb.map (·.2))) (f := fun x : Str => x) (Ev.lstL (xs := two0) (Ea.cons Ev.str (Ea.cons Ev.str Ea.nil)) (by decide)) (by decide) (fun x _ => Et.is (Ev.op (Ev.var rfl) (Ev.vals (Ev.var rfl) inD) (o2_inVals (neg := true) inD))) (fun x _ _ => Ev.var rfl)) Ea.nil) (oc_sortS Ls.fz (by rw [List.map_id']; exact Nat.lt_of_le_of_lt (List.length_filter_le _ _) (by decide)))).exiIs fun ys h => eq_ssS (by rw [List.map_id'] at h; exact h.1) h.2) (o2_neD ok2 ok2)) (ne_self rfl)) (Nx.gle nx (by (repeat' (first | exact RP.GLe.nil | apply RP.GLe.keep | apply RP.GLe.drop))))
end
end K3

set_option maxRecDepth 100000
set_option maxHeartbeats 4000000
namespace K3
open PySem PySem.Spec PyProof.Rows L2
variable {tb m m2 : List (Str × Str)} {t nm v e : Str}
theorem fold_new : ∀ (l acc : List (Str × Str)), ((acc ++ l).map (·.1)).Nodup → l.foldl (fun acc e => putS acc e.1 e.2) acc = acc ++ l
  | [], acc, _ => by simp
  | e :: r, acc, h => by
    have h0 : e.1 ∉ acc.map (·.1) := fun z => by
      rw [List.map_append, List.map_cons] at h
      exact (List.nodup_append.mp h).2.2 _ z _ (List.mem_cons_self ..) rfl
    rw [List.foldl_cons, putS_new (look_noneM h0), fold_new r _ (by simpa using h)]
    simp
theorem tabP_is (h : (m.map (·.1)).Nodup) : tabP m = m := fold_new m [] h
theorem after_is (h : ((m2 ++ m).map (·.1)).Nodup) : afterL m2 m = m2 ++ m := fold_new m m2 h
theorem keys_pr {l : List Str} : (l.map (prS m)).map (·.1) = l := by
  rw [List.map_map]
  have : ((fun x : Str × Str => x.1) ∘ prS m) = id := rfl
  rw [this, List.map_id]
theorem foldl_if {α β : Type} (p : α → Bool) (g : β → α → β) : ∀ (l : List α) (c : β), l.foldl (fun c x => if p x = true then g c x else c) c = (l.filter p).foldl g c
  | [], _ => rfl
  | x :: r, c => by
    rw [List.foldl_cons, List.filter_cons]
    by_cases h : p x = true
    · rw [if_pos h, if_pos h, List.foldl_cons, foldl_if p g r]
    · rw [if_neg h, if_neg h, foldl_if p g r]
theorem frL_is {xs : List Str} (h : xs.Nodup) : frL m m2 xs = (xs.filter (need m2)).map (prS m) := by
  unfold frL
  rw [foldl_if (need m2) (fun acc nm => putS acc nm ((look m nm).getD Str.empty))]
  have e := foldl_map' (fun acc (e : Str × Str) => putS acc e.1 e.2) (prS m) (xs.filter (need m2)) []
  have e2 : (xs.filter (need m2)).foldl (fun acc nm => putS acc nm ((look m nm).getD Str.empty)) [] = (xs.filter (need m2)).foldl (fun c x => putS c (prS m x).1 (prS m x).2) [] := rfl
  rw [e2, e]
  exact fold_new _ [] (by rw [List.nil_append, keys_pr]; exact h.sublist List.filter_sublist)
theorem need_is (o : OI tb m2) (h : TI tb) (hx : nm ∈ tb.map (·.2)) : need m2 nm = !decide (nm ∈ m2.map (·.1)) := by
  unfold need
  by_cases c : nm ∈ m2.map (·.1)
  · obtain ⟨w, h1, h2⟩ := o.at c
    rw [h1, decide_eq_true c]
    show (!right nm w) = !true
    rw [h.rgt h2]
  · rw [look_noneM c, decide_eq_false c]
    rfl
theorem OI.okN (o : OI tb m2) (h : TI tb) (hx : nm ∈ tb.map (·.2)) : K3.okN (mOf tb) m2 nm := by
  obtain ⟨v, h1, h2, h3⟩ := h.at hx
  refine ⟨v, h1, h2, ?_⟩
  by_cases c : nm ∈ m2.map (·.1)
  · obtain ⟨w, e1, e2⟩ := o.at c
    exact .inr (by rw [e1, h.fun2 e2 h3])
  · exact .inl (by rw [need_is o h hx, decide_eq_false c]; rfl)
/-- what was lacking -/
def frs' (tb m2 : List (Str × Str)) : List Str := (tb.map (·.2)).filter fun x => !decide (x ∈ m2.map (·.1))
theorem fr_is (o : OI tb m2) (h : TI tb) : frL (mOf tb) m2 (tb.map (·.2)) = (frs' tb m2).map (prS (mOf tb)) := by
  rw [frL_is h.vn]
  unfold frs'
  rw [List.filter_congr fun x hx => need_is o h hx]
theorem full_nd (o : OI tb m2) (h : TI tb) : ((m2 ++ (frs' tb m2).map (prS (mOf tb))).map (·.1)).Nodup := by
  rw [List.map_append, keys_pr]
  refine List.nodup_append.mpr ⟨o.nd, h.vn.sublist List.filter_sublist, fun a ha b hb z => ?_⟩
  have := (List.mem_filter.mp hb).2
  rw [← z] at this
  simp only [Bool.not_eq_true', decide_eq_false_iff_not] at this
  exact this ha
theorem after_full (o : OI tb m2) (h : TI tb) : afterL m2 (frL (mOf tb) m2 (tb.map (·.2))) = m2 ++ (frs' tb m2).map (prS (mOf tb)) := by
  rw [fr_is o h]
  exact after_is (full_nd o h)
/-- a copy of the store -/
structure FI (tb m3 : List (Str × Str)) : Prop extends OI tb m3 where
  all : ∀ e ∈ tb, e.2 ∈ m3.map (·.1)
theorem full_FI (o : OI tb m2) (h : TI tb) : FI tb (m2 ++ (frs' tb m2).map (prS (mOf tb))) := by
  refine ⟨⟨full_nd o h, fun e he => ?_⟩, fun e he => ?_⟩
  · rcases List.mem_append.mp he with he | he
    · exact o.mem e he
    · obtain ⟨x, hx, rfl⟩ := List.mem_map.mp he
      obtain ⟨v, h1, _, h3⟩ := h.at (List.mem_filter.mp hx).1
      show ((look (mOf tb) x).getD Str.empty, x) ∈ tb
      rw [h1]
      exact h3
  · rw [List.map_append, keys_pr]
    by_cases c : e.2 ∈ m2.map (·.1)
    · exact List.mem_append_left _ c
    · exact List.mem_append_right _ (List.mem_filter.mpr ⟨List.mem_map.mpr ⟨e, he, rfl⟩, by rw [decide_eq_false c]; rfl⟩)
theorem FI.look (o : FI tb m2) (h : TI tb) (hx : (v, nm) ∈ tb) : K3.look m2 nm = some v := by
  obtain ⟨w, h1, h2⟩ := o.toOI.at (o.all _ hx)
  rw [h1, h.fun2 h2 hx]
theorem FI.perm (o : FI tb m2) (h : TI tb) : (m2.map (·.1)).Perm (tb.map (·.2)) := by
  refine (List.perm_ext_iff_of_nodup o.nd h.vn).mpr fun x => ⟨fun hx => ?_, fun hx => ?_⟩
  · obtain ⟨e, he, rfl⟩ := List.mem_map.mp hx
    exact List.mem_map.mpr ⟨_, o.mem e he, rfl⟩
  · obtain ⟨e, he, rfl⟩ := List.mem_map.mp hx
    exact o.all e he
theorem FI.shown (o : FI tb m2) (h : TI tb) : (ss (m2.map (·.1))).map (prS m2) = (ss ((mOf tb).map (·.1))).map (prS (mOf tb)) := by
  rw [ss_congr (o.perm h), ks_mOf]
  refine List.map_congr_left fun x hx => ?_
  rw [ss_mem] at hx
  obtain ⟨v, h1, _, h3⟩ := h.at hx
  show (x, (K3.look m2 x).getD Str.empty) = (x, (K3.look (mOf tb) x).getD Str.empty)
  rw [h1, o.look h h3]
/-! ### a piece broken and mended -/
theorem look_putS {a x : Str} : look (putS m a t) x = if x = a then some t else look m x := by
  unfold putS look
  split
  · rename_i h
    rw [List.find?_map]
    have e1 : ((fun e : Str × Str => decide (e.1 = x)) ∘ fun e : Str × Str => if e.1 = a then (a, t) else e) = fun e => decide (e.1 = x) := by
      funext e
      by_cases c : e.1 = a
      · simp [c]
      · simp [c]
    rw [e1]
    by_cases c : x = a
    · rw [if_pos c]
      subst c
      obtain ⟨e, he, z⟩ := List.any_eq_true.mp h
      cases q : m.find? fun e => decide (e.1 = x) with
      | none => exact absurd z (List.find?_eq_none.mp q e he)
      | some y =>
        have := List.find?_some q
        simp only [decide_eq_true_eq] at this
        simp [this]
    · rw [if_neg c]
      cases q : m.find? fun e => decide (e.1 = x) with
      | none => rfl
      | some y =>
        have := List.find?_some q
        simp only [decide_eq_true_eq] at this
        have c2 : ¬ y.1 = a := fun z => c (this.symm.trans z)
        simp [c2]
  · rename_i h
    rw [List.find?_append]
    by_cases c : x = a
    · rw [if_pos c]
      subst c
      have : m.find? (fun e => decide (e.1 = x)) = none := List.find?_eq_none.mpr fun e he z => h (List.any_eq_true.mpr ⟨e, he, z⟩)
      rw [this]
      simp
    · rw [if_neg c]
      have : [(a, t)].find? (fun e : Str × Str => decide (e.1 = x)) = none := by
        have : ¬ a = x := fun z => c z.symm
        simp [this]
      rw [this, Option.or_none]
theorem ks_putS (h : nm ∈ m.map (·.1)) : (putS m nm t).map (·.1) = m.map (·.1) := by
  unfold putS
  obtain ⟨e, he, z⟩ := List.mem_map.mp h
  rw [if_pos (List.any_eq_true.mpr ⟨e, he, decide_eq_true z⟩), List.map_map]
  refine List.map_congr_left fun e _ => ?_
  show (if e.1 = nm then (nm, t) else e).1 = e.1
  split
  · rename_i c; exact c.symm
  · rfl
theorem putS_back (nd : (m.map (·.1)).Nodup) (h : look m nm = some v) : putS (putS m nm t) nm v = m := by
  have h0 : nm ∈ m.map (·.1) := List.mem_map.mpr ⟨_, look_mem h, rfl⟩
  have a1 : (m.any fun e => decide (e.1 = nm)) = true := List.any_eq_true.mpr ⟨_, look_mem h, decide_eq_true rfl⟩
  have a2 : ((putS m nm t).any fun e => decide (e.1 = nm)) = true := by
    have : nm ∈ (putS m nm t).map (·.1) := by rw [ks_putS h0]; exact h0
    obtain ⟨e, he, z⟩ := List.mem_map.mp this
    exact List.any_eq_true.mpr ⟨e, he, decide_eq_true z⟩
  have e1 : putS (putS m nm t) nm v = (putS m nm t).map fun e => if e.1 = nm then (nm, v) else e := by
    conv => lhs; unfold putS
    rw [if_pos]
    · unfold putS; rfl
    · exact a2
  have e2 : putS m nm t = m.map fun e => if e.1 = nm then (nm, t) else e := by
    unfold putS
    rw [if_pos a1]
  rw [e1, e2, List.map_map]
  refine (List.map_congr_left fun e he => ?_).trans (List.map_id m)
  by_cases c : e.1 = nm
  · have : look m nm = some e.2 := look_of_mem nd (by rw [← c]; exact he)
    rw [h] at this
    have : v = e.2 := Option.some.inj this
    simp only [Function.comp, c, if_true, id]
    rw [this, ← c]
  · simp only [Function.comp, c, if_false, id]
theorem filter_one {l : List Str} {p : Str → Bool} (nd : l.Nodup) (h : nm ∈ l) (hp : ∀ x ∈ l, p x = decide (x = nm)) : l.filter p = [nm] := by
  rw [List.filter_congr hp]
  have h1 : (l.filter fun x => decide (x = nm)).Nodup := nd.sublist List.filter_sublist
  have h2 : nm ∈ l.filter fun x => decide (x = nm) := List.mem_filter.mpr ⟨h, decide_eq_true rfl⟩
  have h3 : ∀ x ∈ l.filter (fun x => decide (x = nm)), x = nm := fun x hx => of_decide_eq_true (List.mem_filter.mp hx).2
  cases q : l.filter fun x => decide (x = nm) with
  | nil => rw [q] at h2; cases h2
  | cons a r =>
    rw [q] at h1 h3
    have ea := h3 a (List.mem_cons_self ..)
    cases r with
    | nil => rw [ea]
    | cons b s =>
      have eb := h3 b (List.mem_cons_of_mem _ (List.mem_cons_self ..))
      exact absurd (ea.trans eb.symm) fun z => (List.nodup_cons.mp h1).1 (by rw [z]; exact List.mem_cons_self ..)
theorem else_wrong : ∀ x ∈ drawn, ∀ n < 9, right (nmS x n) (elseS x) = false := by decide +kernel
theorem else_small : ∀ x ∈ drawn, (elseS x).length ≤ 100 ∧ ∀ c ∈ chs (elseS x), c ≤ 1000 := by decide +kernel
theorem TI.wrong (h : TI tb) (hx : (v, nm) ∈ tb) : K3.right nm (elseS v) = false := by
  obtain ⟨n, hn, en⟩ := h.nm _ hx
  have en : nm = nmS v n := en
  rw [en]
  exact else_wrong v (h.kd _ hx) n hn
/-- a table with one piece put, its names the same -/
theorem brk_one (h : TI tb) (hx : (v, nm) ∈ tb) : brk (putS (mOf tb) nm (elseS v)) (ss ((putS (mOf tb) nm (elseS v)).map (·.1))) = [nm] := by
  have hk : nm ∈ (mOf tb).map (·.1) := by rw [ks_mOf]; exact List.mem_map.mpr ⟨_, hx, rfl⟩
  rw [ks_putS hk, ks_mOf]
  unfold brk
  refine filter_one ((ss_perm _).nodup_iff.mpr h.vn) (ss_mem.mpr (List.mem_map.mpr ⟨_, hx, rfl⟩)) fun x hx' => ?_
  rw [look_putS]
  by_cases c : x = nm
  · rw [if_pos c, c, Option.getD_some, h.wrong hx]
    simp
  · rw [if_neg c]
    rw [ss_mem] at hx'
    obtain ⟨w, h1, h2, _⟩ := h.at hx'
    rw [h1, Option.getD_some, h2, decide_eq_false c]
    rfl
theorem sm_put {m : List (Str × Str)} (h : SmM m) (hk : nm ∈ m.map (·.1)) (st : SmT t) : SmM (putS m nm t) := by
  obtain ⟨h1, h2⟩ := h
  obtain ⟨e, he, z⟩ := List.mem_map.mp hk
  have e2 : putS m nm t = m.map fun e => if e.1 = nm then (nm, t) else e := by
    unfold putS
    rw [if_pos (List.any_eq_true.mpr ⟨e, he, decide_eq_true z⟩)]
  rw [e2]
  refine ⟨by rw [List.length_map]; exact h1, fun y hy => ?_⟩
  obtain ⟨y', hy', rfl⟩ := List.mem_map.mp hy
  split
  · exact ⟨by rw [← z]; exact (h2 e he).1, st⟩
  · exact h2 y' hy'
end K3

set_option maxRecDepth 100000
set_option maxHeartbeats 4000000
namespace K3
open PySem PySem.Spec PyProof.Rows L2
open RP hiding Tb Tb.not Tb.upd Gm
open RP (Gm)
section
variable {P : Program} {w : World} {K : PySem.W.Frag} {mg : Str → Option Value} {base : Heap} {R Pp C0 : Addr} {Ps : List Addr} {pT : Addr} {q0 : Str}
variable {f c z : Addr} {k : Nat} {A : Around} {outer : List Env} {s : Shared} {H0 : Hp} {E : XK}
def gO (K : PySem.W.Frag) (C0 d p pd D p2 pd2 : Addr) : Gm := [none, some (Is K drawn), some (At d), some (Obj p C0 (stF pd)), some (At D), none, none, none, none, none, none, none, none, none, none, some (Obj p2 C0 (stF pd2)), none, none, none, none, none, none, none]
def gH (K : PySem.W.Frag) (C0 d p pd D p2 pd2 : Addr) (had : List Str) : Gm := [none, some (Is K drawn), some (At d), some (Obj p C0 (stF pd)), some (At D), none, none, none, none, none, none, none, none, none, none, some (Obj p2 C0 (stF pd2)), none, some (Is K had), none, none, none, none, none]
def gF (K : PySem.W.Frag) (C0 d p pd D p2 pd2 : Addr) (had fresh : List Str) : Gm := [none, some (Is K drawn), some (At d), some (Obj p C0 (stF pd)), some (At D), none, none, none, none, none, none, none, none, none, none, some (Obj p2 C0 (stF pd2)), none, some (Is K had), some (Is K (Tl.mk fresh)), none, none, none, none]
def MO (K : PySem.W.Frag) (D pd d pd2 : Addr) (tb m2 : List (Str × Str)) : Mu := (pd2, StM m2) :: MI K D pd d tb
theorem inP2 {D pd d pd2 : Addr} {tb m2 : List (Str × Str)} : (pd, StM (mOf tb)) ∈ MO K D pd d pd2 tb m2 := List.mem_cons_of_mem _ inP
theorem inD2 {D pd d pd2 : Addr} {tb m2 : List (Str × Str)} : (D, DicM K tb) ∈ MO K D pd d pd2 tb m2 := List.mem_cons_of_mem _ inD
theorem inO2 {D pd d pd2 : Addr} {tb m2 : List (Str × Str)} : (pd2, StM m2) ∈ MO K D pd d pd2 tb m2 := List.mem_cons_self ..
theorem inE2 {D pd d pd2 : Addr} {tb m2 : List (Str × Str)} : (d, DiceM) ∈ MO K D pd d pd2 tb m2 := by simp [MO, MI]
theorem l16 (nP : pT ∉ Ps) (Z : Callees P w K mg base R Pp C0 Ps z k) (T : Txt K mg R Pp C0) (hr : Room k (A.deeper (envOfC "law" (defScope s_law) s.heap.objs.size f (.ref c)))) : ∃ t, PS (LX0 P w K mg base f c A outer s H0 E) (lb 6) t ∧ ∀ d p pd Da tb B D, TI tb → (∀ p2 pd2 m2, OI tb m2 → Nx (PT Ps pT q0) B (gO K C0 d p pd Da p2 pd2) (MO K Da pd d pd2 tb m2) D.nx) → Nx (PT Ps pT q0) B (gA K C0 d p pd Da) (MI K Da pd d tb) (t D) := by
  obtain ⟨_, _, _, k_mk, MK, FI, BI, ds, VD, BD⟩ := Z.mkr
  obtain ⟨_, _, _, k_shown, M_shown⟩ := Z.shown
  obtain ⟨_, _, _, k_law_roll, G_law_roll⟩ := Z.roll
  refine ⟨_, (ps_set (i := 15) sc_law.nd rfl (.inl rfl) (pe_make MK FI (hr.mono k_mk) (by rfl) T.g_Store BI .nil passF (pa_cons (pe_lc (own := [("row", 16)]) rfl sc_law.nd (pi_tup (pe_meth0 (pv 3) T.cl M_shown.m M_shown.ok (hr.mono k_shown) M_shown.b .nil passF)) (blkOk_by (by show blkC Nlaw (defScope s_law) _ _ = true; decide +kernel)) (fun _ _ _ _ _ => (pg_name (i := 16) sc_law.nd rfl (.inl rfl))) (fun _ _ _ _ _ => (pts_one (pt_cmpR op_eq (pe_call G_law_roll.ok (hr.mono k_law_roll) (by rfl) G_law_roll.g G_law_roll.kp G_law_roll.b .nil passF (pa_cons (pv 2) (pa_cons pe_int pa_nil))) pe_int (nomark _)))) (fun _ _ _ _ _ => (pv 16))) pa_nil))), fun d p pd Da tb B D ti nx => ?_⟩
  have ln := keys_len ti
  have hlen : ((ss (ks (mOf tb))).map (prS (mOf tb))).length ≤ 6 := by
    rw [List.length_map, (ss_perm _).length_eq, ks_m, List.length_map]
    exact ln
  refine Nx.setS (EvS.make1 nP (Ea.cons (Ev.lcSub (K := K) (xs := (ss (ks (mOf tb))).map (prS (mOf tb))) (Ei.tup (Ev.meth (Ev.var rfl) rfl Ea.nil (oc_shown nP (StQ.mu inP) (smM ti)))) (fun _ h => nomatch h) (by show ((ss (ks (mOf tb))).map (prS (mOf tb))).length ≤ _; omega) (fun x => _) (fun x _ => Eg.name) (fun k hk => hk) (fun x _ => Et.of (Ev.op (Ev.call (Ea.cons (Ev.var rfl) (Ea.cons Ev.int Ea.nil)) (oc_roll (K := K) (by simp [MI]) (by decide) (by decide))) (Rb := Is K (0 : Int)) Ev.int (O2.exi fun r _ => O2.bl o2_eq trivial))) (fun x _ => Ev.var rfl)) Ea.nil) fun xs h => by
      have := h.length_le
      omega) fun R1 M1 h => ?_
  obtain ⟨p2, pd2, xs, px, rfl, rfl⟩ := h
  have o := OI.rows ti px
  rw [tabP_is o.nd]
  exact nx p2 pd2 xs o
theorem l17 (nP : pT ∉ Ps) (Z : Callees P w K mg base R Pp C0 Ps z k) (T : Txt K mg R Pp C0) (hr : Room k (A.deeper (envOfC "law" (defScope s_law) s.heap.objs.size f (.ref c)))) : ∃ t, PS (LX0 P w K mg base f c A outer s H0 E) (lb 7) t ∧ ∀ d p pd Da tb p2 pd2 m2 B D, TI tb → OI tb m2 → Nx (PT Ps pT q0) B (gH K C0 d p pd Da p2 pd2 (ss (ks m2))) (MO K Da pd d pd2 tb m2) D.nx → Nx (PT Ps pT q0) B (gO K C0 d p pd Da p2 pd2) (MO K Da pd d pd2 tb m2) (t D) := by
  obtain ⟨_, _, _, k_names, M_names⟩ := Z.names
  refine ⟨_, (ps_set (i := 17) sc_law.nd rfl (.inr rfl) (pe_callTy call_list_of (by rfl) T.z_list (by decide +kernel) (pa_cons (pe_meth0 (pv 15) T.cl M_names.m M_names.ok (hr.mono k_names) M_names.b .nil passF) pa_nil))), fun d p pd Da tb p2 pd2 m2 B D ti o nx => ?_⟩
  exact Nx.set (Ev.cb (Ea.cons (Ev.meth (Ev.var rfl) rfl Ea.nil (oc_names nP (StQ.mu inO2) (o.sm ti))) Ea.nil) (oc_list Sq.tl)) nx
theorem l18 (nP : pT ∉ Ps) (Z : Callees P w K mg base R Pp C0 Ps z k) (T : Txt K mg R Pp C0) (hr : Room k (A.deeper (envOfC "law" (defScope s_law) s.heap.objs.size f (.ref c)))) : ∃ t, PS (LX0 P w K mg base f c A outer s H0 E) (lb 8) t ∧ ∀ d p pd Da tb p2 pd2 m2 B D, TI tb → OI tb m2 → Nx (PT Ps pT q0) B (gF K C0 d p pd Da p2 pd2 (ss (ks m2)) (ss (frs' tb m2))) (MO K Da pd d pd2 tb (m2 ++ (frs' tb m2).map (prS (mOf tb)))) D.nx → Nx (PT Ps pT q0) B (gH K C0 d p pd Da p2 pd2 (ss (ks m2))) (MO K Da pd d pd2 tb m2) (t D) := by
  obtain ⟨_, _, _, k_copied, G_copied⟩ := Z.copied
  refine ⟨_, (ps_set (i := 18) sc_law.nd rfl (.inl rfl) (pe_call G_copied.ok (hr.mono k_copied) (by rfl) G_copied.g G_copied.kp G_copied.b .nil passF (pa_cons (pv 3) (pa_cons (pv 15) (pa_cons (RU.pe_listVals rfl (by rfl) T.z_list (by decide +kernel) (pv 4)) pa_nil))))), fun d p pd Da tb p2 pd2 m2 B D ti o nx => ?_⟩
  have ln := keys_len ti
  refine Nx.setS (EvS.call (Ea.cons (Ev.var rfl) (Ea.cons (Ev.var rfl) (Ea.cons (Ev.listVals (Ev.var rfl) (Du.mu inD2)) Ea.nil))) (oc_copied nP (j := 0) (StQ.mu inP2) rfl (smM ti) (o.sm ti) (by rw [List.length_map]; omega) (fun x hx => ti.repr hx) (fun x hx => o.okN ti hx))) fun R1 M1 h => ?_
  obtain ⟨rfl, rfl⟩ := h
  rw [after_full o ti, fr_is o ti, show ((frs' tb m2).map (prS (mOf tb))).map (fun x => x.1) = frs' tb m2 from keys_pr]
  exact nx
theorem l19 (nP : pT ∉ Ps) (Z : Callees P w K mg base R Pp C0 Ps z k) (T : Txt K mg R Pp C0) (hr : Room k (A.deeper (envOfC "law" (defScope s_law) s.heap.objs.size f (.ref c)))) : ∃ t, PS (LX0 P w K mg base f c A outer s H0 E) (lb 9) t ∧ ∀ d p pd Da tb p2 pd2 m2 m3 B D, TI tb → FI tb m3 → Nx (PT Ps pT q0) B (gO K C0 d p pd Da p2 pd2) (MO K Da pd d pd2 tb m3) D.nx → Nx (PT Ps pT q0) B (gF K C0 d p pd Da p2 pd2 (ss (ks m2)) (ss (frs' tb m2))) (MO K Da pd d pd2 tb m3) (t D) := by
  obtain ⟨_, _, _, k_names, M_names⟩ := Z.names
  obtain ⟨_, _, _, k_shown, M_shown⟩ := Z.shown
  refine ⟨_, (ps_if (PW.pt (pw_or (pt_cmpR (op_neK (K0 := K) rfl hr.units) (pe_callTy call_list_of (by rfl) T.z_list (by decide +kernel) (pa_cons (pv 18) pa_nil)) (pe_lc (own := [("name", 14)]) rfl sc_law.nd (pi_tup (pe_meth0 (pv 3) T.cl M_names.m M_names.ok (hr.mono k_names) M_names.b .nil passF)) (blkOk_by (by show blkC Nlaw (defScope s_law) _ _ = true; decide +kernel)) (fun _ _ _ _ _ => (pg_name (i := 14) sc_law.nd rfl (.inl rfl))) (fun _ _ _ _ _ => (pts_one (pt_cmpR (op_notInK (K0 := K) rfl) (pv 14) (pv 17) (by with_unfolding_all rfl)))) (fun _ _ _ _ _ => (pv 14))) (nomark _)) (pw_or1 (pt_cmpR (op_neK (K0 := K) rfl hr.units) (pe_meth0 (pv 15) T.cl M_shown.m M_shown.ok (hr.mono k_shown) M_shown.b .nil passF) (pe_meth0 (pv 3) T.cl M_shown.m M_shown.ok (hr.mono k_shown) M_shown.b .nil passF) (nomark _)))))
      (pss_one (ps_ret pe_bl)) pss_nil), fun d p pd Da tb p2 pd2 m2 m3 B D ti o nx => ?_⟩
  have ln := keys_len ti
  have okA : ∀ x ∈ ss (frs' tb m2), Dq.ok x := fun x hx => ti.okN x (by rw [ss_mem] at hx; exact (List.mem_filter.mp hx).1)
  refine Nx.noIf (Et.orF ?_ ?_) (Nx.gle nx (by (repeat' (first | exact RP.GLe.nil | apply RP.GLe.keep | apply RP.GLe.drop))))
  · refine Et.isF (Ev.op (Ev.cb (Ea.cons (Ev.var rfl) Ea.nil) (oc_list Sq.tl)) ((Ev.lcOf (K := K) (xs := ss (ks (mOf tb))) (p := fun x => !decide (x ∈ ss (ks m2))) (f := fun x : Str => x) (Ei.tup (Ev.meth (Ev.var rfl) rfl Ea.nil (oc_names nP (StQ.mu inP2) (smM ti)))) (fun _ h => nomatch h) (by rw [(ss_perm _).length_eq, ks_m, List.length_map]; omega) (fun x => _) (fun x _ => Eg.name) (fun k hk => hk) (fun x _ => Et.is (Ev.op (Ev.var rfl) (Ev.var rfl) (o2_inS (neg := true) (Ls.sq Ls.fz)))) (fun x _ _ => Ev.var rfl)).to (y := ss (frs' tb m2)) ?_) (o2_neD okA okA)) (ne_self rfl)
    rw [List.map_id', ss_filter, ks_m]
    unfold frs'
    refine congrArg ss (List.filter_congr fun x _ => ?_)
    rw [decide_eq_decide.mpr ss_mem]
  · exact Et.isF (Ev.op (Ev.meth (Ev.var rfl) rfl Ea.nil (oc_shown nP (StQ.mu inO2) (o.toOI.sm ti))) (Ev.meth (Ev.var rfl) rfl Ea.nil (oc_shown nP (StQ.mu inP2) (smM ti))) (o2_neD (fun x hx => ti.okP o.mem x hx) (fun x hx => ti.okP mem_mOf x hx))) (ne_self (congrArg Tl.mk (o.shown ti)))
end
end K3

set_option maxRecDepth 100000
set_option maxHeartbeats 4000000
namespace K3
open PySem PySem.Spec PyProof.Rows L2
open RP hiding Tb Tb.not Tb.upd Gm
open RP (Gm)
section
variable {P : Program} {w : World} {K : PySem.W.Frag} {mg : Str → Option Value} {base : Heap} {R Pp C0 : Addr} {Ps : List Addr} {pT : Addr} {q0 : Str}
variable {f c z : Addr} {k : Nat} {A : Around} {outer : List Env} {s : Shared} {H0 : Hp} {E : XK}
variable {B : Bs} {M M' : Mu} {G : Gm} {Ra Rb : VRel} {td ty tv te : TE} {D : L2.Ends} {m m2 : List (Str × Str)}
theorem kvs_kvS {F : Hp} : ∀ m : List (Str × Str), Kvs K F (kvS m) m
  | [] => .nil
  | e :: r => .cons ⟨rfl, rfl⟩ (kvs_kvS r)
theorem Ds.stm {PT : Tbs} {pd : Addr} (h : (pd, StM m) ∈ M) : Ds PT M K (At pd) m := fun F H v s e => by
  obtain ⟨o, h1, rfl⟩ := s.mu _ h
  exact ⟨pd, _, e, .inl h1, kvs_kvS m⟩
theorem Nx.dputS {PT : Tbs} {nm t : Str} {j : Nat} {a : Addr} (hv : Ev PT G M tv (Is K t)) (hd : Ev PT G M td (At a)) (hy : Ev PT G M ty (Is K nm)) (hj : M[j]? = some (a, StM m)) (ln : m.length ≤ 10000) (nx : Nx PT B G (M.set j (a, StM (putS m nm t))) D.nx) : Nx PT B G M (sDPut td ty tv D) := fun σ F H s =>
  hv σ F H _ s.en s.sh fun v F1 H1 e1 r1 => hd σ F1 H1 _ (s.en.mono e1.le) (s.sh.evo e1) fun d F2 H2 e2 r2 => hy σ F2 H2 _ ((s.en.mono e1.le).mono e2.le) ((s.sh.evo e1).evo e2) fun y F3 H3 e3 r3 => by
    have s3 := ((s.evo e1).evo e2).evo e3
    cases r2
    cases r1
    cases r3
    obtain ⟨o, h1, rfl⟩ := s3.sh.mu _ (List.mem_of_getElem? hj)
    have ll : (kvS m).length = m.length := List.length_map ..
    have s4 := s3.wr (r' := StM (putS m nm t)) (o := .dK (putK (kvS m) (.inr nm) (.str t))) hj rfl (by rw [kvS_put]; rfl)
    have big : 200000 ≤ sizeLine := by decide
    have lt0 : (kvS m).length < sizeLine := by omega
    exact ⟨a, _, rfl, DPut.k (k := .inr nm) h1 lt0, nx σ F3 _ s4⟩
theorem un_mk (nP : pT ∉ Ps) : ∀ e ∈ PT Ps pT q0, e.1 = pT → e.2 = some q0 := fun e he z => by
  rcases List.mem_cons.mp he with rfl | he
  · rfl
  · obtain ⟨p, hp, rfl⟩ := List.mem_map.mp he
    exact absurd (show p ∈ Ps from hp) (by rw [show p = pT from z]; exact nP)
theorem StQ.muN {PT : Tbs} {p pd pn : Addr} {r : MRel} (hm : (pd, StM m) ∈ M) (hn : (pn, r) ∈ M) (ne : ∀ (hnd : (M.map (·.1)).Nodup), pn ≠ pd) : StQ PT C0 M (Obj p C0 (stF pd)) m (fun a => pn ≠ a) := fun F H v s r1 => by
  obtain ⟨p', pd', e, st, e2⟩ := StQ.mu hm F H v s r1
  exact ⟨p', pd', e, st, by rw [e2]; exact ne s.nd⟩
theorem EvS.imp' {PT : Tbs} {P1 P2 : VRel → Mu → Prop} (h : EvS PT B G M te P1) (k : ∀ R M', P1 R M' → P2 R M') : EvS PT B G M te P2 := fun σ F H Q s q => h σ F H Q s fun R M' v F' H' p => q R M' v F' H' (k R M' p)
def lt (i : Nat) : Stmt := nthS (forB (lb 10)) i
def gT (K : PySem.W.Frag) (C0 d p pd D p2 pd2 : Addr) (nm : Str) : Gm := [none, some (Is K drawn), some (At d), some (Obj p C0 (stF pd)), some (At D), none, none, none, none, none, none, none, none, none, some (Is K nm), some (Obj p2 C0 (stF pd2)), none, none, none, none, none, none, none]
def gV (K : PySem.W.Frag) (C0 d p pd D p2 pd2 : Addr) (nm v : Str) : Gm := [none, some (Is K drawn), some (At d), some (Obj p C0 (stF pd)), some (At D), none, none, none, none, none, none, none, none, none, some (Is K nm), some (Obj p2 C0 (stF pd2)), none, none, none, some (Is K v), none, none, none]
def MX (K : PySem.W.Frag) (D pd d pd2 : Addr) (tb m m3 : List (Str × Str)) : Mu := [(pd2, StM m3), (D, DicM K tb), (pd, StM m), (d, DiceM)]
theorem inPx {Da pd d pd2 : Addr} {tb m m3 : List (Str × Str)} : (pd, StM m) ∈ MX K Da pd d pd2 tb m m3 := by simp [MX]
theorem inOx {Da pd d pd2 : Addr} {tb m m3 : List (Str × Str)} : (pd2, StM m3) ∈ MX K Da pd d pd2 tb m m3 := by simp [MX]
theorem ow_MX {Da pd d pd2 : Addr} {tb m m3 : List (Str × Str)} : ∀ e ∈ MX K Da pd d pd2 tb m m3, e.2.own = true := fun e he => by
  simp only [MX, List.mem_cons, List.not_mem_nil, or_false] at he
  rcases he with rfl | rfl | rfl | rfl <;> rfl
theorem lT0 (nP : pT ∉ Ps) (Z : Callees P w K mg base R Pp C0 Ps z k) (T : Txt K mg R Pp C0) (hr : Room k (A.deeper (envOfC "law" (defScope s_law) s.heap.objs.size f (.ref c)))) : ∃ t, PS (LX0 P w K mg base f c A outer s H0 E) (lt 0) t ∧ ∀ d p pd Da tb p2 pd2 m3 B D, TI tb → tb ≠ [] → (∀ v nm, (v, nm) ∈ tb → Nx (PT Ps pT q0) B (gT K C0 d p pd Da p2 pd2 nm) (MX K Da pd d pd2 tb (mOf tb) m3) D.nx) → Nx (PT Ps pT q0) B (gO K C0 d p pd Da p2 pd2) (MX K Da pd d pd2 tb (mOf tb) m3) (t D) := by
  obtain ⟨_, _, _, k_names, M_names⟩ := Z.names
  obtain ⟨_, _, _, k_law_roll, G_law_roll⟩ := Z.roll
  refine ⟨_, (ps_set (i := 14) sc_law.nd rfl (.inr rfl) (pe_ix ix_tup (pe_meth0 (pv 3) T.cl M_names.m M_names.ok (hr.mono k_names) M_names.b .nil passF) (pe_call G_law_roll.ok (hr.mono k_law_roll) (by rfl) G_law_roll.g G_law_roll.kp G_law_roll.b .nil passF (pa_cons (pv 2) (pa_cons (pe_callB call_lenD (by rfl) T.z_len (by decide +kernel) (pa_cons (pv 4) pa_nil)) pa_nil))) (fun _ _ => rfl))), fun d p pd Da tb p2 pd2 m3 B D ti ne nx => ?_⟩
  have ln := keys_len ti
  have l1 : 0 < tb.length := List.length_pos_iff.mpr ne
  refine Nx.setX (P := (· ∈ ss (ks (mOf tb)))) (Ev.op (Ev.meth (Ev.var rfl) rfl Ea.nil (oc_names nP (StQ.mu inPx) (smM ti))) (Ev.call (Ea.cons (Ev.var rfl) (Ea.cons (Ev.natI (Ev.cb (Ea.cons (Ev.var rfl) Ea.nil) (oc_lenD (l := tb) (K := K) inD2))) Ea.nil)) (oc_roll (K := K) (by simp [MX]) (by omega) (by omega))) (o2_ixTx fun i hi => by rw [(ss_perm _).length_eq, ks_m, List.length_map]; omega)) fun x hx => ?_
  rw [ss_mem, ks_m] at hx
  obtain ⟨v, _, _, h3⟩ := ti.at hx
  exact nx v x h3
theorem lT1 (T : Txt K mg R Pp C0) (hr : Room k (A.deeper (envOfC "law" (defScope s_law) s.heap.objs.size f (.ref c)))) : ∃ t, PS (LX0 P w K mg base f c A outer s H0 E) (lt 1) t ∧ ∀ d p pd Da tb p2 pd2 m3 v nm B D, TI tb → (v, nm) ∈ tb → (Nx (PT Ps pT q0) B (gV K C0 d p pd Da p2 pd2 nm v) (MX K Da pd d pd2 tb (mOf tb) m3) D.nx) → Nx (PT Ps pT q0) B (gT K C0 d p pd Da p2 pd2 nm) (MX K Da pd d pd2 tb (mOf tb) m3) (t D) := by
  have hu := hr.units
  have hu1 : (A.deeper (envOfC "law" (defScope s_law) s.heap.objs.size f (.ref c))).units + 1 < cLine := by omega
  refine ⟨_, (ps_set (i := 19) sc_law.nd rfl (.inl rfl) (pe_dget hu1 (pe_fld (pv 3) rfl) (pv 14) (fun _ _ => rfl))), fun d p pd Da tb p2 pd2 m3 v nm B D ti hx nx => ?_⟩
  exact Nx.set (Ev.dget (Ev.fld (R := At pd) (Ev.var rfl) T.cl T.nPc (stP pd) (fun _ => rfl)) (Ds.stm inPx) (Ev.var rfl) ((look_m ti).mpr hx)) nx
theorem lT2 (Z : Callees P w K mg base R Pp C0 Ps z k) (T : Txt K mg R Pp C0) (hr : Room k (A.deeper (envOfC "law" (defScope s_law) s.heap.objs.size f (.ref c)))) : ∃ t, PS (LX0 P w K mg base f c A outer s H0 E) (lt 2) t ∧ ∀ d p pd Da tb p2 pd2 m3 v nm B D, TI tb → (v, nm) ∈ tb → (Nx (PT Ps pT q0) B (gV K C0 d p pd Da p2 pd2 nm v) (MX K Da pd d pd2 tb (putS (mOf tb) nm (elseS v)) m3) D.nx) → Nx (PT Ps pT q0) B (gV K C0 d p pd Da p2 pd2 nm v) (MX K Da pd d pd2 tb (mOf tb) m3) (t D) := by
  obtain ⟨_, _, _, k_law_else, G_law_else⟩ := Z.els
  have hu := hr.units
  have hu1 : (A.deeper (envOfC "law" (defScope s_law) s.heap.objs.size f (.ref c))).units + 1 < cLine := by omega
  refine ⟨_, (ps_dput hu1 (pe_fld (pv 3) rfl) (pv 14) (pe_call G_law_else.ok (hr.mono k_law_else) (by rfl) G_law_else.g G_law_else.kp G_law_else.b .nil passF (pa_cons (pv 19) pa_nil)) rfl), fun d p pd Da tb p2 pd2 m3 v nm B D ti hx nx => ?_⟩
  exact Nx.dputS (m := mOf tb) (j := 2) (a := pd) (Ev.call (Ea.cons (Ev.var rfl) Ea.nil) (oc_else (smT_drawn v (ti.kd _ hx)).1)) (Ev.fld (R := At pd) (Ev.var rfl) T.cl T.nPc (stP pd) (fun _ => rfl)) (Ev.var rfl) rfl (by have := (smM ti).1; omega) nx
theorem lT3 (nP : pT ∉ Ps) (Z : Callees P w K mg base R Pp C0 Ps z k) (T : Txt K mg R Pp C0) (hr : Room k (A.deeper (envOfC "law" (defScope s_law) s.heap.objs.size f (.ref c)))) : ∃ t, PS (LX0 P w K mg base f c A outer s H0 E) (lt 3) t ∧ ∀ d p pd Da tb p2 pd2 m3 v nm B D, TI tb → (v, nm) ∈ tb → (Nx (PT Ps pT q0) B (gV K C0 d p pd Da p2 pd2 nm v) (MX K Da pd d pd2 tb (putS (mOf tb) nm (elseS v)) m3) D.nx) → Nx (PT Ps pT q0) B (gV K C0 d p pd Da p2 pd2 nm v) (MX K Da pd d pd2 tb (putS (mOf tb) nm (elseS v)) m3) (t D) := by
  obtain ⟨_, _, _, k_broken, M_broken⟩ := Z.broken
  refine ⟨_, (ps_if (pt_cmpR (op_neK (K0 := K) rfl hr.units) (pe_callTy call_list_of (by rfl) T.z_list (by decide +kernel) (pa_cons (pe_meth0 (pv 3) T.cl M_broken.m M_broken.ok (hr.mono k_broken) M_broken.b .nil passF) pa_nil)) (pe_lst (pa_cons (pv 14) pa_nil)) (nomark _))
      (pss_one (ps_ret pe_bl)) pss_nil), fun d p pd Da tb p2 pd2 m3 v nm B D ti hx nx => ?_⟩
  have ok1 : ∀ x ∈ [nm], Dq.ok x := fun x h => by rw [List.mem_singleton.mp h]; exact ti.okN nm (List.mem_map.mpr ⟨_, hx, rfl⟩)
  refine Nx.noIf (Et.isF (Ev.op ((Ev.cb (Ea.cons (Ev.meth (Ev.var rfl) rfl Ea.nil (oc_broken nP (StQ.mu inPx) (sm_put (smM ti) (by rw [ks_mOf]; exact List.mem_map.mpr ⟨_, hx, rfl⟩) (else_small v (ti.kd _ hx))))) Ea.nil) (oc_list Sq.tl)).to (y := [nm]) (brk_one ti hx)) (Ev.lstL (xs := [nm]) (Ea.cons (Ev.var rfl) Ea.nil) (by show 1 ≤ 100; decide)) (o2_neD ok1 ok1)) (ne_self rfl)) nx
end
end K3

set_option maxRecDepth 100000
set_option maxHeartbeats 4000000
namespace K3
open PySem PySem.Spec PyProof.Rows L2
open RP hiding Tb Tb.not Tb.upd Gm
open RP (Gm)
section
variable {P : Program} {w : World} {K : PySem.W.Frag} {mg : Str → Option Value} {base : Heap} {R Pp C0 : Addr} {Ps : List Addr} {pT : Addr} {q0 : Str}
variable {f c z : Addr} {k : Nat} {A : Around} {outer : List Env} {s : Shared} {H0 : Hp} {E : XK}
/-- the law's told, and its own table -/
structure Tol (P : Program) (w : World) (K : PySem.W.Frag) (mg : Str → Option Value) (base : Heap) (R Pp c pT : Addr) (k : Nat) : Prop where
  N : Nine K mg R Pp
  TB : LamX.TabB base mg c pT
  told : ∃ g fd, Fun K "_law_told" "_law_told" s__law_told g fd ∧ mg "_law_told" = some (.ref g) ∧ Binds K fd ["what"] []
theorem lT4 (nP : pT ∉ Ps) (Z : Callees P w K mg base R Pp C0 Ps z k) (T : Txt K mg R Pp C0) (Y : Tol P w K mg base R Pp c pT k) (hq : q0 = (LX0 P w K mg base f c A outer s H0 E).env.qual ++ "<lambda>") (hr : Room (k + 2) (A.deeper (envOfC "law" (defScope s_law) s.heap.objs.size f (.ref c)))) : ∃ t, PS (LX0 P w K mg base f c A outer s H0 E) (lt 4) t ∧ ∀ d p pd Da tb p2 pd2 m3 v nm B D, TI tb → (v, nm) ∈ tb → (Nx (PT Ps pT q0) B (gV K C0 d p pd Da p2 pd2 nm v) (MX K Da pd d pd2 tb (putS (mOf tb) nm (elseS v)) m3) D.nx) → Nx (PT Ps pT q0) B (gV K C0 d p pd Da p2 pd2 nm v) (MX K Da pd d pd2 tb (putS (mOf tb) nm (elseS v)) m3) (t D) := by
  obtain ⟨_, _, _, k_get, M_get⟩ := Z.get
  obtain ⟨g, fd, Fg, mgg, bd⟩ := Y.told
  subst hq
  refine ⟨_, ps_if (pt_cmpR op_ne (LX.pe_lamcall3 (TT := TT9 R Pp) (k := k) (Ng := ["what"]) (by rfl) mgg Fg bd sc__law_told rfl (.inl rfl) (fun cdv => told9_gives Y.N) Y.TB rfl (List.mem_singleton.mpr rfl) (fun p hp _ => by rw [List.mem_singleton.mp hp]) hr (LamX.lamS_by (by show LamX.lamSB (defScope s_law) _ = true; decide +kernel)) rfl (fun _ _ _ _ _ => rfl) (fun A outer s H E f c' hr2 => (pe_meth (pv 3) T.cl M_get.m M_get.ok (hr2.mono k_get) M_get.b .nil (passes_call (takes_of rfl rfl rfl rfl) (fun _ _ _ _ h => h)) (pa_cons (pv 14) pa_nil)))) pe_str (nomark _))
      (pss_one (ps_ret pe_bl)) pss_nil, fun d p pd Da tb p2 pd2 m3 v nm B D ti hx nx => ?_⟩
  have hk : nm ∈ (mOf tb).map (·.1) := by rw [ks_mOf]; exact List.mem_map.mpr ⟨_, hx, rfl⟩
  refine Nx.noIf (Et.isF (Ev.op (Ra := Is K (Str.ofString "piece")) (Ev.told (List.mem_cons_self ..) (un_mk nP) (EvX.meth (Ef := E9 R Pp) (Ev.var rfl) rfl (Ea.cons (Ev.var rfl) Ea.nil) (tld_getP (v := elseS v) nP (StQ.mu inPx) (sm_put (smM ti) hk (else_small v (ti.kd _ hx))) (ti.repr (List.mem_map.mpr ⟨_, hx, rfl⟩)) (by rw [look_putS, if_pos rfl]) (ti.wrong hx)))) Ev.str o2_ne) (ne_self rfl)) nx
theorem lT5 (nP : pT ∉ Ps) (Z : Callees P w K mg base R Pp C0 Ps z k) (T : Txt K mg R Pp C0) (Y : Tol P w K mg base R Pp c pT k) (hq : q0 = (LX0 P w K mg base f c A outer s H0 E).env.qual ++ "<lambda>") (hr : Room (k + 2) (A.deeper (envOfC "law" (defScope s_law) s.heap.objs.size f (.ref c)))) : ∃ t, PS (LX0 P w K mg base f c A outer s H0 E) (lt 5) t ∧ ∀ d p pd Da tb p2 pd2 m3 v nm B D, TI tb → (v, nm) ∈ tb → (Nx (PT Ps pT q0) B (gV K C0 d p pd Da p2 pd2 nm v) (MX K Da pd d pd2 tb (putS (mOf tb) nm (elseS v)) m3) D.nx) → Nx (PT Ps pT q0) B (gV K C0 d p pd Da p2 pd2 nm v) (MX K Da pd d pd2 tb (putS (mOf tb) nm (elseS v)) m3) (t D) := by
  obtain ⟨_, _, _, k_copied, G_copied⟩ := Z.copied
  obtain ⟨_, _, _, k_mk, MK, FI, BI, ds, VD, BD⟩ := Z.mkr
  obtain ⟨g, fd, Fg, mgg, bd⟩ := Y.told
  subst hq
  refine ⟨_, ps_if (pt_cmpR op_ne (LX.pe_lamcall3 (TT := TT9 R Pp) (k := k) (Ng := ["what"]) (by rfl) mgg Fg bd sc__law_told rfl (.inl rfl) (fun cdv => told9_gives Y.N) Y.TB rfl (List.mem_singleton.mpr rfl) (fun p hp _ => by rw [List.mem_singleton.mp hp]) hr (LamX.lamS_by (by show LamX.lamSB (defScope s_law) _ = true; decide +kernel)) rfl (fun _ _ _ _ _ => rfl) (fun A outer s H E f c' hr2 => (pe_call G_copied.ok (hr2.mono k_copied) (by rfl) G_copied.g G_copied.kp G_copied.b .nil (passes_call (takes_of rfl rfl rfl rfl) (fun _ _ _ _ h => h)) (pa_cons (pv 3) (pa_cons (pe_make0 MK FI (hr2.mono k_mk) (by rfl) T.g_Store BD VD passF) (pa_cons (pe_lst (pa_cons (pv 14) pa_nil)) pa_nil)))))) pe_str (nomark _))
      (pss_one (ps_ret pe_bl)) pss_nil, fun d p pd Da tb p2 pd2 m3 v nm B D ti hx nx => ?_⟩
  have hk : nm ∈ (mOf tb).map (·.1) := by rw [ks_mOf]; exact List.mem_map.mpr ⟨_, hx, rfl⟩
  refine Nx.noIf (Et.isF (Ev.op (Ra := Is K (Str.ofString "piece")) (Ev.told (List.mem_cons_self ..) (un_mk nP) (EvX.call (Ef := E9 R Pp) (Ea.cons (Ev.var rfl) (Ea.cons (Ev.make0 nP Z.hz) (Ea.cons (Ev.lstL (xs := [nm]) (Ea.cons (Ev.var rfl) Ea.nil) (by show 1 ≤ 100; decide)) Ea.nil))) (tld_cop nP (StQ.mu inPx) (StQ.fz ow_MX) (sm_put (smM ti) hk (else_small v (ti.kd _ hx))) ⟨Nat.zero_le _, fun _ h => nomatch h⟩ (ti.repr (List.mem_map.mpr ⟨_, hx, rfl⟩)) (.inr ⟨elseS v, by rw [look_putS, if_pos rfl], .inl (ti.wrong hx), rfl⟩)))) Ev.str o2_ne) (ne_self rfl)) nx
end
end K3

set_option maxRecDepth 100000
set_option maxHeartbeats 4000000
namespace K3
open PySem PySem.Spec PyProof.Rows L2
open RP hiding Tb Tb.not Tb.upd Gm
open RP (Gm)
section
variable {P : Program} {w : World} {K : PySem.W.Frag} {mg : Str → Option Value} {base : Heap} {R Pp C0 : Addr} {Ps : List Addr} {pT : Addr} {q0 : Str}
variable {f c z : Addr} {k : Nat} {A : Around} {outer : List Env} {s : Shared} {H0 : Hp} {E : XK}
variable {tb m m2 m3 : List (Str × Str)} {v nm : Str}
theorem hasR_nil : hasR [] nm = false := rfl
theorem filter_hasN {l : List Str} : l.filter (hasR []) = [] := List.filter_eq_nil_iff.mpr fun _ _ => by simp [hasR_nil]
theorem hasR_full (o : FI tb m3) (h : TI tb) (hx : (v, nm) ∈ tb) : hasR m3 nm = true := by
  unfold hasR
  rw [o.look h hx]
  exact h.rgt hx
theorem filter_hasF (o : FI tb m3) (h : TI tb) (hx : (v, nm) ∈ tb) : [nm].filter (hasR m3) = [nm] := by
  rw [List.filter_cons, if_pos (hasR_full o h hx)]
  rfl
theorem pdne {Da pd d pd2 : Addr} (h : ((MX K Da pd d pd2 tb m m3).map (·.1)).Nodup) : pd ≠ pd2 := fun z => by
  have := (List.nodup_cons.mp h).1
  exact this (by rw [z]; simp)
theorem lT6 (nP : pT ∉ Ps) (Z : Callees P w K mg base R Pp C0 Ps z k) (T : Txt K mg R Pp C0) (hr : Room k (A.deeper (envOfC "law" (defScope s_law) s.heap.objs.size f (.ref c)))) : ∃ t, PS (LX0 P w K mg base f c A outer s H0 E) (lt 6) t ∧ ∀ d p pd Da tb p2 pd2 m3 v nm B D, TI tb → FI tb m3 → (v, nm) ∈ tb → (Nx (PT Ps pT q0) B (gV K C0 d p pd Da p2 pd2 nm v) (MX K Da pd d pd2 tb (mOf tb) m3) D.nx) → Nx (PT Ps pT q0) B (gV K C0 d p pd Da p2 pd2 nm v) (MX K Da pd d pd2 tb (putS (mOf tb) nm (elseS v)) m3) (t D) := by
  obtain ⟨_, _, _, k_mended, G_mended⟩ := Z.mended
  obtain ⟨_, _, _, k_get, M_get⟩ := Z.get
  obtain ⟨_, _, _, k_mk, MK, FI', BI, ds, VD, BD⟩ := Z.mkr
  refine ⟨_, (ps_if (PW.pt (pw_or (pt_cmpR (op_neK (K0 := K) rfl hr.units) (pe_call G_mended.ok (hr.mono k_mended) (by rfl) G_mended.g G_mended.kp G_mended.b .nil passF (pa_cons (pv 3) (pa_cons (pe_make0 MK FI' (hr.mono k_mk) (by rfl) T.g_Store BD VD passF) pa_nil))) (pe_tup pa_nil) (nomark _)) (pw_or (pt_cmpR (op_neK (K0 := K) rfl hr.units) (pe_call G_mended.ok (hr.mono k_mended) (by rfl) G_mended.g G_mended.kp G_mended.b .nil passF (pa_cons (pv 3) (pa_cons (pv 15) pa_nil))) (pe_tup (pa_cons (pv 14) pa_nil)) (nomark _)) (pw_or (pt_cmpR op_ne (pe_meth (pv 3) T.cl M_get.m M_get.ok (hr.mono k_get) M_get.b .nil passF (pa_cons (pv 14) pa_nil)) (pv 19) (nomark _)) (pw_or1 (pt_cmpR (op_neK (K0 := K) rfl hr.units) (pe_call G_mended.ok (hr.mono k_mended) (by rfl) G_mended.g G_mended.kp G_mended.b .nil passF (pa_cons (pv 3) (pa_cons (pv 15) pa_nil))) (pe_tup pa_nil) (nomark _)))))))
      (pss_one (ps_ret pe_bl)) pss_nil), fun d p pd Da tb p2 pd2 m3 v nm B D ti o hx nx => ?_⟩
  have hm : nm ∈ tb.map (·.2) := List.mem_map.mpr ⟨_, hx, rfl⟩
  have hk : nm ∈ (mOf tb).map (·.1) := by rw [ks_mOf]; exact hm
  have sm1 := sm_put (t := elseS v) (smM ti) hk (else_small v (ti.kd _ hx))
  have ok1 : ∀ x ∈ [nm], Dq.ok x := fun x h => by rw [List.mem_singleton.mp h]; exact ti.okN nm hm
  have ok0 : ∀ x ∈ ([] : List Str), Dq.ok x := fun _ h => nomatch h
  refine Nx.noIfS (P1 := fun M' => M' = MX K Da pd d pd2 tb (mOf tb) m3) ?_ fun M' e => by subst e; exact nx
  refine EtS.orF (P1 := fun M' => M' = MX K Da pd d pd2 tb (putS (mOf tb) nm (elseS v)) m3) (EtS.isF (EvS.opR (Ra := Is K (Tl.mk ([] : List Str))) (EvS.imp' (EvS.call (Ea.cons (Ev.var rfl) (Ea.cons (Ev.make0 nP Z.hz) Ea.nil)) (oc_mended (K := K) nP (j := 2) rfl ((StQ.fz ow_MX).imp fun a h => h _ inPx) sm1 ⟨Nat.zero_le _, fun _ h => nomatch h⟩)) fun R1 M1 h => ?_) (fun M1 e => Ev.tupL (xs := ([] : List Str)) Ea.nil (by show 0 ≤ 100; decide)) (fun M1 e => o2_neD ok0 ok0)) (ne_self rfl)) fun M1 e => ?_
  · obtain ⟨rfl, rfl⟩ := h
    rw [filter_hasN]
    exact ⟨rfl, rfl⟩
  subst e
  refine EtS.orF (P1 := fun M' => M' = MX K Da pd d pd2 tb (mOf tb) m3) (EtS.isF (EvS.opR (Ra := Is K (Tl.mk [nm])) (EvS.imp' (EvS.call (Ea.cons (Ev.var rfl) (Ea.cons (Ev.var rfl) Ea.nil)) (oc_mended (K := K) nP (j := 2) rfl (StQ.muN inOx inPx pdne) sm1 (o.toOI.sm ti))) fun R1 M1 h => ?_) (fun M1 e => Ev.tupL (xs := [nm]) (Ea.cons (Ev.var rfl) Ea.nil) (by show 1 ≤ 100; decide)) (fun M1 e => o2_neD ok1 ok1)) (ne_self rfl)) fun M1 e => ?_
  · obtain ⟨rfl, rfl⟩ := h
    have e1 : (brk (putS (mOf tb) nm (elseS v)) (ss (ks (putS (mOf tb) nm (elseS v))))).filter (hasR m3) = [nm] := by
      rw [brk_one ti hx]
      exact filter_hasF o ti hx
    rw [e1]
    refine ⟨rfl, ?_⟩
    have e2 : setM m3 (putS (mOf tb) nm (elseS v)) [nm] = mOf tb := by
      show putS (putS (mOf tb) nm (elseS v)) nm ((look m3 nm).getD Str.empty) = mOf tb
      rw [o.look ti hx, Option.getD_some]
      exact putS_back (by rw [ks_mOf]; exact ti.vn) ((look_m ti).mpr hx)
    rw [e2]
    rfl
  subst e
  refine EtS.orF (P1 := fun M' => M' = MX K Da pd d pd2 tb (mOf tb) m3) (Et.toSF (Et.isF (Ev.op (Ev.meth (Ev.var rfl) rfl (Ea.cons (Ev.var rfl) Ea.nil) (oc_get nP (StQ.mu inPx) (smM ti) (ti.repr hm) ((look_m ti).mpr hx) (ti.rgt hx))) (Ev.var rfl) o2_ne) (ne_self rfl)) rfl) fun M1 e => ?_
  subst e
  refine EtS.isF (EvS.opR (Ra := Is K (Tl.mk ([] : List Str))) (EvS.imp' (EvS.call (Ea.cons (Ev.var rfl) (Ea.cons (Ev.var rfl) Ea.nil)) (oc_mended (K := K) nP (j := 2) rfl (StQ.muN inOx inPx pdne) (smM ti) (o.toOI.sm ti))) fun R1 M1 h => ?_) (fun M1 e => Ev.tupL (xs := ([] : List Str)) Ea.nil (by show 0 ≤ 100; decide)) (fun M1 e => o2_neD ok0 ok0)) (ne_self rfl)
  obtain ⟨rfl, rfl⟩ := h
  rw [show brk (mOf tb) (ss (ks (mOf tb))) = [] from brk_mOf ti]
  exact ⟨rfl, rfl⟩
theorem lT7 (Z : Callees P w K mg base R Pp C0 Ps z k) (T : Txt K mg R Pp C0) (hr : Room k (A.deeper (envOfC "law" (defScope s_law) s.heap.objs.size f (.ref c)))) : ∃ t, PS (LX0 P w K mg base f c A outer s H0 E) (lt 7) t ∧ ∀ d p pd Da tb p2 pd2 m3 v nm B D, TI tb → FI tb m3 → (v, nm) ∈ tb → (Nx (PT Ps pT q0) B (gV K C0 d p pd Da p2 pd2 nm v) (MX K Da pd d pd2 tb (mOf tb) (putS m3 nm (elseS v))) D.nx) → Nx (PT Ps pT q0) B (gV K C0 d p pd Da p2 pd2 nm v) (MX K Da pd d pd2 tb (mOf tb) m3) (t D) := by
  obtain ⟨_, _, _, k_law_else, G_law_else⟩ := Z.els
  have hu := hr.units
  have hu1 : (A.deeper (envOfC "law" (defScope s_law) s.heap.objs.size f (.ref c))).units + 1 < cLine := by omega
  refine ⟨_, (ps_dput hu1 (pe_fld (pv 15) rfl) (pv 14) (pe_call G_law_else.ok (hr.mono k_law_else) (by rfl) G_law_else.g G_law_else.kp G_law_else.b .nil passF (pa_cons (pv 19) pa_nil)) rfl), fun d p pd Da tb p2 pd2 m3 v nm B D ti o hx nx => ?_⟩
  exact Nx.dputS (m := m3) (j := 0) (a := pd2) (Ev.call (Ea.cons (Ev.var rfl) Ea.nil) (oc_else (smT_drawn v (ti.kd _ hx)).1)) (Ev.fld (R := At pd2) (Ev.var rfl) T.cl T.nPc (stP pd2) (fun _ => rfl)) (Ev.var rfl) rfl (by have := (o.toOI.sm ti).1; omega) nx
theorem lT8 (nP : pT ∉ Ps) (Z : Callees P w K mg base R Pp C0 Ps z k) (T : Txt K mg R Pp C0) (hr : Room k (A.deeper (envOfC "law" (defScope s_law) s.heap.objs.size f (.ref c)))) : ∃ t, PS (LX0 P w K mg base f c A outer s H0 E) (lt 8) t ∧ ∀ d p pd Da tb p2 pd2 m3 v nm B D, TI tb → FI tb m3 → (v, nm) ∈ tb → (∀ m4, Nx (PT Ps pT q0) B (gV K C0 d p pd Da p2 pd2 nm v) (MX K Da pd d pd2 tb (mOf tb) m4) D.nx) → Nx (PT Ps pT q0) B (gV K C0 d p pd Da p2 pd2 nm v) (MX K Da pd d pd2 tb (mOf tb) (putS m3 nm (elseS v))) (t D) := by
  obtain ⟨_, _, _, k_copied, G_copied⟩ := Z.copied
  obtain ⟨_, _, _, k_get, M_get⟩ := Z.get
  refine ⟨_, (ps_if (PW.pt (pw_or (pt_cmpR (op_neK (K0 := K) rfl hr.units) (pe_call G_copied.ok (hr.mono k_copied) (by rfl) G_copied.g G_copied.kp G_copied.b .nil passF (pa_cons (pv 3) (pa_cons (pv 15) (pa_cons (pe_lst (pa_cons (pv 14) pa_nil)) pa_nil)))) (pe_tup (pa_cons (pv 14) pa_nil)) (nomark _)) (pw_or1 (pt_cmpR op_ne (pe_meth (pv 15) T.cl M_get.m M_get.ok (hr.mono k_get) M_get.b .nil passF (pa_cons (pv 14) pa_nil)) (pv 19) (nomark _)))))
      (pss_one (ps_ret pe_bl)) pss_nil), fun d p pd Da tb p2 pd2 m3 v nm B D ti o hx nx => ?_⟩
  have hm : nm ∈ tb.map (·.2) := List.mem_map.mpr ⟨_, hx, rfl⟩
  have hk : nm ∈ m3.map (·.1) := o.all _ hx
  have sm4 := sm_put (t := elseS v) (o.toOI.sm ti) hk (else_small v (ti.kd _ hx))
  have hk4 : nm ∈ (putS m3 nm (elseS v)).map (·.1) := by rw [ks_putS hk]; exact hk
  have sm5 := sm_put (t := v) sm4 hk4 (smT_drawn v (ti.kd _ hx))
  have ok1 : ∀ x ∈ [nm], Dq.ok x := fun x h => by rw [List.mem_singleton.mp h]; exact ti.okN nm hm
  have nd4 : need (putS m3 nm (elseS v)) nm = true := by
    unfold need
    rw [look_putS, if_pos rfl]
    show (!right nm (elseS v)) = true
    rw [ti.wrong hx]
    rfl
  have okN4 : ∀ x ∈ [nm], okN (mOf tb) (putS m3 nm (elseS v)) x := fun x h => by
    rw [List.mem_singleton.mp h]
    exact ⟨v, (look_m ti).mpr hx, ti.rgt hx, .inl nd4⟩
  have e4 : frL (mOf tb) (putS m3 nm (elseS v)) [nm] = [(nm, v)] := by
    rw [frL_is (List.pairwise_singleton _ _), List.filter_cons, if_pos nd4]
    show [(nm, (look (mOf tb) nm).getD Str.empty)] = _
    rw [(look_m ti).mpr hx]
    rfl
  refine Nx.noIfS (P1 := fun M' => M' = MX K Da pd d pd2 tb (mOf tb) (putS (putS m3 nm (elseS v)) nm v)) ?_ fun M' e => by subst e; exact nx _
  refine EtS.orF (P1 := fun M' => M' = MX K Da pd d pd2 tb (mOf tb) (putS (putS m3 nm (elseS v)) nm v)) (EtS.isF (EvS.opR (Ra := Is K (Tl.mk [nm])) (EvS.imp' (EvS.call (Ea.cons (Ev.var rfl) (Ea.cons (Ev.var rfl) (Ea.cons (Ev.lstL (xs := [nm]) (Ea.cons (Ev.var rfl) Ea.nil) (by show 1 ≤ 100; decide)) Ea.nil))) (oc_copied (K := K) nP (j := 0) (StQ.mu inPx) rfl (smM ti) sm4 (by show 1 ≤ 40; decide) (fun x h => by rw [List.mem_singleton.mp h]; exact ti.repr hm) okN4)) fun R1 M1 h => ?_) (fun M1 e => Ev.tupL (xs := [nm]) (Ea.cons (Ev.var rfl) Ea.nil) (by show 1 ≤ 100; decide)) (fun M1 e => o2_neD ok1 ok1)) (ne_self rfl)) fun M1 e => ?_
  · obtain ⟨rfl, rfl⟩ := h
    rw [e4]
    refine ⟨?_, rfl⟩
    show Is K (Tl.mk (ss [nm])) = _
    rw [ss_one]
  · subst e
    exact Et.toSF (Et.isF (Ev.op (Ev.meth (Ev.var rfl) rfl (Ea.cons (Ev.var rfl) Ea.nil) (oc_get nP (StQ.mu inOx) sm5 (ti.repr hm) (by rw [look_putS, if_pos rfl]) (ti.rgt hx))) (Ev.var rfl) o2_ne) (ne_self rfl)) rfl
end
end K3

set_option maxRecDepth 100000
set_option maxHeartbeats 4000000
namespace K3
open PySem PySem.Spec PyProof.Rows L2
open RP hiding Tb Tb.not Tb.upd Gm
open RP (Gm)
section
variable {P : Program} {w : World} {K : PySem.W.Frag} {mg : Str → Option Value} {base : Heap} {R Pp C0 : Addr} {Ps : List Addr} {pT : Addr} {q0 : Str}
variable {f c z : Addr} {k : Nat} {A : Around} {outer : List Env} {s : Shared} {H0 : Hp} {E : XK}
theorem Ev.dnew {PT : Tbs} {G : Gm} {M : Mu} : Ev PT G M tDNewK (Is K (Dc.mk ([] : List (Str × Str)))) := fun σ F H Q e s q => fun a ha => q _ _ _ (Evo.newD (K := K) (xs := ([] : List (Str × Str))) s .nil ha).1 (Evo.newD (K := K) (xs := ([] : List (Str × Str))) s .nil ha).2
theorem if_is : forB (lb 10) = [lt 0, lt 1, lt 2, lt 3, lt 4, lt 5, lt 6, lt 7, lt 8] := rfl
def gZ : Gm := [none, none, none, none, none, none, none, none, none, none, none, none, none, none, none, none, none, none, none, none, none, none, none]
theorem l1A (nP : pT ∉ Ps) (Z : Callees P w K mg base R Pp C0 Ps z k) (T : Txt K mg R Pp C0) (Y : Tol P w K mg base R Pp c pT k) (hq : q0 = (LX0 P w K mg base f c A outer s H0 E).env.qual ++ "<lambda>") (hr2 : Room (k + 2) (A.deeper (envOfC "law" (defScope s_law) s.heap.objs.size f (.ref c)))) : ∃ t, PS (LX0 P w K mg base f c A outer s H0 E) (lb 10) t ∧ ∀ d p pd Da tb p2 pd2 m3 B D, TI tb → FI tb m3 → Nx (PT Ps pT q0) B gZ [] D.nx → Nx (PT Ps pT q0) B (gO K C0 d p pd Da p2 pd2) (MO K Da pd d pd2 tb m3) (t D) := by
  have hr := hr2.mono (show k ≤ k + 2 by omega)
  have hu := hr.units
  have hu0 : (A.deeper (envOfC "law" (defScope s_law) s.heap.objs.size f (.ref c))).units < cLine := by omega
  obtain ⟨t0, p0, h0⟩ := lT0 (pT := pT) (q0 := q0) (A := A) (outer := outer) (s := s) (H0 := H0) (E := E) nP Z T hr
  obtain ⟨t1, p1, h1⟩ := lT1 (P := P) (w := w) (base := base) (R := R) (Pp := Pp) (Ps := Ps) (pT := pT) (q0 := q0) (A := A) (outer := outer) (s := s) (H0 := H0) (E := E) (c := c) (f := f) T hr
  obtain ⟨t2, p2, h2⟩ := lT2 (pT := pT) (q0 := q0) (A := A) (outer := outer) (s := s) (H0 := H0) (E := E) Z T hr
  obtain ⟨t3, p3, h3⟩ := lT3 (q0 := q0) (A := A) (outer := outer) (s := s) (H0 := H0) (E := E) nP Z T hr
  obtain ⟨t4, p4, h4⟩ := lT4 (q0 := q0) (A := A) (outer := outer) (s := s) (H0 := H0) (E := E) nP Z T Y hq hr2
  obtain ⟨t5, p5, h5⟩ := lT5 (q0 := q0) (A := A) (outer := outer) (s := s) (H0 := H0) (E := E) nP Z T Y hq hr2
  obtain ⟨t6, p6, h6⟩ := lT6 (q0 := q0) (A := A) (outer := outer) (s := s) (H0 := H0) (E := E) nP Z T hr
  obtain ⟨t7, p7, h7⟩ := lT7 (pT := pT) (q0 := q0) (A := A) (outer := outer) (s := s) (H0 := H0) (E := E) Z T hr
  obtain ⟨t8, p8, h8⟩ := lT8 (q0 := q0) (A := A) (outer := outer) (s := s) (H0 := H0) (E := E) nP Z T hr
  refine ⟨_, (ps_if (pt_cmpR (RU.op_neF hu0) (pv 4) pe_dnewK (nomark _)) (by show PSs _ [lt 0, lt 1, lt 2, lt 3, lt 4, lt 5, lt 6, lt 7, lt 8] _; exact pss_cons p0 (pss_cons p1 (pss_cons p2 (pss_cons p3 (pss_cons p4 (pss_cons p5 (pss_cons p6 (pss_cons p7 (pss_one p8))))))))) pss_nil), fun d p pd Da tb p2 pd2 m3 B D ti o nx => ?_⟩
  have fin : ∀ {G : Gm} {m3 : List (Str × Str)}, GLe G gZ → Nx (PT Ps pT q0) B G (MX K Da pd d pd2 tb (mOf tb) m3) D.nx := fun h => Nx.less (M' := []) (List.nil_sublist _) (ow_all ow_MX) (Nx.gle nx h)
  refine Nx.ite (P := fun b => b = true → tb ≠ []) ((Et.is (Ev.op (Ev.var rfl) Ev.dnew (o2_deq (K := K) (neg := true) (Ds.mu (l := tb) inD2) Ds.fz))).imp fun b e h z => ?_) (fun hb => ?_) (fun _ => ?_)
  · subst z
    rw [h] at e
    cases e
  · show Nx _ _ _ (MX K Da pd d pd2 tb (mOf tb) m3) _
    refine Nx.seq (h0 d p pd Da tb p2 pd2 m3 _ _ ti (hb rfl) fun v nm hx => ?_)
    refine Nx.seq (h1 d p pd Da tb p2 pd2 m3 v nm _ _ ti hx ?_)
    refine Nx.seq (h2 d p pd Da tb p2 pd2 m3 v nm _ _ ti hx ?_)
    refine Nx.seq (h3 d p pd Da tb p2 pd2 m3 v nm _ _ ti hx ?_)
    refine Nx.seq (h4 d p pd Da tb p2 pd2 m3 v nm _ _ ti hx ?_)
    refine Nx.seq (h5 d p pd Da tb p2 pd2 m3 v nm _ _ ti hx ?_)
    refine Nx.seq (h6 d p pd Da tb p2 pd2 m3 v nm _ _ ti o hx ?_)
    refine Nx.seq (h7 d p pd Da tb p2 pd2 m3 v nm _ _ ti o hx ?_)
    exact h8 d p pd Da tb p2 pd2 m3 v nm _ _ ti o hx fun m4 => fin (by (repeat' (first | exact RP.GLe.nil | apply RP.GLe.keep | apply RP.GLe.drop)))
  · exact fin (by (repeat' (first | exact RP.GLe.nil | apply RP.GLe.keep | apply RP.GLe.drop)))
end
end K3

set_option maxRecDepth 100000
set_option maxHeartbeats 4000000
/-! a list comprehension whose test may look back at the def that it stands in -/
namespace LC
open PySem PySem.Spec PyProof.Rows L2
section
variable {X : Cx}
def tLcI (wi : TI) (g : TG) (tt : L2.St → TT) (te : TE) (vs : List Nat) : TE := fun σ H Q => tLc wi g (tt σ) te vs σ H Q
theorem pe_lcI {el tgt itr : Expr} {tests : List Expr} {scp : Scope} {own : List (PySem.Str × Nat)} {po : Pos} {wi : TI} {g : TG} {tt : L2.St → TT} {te : TE} (calm : X.calm = true) (nd : X.N.Nodup) (walk : PI X tgt itr wi) (blk : BlkOk X.N X.env.scope scp own)
    (tgR : ∀ (s : Shared) (H : Hp) (C : Addr) (cl : List (PySem.Str × Addr)) (fp : List Addr), PG (X.blk s H scp (compEnvC scp cl C X.env) fp) tgt g) (ttR : ∀ (s : Shared) (H : Hp) (C : Addr) (cl : List (PySem.Str × Addr)) (fp : List Addr) (pins : List (Addr × Obj)) (σ : L2.St), Inv X pins σ H s → (∀ b ∈ fp, FpOk X pins H b) → PTs (X.blk s H scp (compEnvC scp cl C X.env) fp) tests (tt σ))
    (teR : ∀ (s : Shared) (H : Hp) (C : Addr) (cl : List (PySem.Str × Addr)) (fp : List Addr), PE (X.blk s H scp (compEnvC scp cl C X.env) fp) el te) (fold : ∀ x, foldedSetIterable itr X.env x = pure x := by intro _; rfl) :
    PE X (.ListComp el [⟨tgt, itr, tests, 0⟩] scp po) (tLcI wi g tt te (own.map (·.2))) := by
  refine ⟨fun pins s σ H Q I h => ?_⟩
  rw [eval_ListComp]
  have h : tLc wi g (tt σ) te (own.map (·.2)) σ H Q := h
  have cells : ∀ y ∈ scp.names, y.2 = .free → ∃ c, X.env.cells.lookup y.1 = some c := fun y hy e => (blk.free y hy e).elim (fun k => I.ok.has _ (.inl k)) fun k => I.ok.has _ (.inr k)
  refine wpAny_comprehension_free (use := none) rfl fold (closure_ok cells) blk.kind (fun y hy e => by rw [blk.uniq y hy, e]) (thn (walk.run pins s σ H _ I h) fun xv s1 hx => thn hx fun itv s2 h2 => ?_)
  obtain ⟨it, fp, tn, J, H2, rfl, I2, tu, st2, free2, q⟩ := h2
  refine wpAny_newObj_type (newEnv_comp ?_) (by show 0 ≤ sizeLine; decide)
  generalize eD : s2.heap.objs.size = D
  have nD : H2 D = none := I2.hok.fresh (Nat.le_of_eq eD)
  obtain ⟨W, ⟨m0, w0⟩, turns⟩ := q D nD
  have I3 : Inv X pins σ (upd H2 D (.lst [])) { s2 with heap := s2.heap.push { cls := .type "list", data := .seq ([] : List Value).toArray } } := by
    refine I2.laid (t' := s2.toks) (fun b o e => Heap.get?_push_of_some _ e) (Nat.le_of_eq eD) ⟨Nat.zero_le _, [], 0, .nil, ?_⟩
    rw [← eD]
    exact Heap.get?_push_size _ rfl
  generalize e3 : ({ s2 with heap := s2.heap.push { cls := .type "list", data := .seq ([] : List Value).toArray } } : Shared) = s3 at I3 ⊢
  have h3 : s3.heap = s2.heap.push { cls := .type "list", data := .seq ([] : List Value).toArray } := by rw [← e3]
  have free3 : ∀ b ∈ fp, FpOk X pins (upd H2 D (.lst [])) b ∧ b < s3.heap.objs.size := fun b hb => by
    obtain ⟨o, e, _⟩ := tu.obj _ _ st2 b hb
    have lt := Heap.lt_size e
    refine ⟨⟨by rw [upd_ne (by rw [← eD]; exact Nat.ne_of_lt lt)]; exact (free2 b hb).1, (free2 b hb).2⟩, by rw [h3, Heap.size_push]; exact Nat.lt_succ_of_lt lt⟩
  have st3 : tn 0 s3.heap := tu.keep _ _ _ st2 fun b _ o e => by rw [h3]; exact Heap.get?_push_of_some _ e
  have I4 := block_start I3 blk nd free3
  show codeAny (model X.prog X.w) X.A (.compStart (.ListComp el [⟨tgt, itr, tests, 0⟩] scp po) 0 (.ref it) (.ref D) (compEnvC scp (cellsFrom (s3.heap.objs.size + 1) scp.names (cloFrom X.env.cells scp.names [])) s3.heap.objs.size X.env)) (compPost (model X.prog X.w) X.A X.xe none (EP X pins σ Q) (.ref D) s3.heap.objs.size) { s3 with heap := pushCells (s3.heap.push { cls := .type "dict", data := .dict #[] }) scp.names }
  generalize eH : upd H2 D (.lst []) = H3 at I3 I4 w0 free3
  generalize eK : cellsFrom (s3.heap.objs.size + 1) scp.names (cloFrom X.env.cells scp.names []) = cls at I4 ⊢
  have pg := tgR s3 H3 s3.heap.objs.size cls fp
  have pt := ttR s3 H3 s3.heap.objs.size cls fp pins σ I3 (fun b hb => (free3 b hb).1)
  have pe := teR s3 H3 s3.heap.objs.size cls fp
  have home : (compEnvC scp cls s3.heap.objs.size X.env).locals = s3.heap.objs.size := rfl
  generalize compEnvC scp cls s3.heap.objs.size X.env = ce at I4 pg pt pe home ⊢
  generalize e4 : ({ s3 with heap := pushCells (s3.heap.push { cls := .type "dict", data := .dict #[] }) scp.names } : Shared) = s4 at I4 ⊢
  have st4 : tn 0 s4.heap := tu.keep _ _ _ st3 fun b _ o e => by rw [← e4]; exact pushCells_keeps _ _ _ _ (Heap.get?_push_of_some _ e)
  have inner : ∀ {σ' : L2.St} {H' : Hp} {s' : Shared}, Inv (X.blk s3 H3 scp ce fp) [] σ' H' s' → (∀ b ∈ fp, H' b = none) → ∀ b ∈ fp, FpOk (X.blk s3 H3 scp ce fp) [] H' b := fun {σ' H' s'} J' n b hb =>
    ⟨n b hb, (J'.ok.exf b hb).1, J'.ok.exfs b hb, .inl hb, fun x c e => (J'.ok.exf b hb).2 x c e, fun p hp => nomatch hp⟩
  have loop : codeAny (model X.prog X.w) X.A (.compLoop (.ListComp el [⟨tgt, itr, tests, 0⟩] scp po) 0 (.ref it) (.ref D) ce) (compPost (model X.prog X.w) X.A X.xe none (EP X pins σ Q) (.ref D) s3.heap.objs.size) s4 := by
    refine compLoop_any (fun n s' => ∃ i H', Inv (X.blk s3 H3 scp ce fp) [] (wipe σ (own.map (·.2))) H' s' ∧ tn i s'.heap ∧ (∀ b ∈ fp, H' b = none) ∧ W i n H') ?_ m0 ⟨0, H3, I4, st4, fun b hb => (free3 b hb).1.1, w0⟩
    rintro n s5 ⟨i, H5, I5, st5, n5, w5⟩
    rcases turns i n H5 w5 with ⟨stop, fin⟩ | ⟨go, Nx, back, step⟩
    · refine thnF (tu.done (X.blk s3 H3 scp ce fp) rfl rfl rfl calm i [] s5 _ H5 (fun _ _ => False) I5 (inner I5 n5) st5 stop) fun r s6 ⟨hr, I6⟩ => ?_
      subst hr
      have I7 : Inv X pins σ H5 s6 := I3.call' (ch := fp) I6.os I6.base I6.hok I6.bare fun b hb => ⟨(free3 b hb).1.2.2.2.1, (free3 b hb).1.2.1, (free3 b hb).1.2.2.2.2.1, (free3 b hb).1.2.2.2.2.2⟩
      have nC : H5 s3.heap.objs.size = none := by
        have z : H5 ce.locals = none := I6.free
        rw [home] at z
        exact z
      obtain ⟨m, hm, _⟩ := I6.loc
      have hm : s6.heap.Ns ce.locals m := hm
      rw [home] at hm
      refine ⟨m, hm, fun h'' sb => ?_⟩
      obtain ⟨f0, f1, f2, f3, f4, f5⟩ := I3.fpOk (Nat.le_refl _) nC
      exact ⟨.ref D, H5, I7.turned (t' := s6.toks) (fun b o hb e => (sb.2 b hb).trans e) f0 f1 f3 f4 f5, rfl, fin⟩
    · refine thnF (tu.item (X.blk s3 H3 scp ce fp) rfl rfl rfl calm i [] s5 _ H5 (fun _ _ => False) I5 (inner I5 n5) st5 go) fun r s6 ⟨u, hr, h6⟩ => ?_
      subst hr
      refine thnF h6 fun _ s7 ⟨x, H7, I7, r7, y7, st7, n7⟩ => ?_
      refine thnF (pg.run _ s7 _ H7 x u _ (I7.pinned (inner I7 n7) (tu.obj _ _ st7)) r7 (step x H7 y7)) fun _ s8 ⟨σ8, H8, I8, ew, q8⟩ => ?_
      refine thnF (pt.run _ s8 σ8 H8 _ I8 q8) fun b s9 ⟨H9, I9, q9⟩ => ?_
      have ret : ∀ {s' : Shared} {H' : Hp}, Inv (X.blk s3 H3 scp ce fp) ([] ++ pinsAt fp s7.heap) σ8 H' s' → Nx H' → ∃ m, m < n ∧ ∃ i H', Inv (X.blk s3 H3 scp ce fp) [] (wipe σ (own.map (·.2))) H' s' ∧ tn i s'.heap ∧ (∀ b ∈ fp, H' b = none) ∧ W i m H' := fun {s' H'} J' nx => by
        obtain ⟨m', lt, w'⟩ := back H' nx
        have held : ∀ b ∈ fp, ∀ o, s7.heap.get? b = some o → s'.heap.get? b = some o ∧ H' b = none := fun b hb o e =>
          have z := J'.pin (b, o) (List.mem_append_right _ (List.mem_append_right _ (mem_pinsAt hb e)))
          ⟨z.1, z.2.1⟩
        refine ⟨m', lt, i + 1, H', (J'.unpinned (pins := [])).weak (by rw [← ew, wipe_length]) (fun j v e => ?_), tu.keep _ _ _ st7 fun b hb o e => (held b hb o e).1, fun b hb => ?_, w'⟩
        · rw [← ew] at e
          exact (wipe_some e).1
        · obtain ⟨o, e, _⟩ := tu.obj _ _ st7 b hb
          exact (held b hb o e).2
      cases b with
      | false =>
        simp only [Bool.false_eq_true, if_false] at q9 ⊢
        exact ret I9 q9
      | true =>
        simp only [if_true] at q9 ⊢
        refine thnF (pe.run _ s9 σ8 H9 _ I9 q9) fun z s10 ⟨yv, H10, I10, r10, acc, hD, few, nx⟩ => ?_
        exact app_ok (X := X.blk s3 H3 scp ce fp) I10 hD few r10 fun s11 I11 => ret I11 nx
  exact codeAny_compStart_list loop (tu.self X.A 0 _ _ _ st4 loop)
end
end LC

set_option maxRecDepth 100000
set_option maxHeartbeats 4000000
/-! a lambda that captures, kept as a value and called later from a comprehension of its own def -/
namespace LC
open PySem PySem.Spec PyProof.Rows L2
open LamX (CodeO TabS Tabs ExtN codeO_ne LamS GivesTo lamCx lamEnv)
open LX (LF LamO lamO_at)
/-- a lambda of the def X: tl is what its body is worth, by X's slots -/
structure LamCap (X : Cx) (k : Nat) (L : LF) (tl : XK → TE) : Prop where
  ls : LamS X.env.scope L.scope
  cl : L.cl = cloFrom X.env.cells L.scope.names []
  qual : L.qual = X.env.qual ++ "<lambda>"
  bind : ∀ pm ctv : Value, bindArgs (PySem.W.kla_fn "<lambda>" L.qual L.params L.body L.scope L.cl pm (.ref L.c) ctv) ⟨[], []⟩ = pure []
  worth : ∀ (A : Around) (outer : List Env) (s : Shared) (H : Hp) (E : XK) (f : Addr), Room k (A.deeper (lamEnv X L.scope s.heap.objs.size f L.c)) → PE (lamCx X A outer s H E L.scope f L.c) L.body (tl E)
section
variable {X : Cx} {pins : List (Addr × Obj)} {σ : L2.St} {H : Hp} {s : Shared}
theorem pe_actC {CXg : CXT} {Eg : XK} {Ng : List Str} {qg : Str} {sg : Scope} {g f : Addr} {cdg : Value} {L : LF} {tl : XK → TE} {k i : Nat} {a : Str} {pn : List (Addr × Obj)} {xe : Value → Shared → Prop} {W : WX} {E : XK} {p1 p2 : Pos}
    (I : Inv X pins σ H s) (C : LamCap X k L tl) (tk : Takes ((cxOf CXg X.prog X.w X.K X.mg X.base Ng qg sg g cdg X.A X.stack s H Eg).tr pn xe) W) (hW : ∀ cls d σ' H', E cls d H' → W cls d σ' H') (hr : Room (k + 1) (X.A.deeper (envOfC qg sg s.heap.objs.size g cdg)))
    (hN : Ng[i]? = some a) (hv : Vis sg a) (hd : (a == ("__debug__" : Str)) = false := by decide) (hcd : (a == ("__classdict__" : Str)) = false := by decide) :
    PE ((cxOf CXg X.prog X.w X.K X.mg X.base Ng qg sg g cdg X.A X.stack s H Eg).tr pn xe) (.Call (.Name a p1) [] [] p2) (fun σZ HZ Q => σZ[i]? = some (some (.ref f)) ∧ HZ L.c = some (CodeO L.c L.qual) ∧ (HZ f = some (LamO f L) ∧ tl E σ HZ Q)) := by
  obtain ⟨ls, hcl, hq, hb, hw⟩ := C
  refine ⟨fun pinsZ sZ σZ HZ Q IZ ⟨h0, hc, hf, ht⟩ => ?_⟩
  refine wpAny_Call_Name_kw (thn ((pe_var (pos := p1) (i := i) hN hv hd hcd).run pinsZ sZ σZ HZ (fun v H1 => v = .ref f ∧ H1 = HZ) IZ ⟨.ref f, h0, rfl, rfl⟩) fun u s1 ⟨v, H1, I1, r1, ev, eH⟩ => ?_)
  subst ev
  rw [eH] at I1
  obtain rfl : u = Value.ref f := r1
  obtain ⟨pm, ctv, of1⟩ := lamO_at I1.hok hf
  refine PySem.W.callWith_F0 ⟨_, _, _, _, of1⟩ ?_
  have un : Un (frs X.stack) [] H HZ s.heap s1.heap := I1.base
  obtain ⟨⟨oc, vs, t, hoc, hdc, hvc⟩, _, _⟩ := I1.hok L.c _ hc
  have rc : codeAny (model X.prog X.w) (X.A.deeper (envOfC qg sg s.heap.objs.size g cdg)) (.call (.ref f) ⟨[], []⟩) (CR (L2.CX X.prog X.w) (envOfC qg sg s.heap.objs.size g cdg :: X.stack) X.prog X.w HZ s1 Q E) s1 := by
    refine PySem.W.kla_callFunE hr.depth of1 rfl ls.co ls.gen rfl ⟨L.c, oc, vs, t, rfl, hoc, hdc, hvc⟩ ?_
    rw [hb]
    refine wpAny_pure (wpAny_newFunctionEnv (fun y hy => (ls.own y hy).2) (fun y hy => absurd hy (by simp)) (fun h₁ hns hsb => ⟨I1.nolimit.fresh _ hsb, ?_⟩) ls.kind)
    have kp : ∀ b o, s1.heap.get? b = some o → h₁.get? b = some o := fun b o e => hsb.extBut b o (Nat.ne_of_lt (Heap.lt_size e)) (Heap.get?_push_of_some _ e)
    have J : Inv (lamCx X (X.A.deeper (envOfC qg sg s.heap.objs.size g cdg)) (envOfC qg sg s.heap.objs.size g cdg :: X.stack) s1 HZ E L.scope f L.c) [] σ HZ { s1 with heap := h₁, toks := s1.toks + ([] : List (Str × Value)).length } :=
      LamX.lam_start2 I ls I1.env0 hr.hd un hns kp
    have eE : PySem.W.envX L.qual L.scope s1.heap.objs.size f (.ref L.c) L.cl = lamEnv X L.scope s1.heap.objs.size f L.c := by rw [hq, hcl]
    show codeAny _ _ (.expr L.body (PySem.W.envX L.qual L.scope s1.heap.objs.size f (.ref L.c) L.cl)) _ _
    rw [eE]
    refine PySem.W.kla_codeExpr (wpAny_mono ((hw _ _ s1 HZ E f (hr.deeper _)).run [] _ _ HZ Q J ht) (fun v s' hq => ?_) fun e s' hq => hq)
    obtain ⟨w', H', J', rv, q⟩ := hq
    exact ⟨w', H', J'.os, J'.bare, J'.base, J'.hok, rv, q⟩
  have hx : Passes (L2.CX X.prog X.w) ((cxOf CXg X.prog X.w X.K X.mg X.base Ng qg sg g cdg X.A X.stack s H Eg).tr pn xe) E := passes_call tk hW
  refine wpAny_call (codeAny_mono rc fun r s' hq => ?_)
  cases r with
  | error e => exact hx pinsZ σZ HZ s1 e s' I1 hq
  | ok fl =>
    cases fl with
    | ret u => exact I1.after hq
    | next => exact False.elim hq
    | brk => exact False.elim hq
    | cont => exact False.elim hq
/-- x(e), e a lambda of the def X, within a comprehension of X -/
def tToldC (X : Cx) (k : Nat) (σ0 : L2.St) (TT : (XK → Hp → VK → Prop) → Hp → VK → Prop) (ta : TA) : TE := fun σ H Q => ta σ H fun vs H1 => ∃ f L tl, vs = [.ref f] ∧ H1 f = some (LamO f L) ∧ H1 L.c = some (CodeO L.c L.qual) ∧ LamCap X k L tl ∧ TT (fun E H' Q' => H' f = some (LamO f L) ∧ tl E σ0 H' Q') H1 Q
theorem pe_toldC {scp : Scope} {C : Addr} {cl : List (Str × Addr)} {fp : List Addr} {TT : (XK → Hp → VK → Prop) → Hp → VK → Prop} {x a : Str} {g : Addr} {k : Nat} {st : Stmt} {fd : FuncData} {Ng : List Str} {p pos : Pos} {e : Expr} {ta : TA} (I0 : Inv X pins σ H s) (fpok : ∀ b ∈ fp, FpOk X pins H b)
    (hg : Gl (X.blk s H scp (compEnvC scp cl C X.env) fp) x) (hm : X.mg x = some (.ref g)) (F : Fun X.K x x st g fd) (bd : L2.Binds X.K fd [a] []) (Sg : FnScope Ng [a] (defScope st)) (at0 : Ng[0]? = some a) (vis : Vis (defScope st) a)
    (gives : ∀ cdv, GivesTo X Ng x (defScope st) g cdv (defBody st) a (X.env.qual ++ "<lambda>") TT) (room : Room (k + 2) X.A) (ha : PA (X.blk s H scp (compEnvC scp cl C X.env) fp) [e] ta)
    (he : starEach [e] (compEnvC scp cl C X.env) = (false, eval e (compEnvC scp cl C X.env)) :: starEach [] (compEnvC scp cl C X.env) := by rfl) (hpl : (backTo pos (starEach ([] : List Expr) (compEnvC scp cl C X.env))).any (·.1) = false := by rfl)
    (nb : (x == ("__debug__" : Str)) = false := by decide) (nb2 : (a == ("__debug__" : Str)) = false := by decide) (nb3 : (a == ("__classdict__" : Str)) = false := by decide) : PE (X.blk s H scp (compEnvC scp cl C X.env) fp) (.Call (.Name x p) [e] [] pos) (tToldC X k σ TT ta) := by
  obtain ⟨oc, od, kV, doc, pm, an, cdv, ct, osl, rfl, lk, hcd⟩ := F.ex
  refine ⟨fun pins' s' σ' H' Q I h => ?_⟩
  refine wpAny_Call_Name_kw (ld_glob I hg hm ?_ nb)
  refine PySem.W.callWith_K (h₀ := X.base) I.ok.mod.kin F.kp (thn (ha.run pos pins' s' σ' H' _ I h) fun us u ⟨vs, G, I1, r, q⟩ => ⟨I1.kIn, ?_⟩) he hpl
  obtain ⟨f, L, tl, rfl, hf, hc, cap, told⟩ := q
  rw [Vals.ref1 r]
  have JX : Inv X pins σ G u := I0.call' (ch := fp) I1.os I1.base I1.hok I1.bare fun b hb => ⟨(fpok b hb).2.2.2.1, (fpok b hb).2.1, (fpok b hb).2.2.2.2.1, (fpok b hb).2.2.2.2.2⟩
  have run : codeAny (model X.prog X.w) X.A (.call (.ref g) ⟨[.ref f], []⟩) (CR C8.CX0 X.stack X.prog X.w G u Q C8.E0) u := by
    refine LamX.run_ofS (N := Ng) (ps := [a]) (us := [.ref f]) (vs := [.ref f]) lk hcd Sg room JX.env0 (bd u [.ref f] JX.kIn rfl) (.cons rfl .nil) rfl fun room' => ?_
    obtain ⟨t', ht', hq'⟩ := gives cdv f L.c u G Q (fun E G' Q' => G' f = some (LamO f L) ∧ tl E σ G' Q') (fun W pn xe E p1 p2 tk hW => by
      have z := pe_actC (f := f) (i := 0) (p1 := p1) (p2 := p2) JX cap tk hW room' at0 vis nb2 nb3
      rw [cap.qual] at z
      exact z) (by rw [← cap.qual]; exact hc) told
    exact ⟨t', ht'.nox, hq'⟩
  refine wpAny_call (codeAny_mono run fun r u2 hq => ?_)
  rcases r with e | fl
  · exact (show False from hq).elim
  cases fl with
  | ret u => exact I1.after hq
  | _ => exact False.elim hq
end
end LC

set_option maxRecDepth 100000
set_option maxHeartbeats 4000000
namespace K3
open PySem PySem.Spec PyProof.Rows L2
open RP hiding Tb Tb.not Tb.upd Gm
open RP (Gm)
section
variable {P : Program} {w : World} {K : PySem.W.Frag} {mg : Str → Option Value} {base : Heap} {R Pp C0 : Addr} {Ps : List Addr} {pT : Addr} {q0 : Str}
variable {f c z : Addr} {k : Nat} {A : Around} {outer : List Env} {s : Shared} {H0 : Hp} {E : XK}
theorem figs : fig "AAA" = fig "PeQ" ∧ fig "" = 7 ∧ fig "a" = 7 * 257 + 97 := by decide +kernel
theorem smA : SmT "AAA" ∧ SmT "PeQ" ∧ SmT "" ∧ SmT "a" := ⟨smT_drawn _ (by decide +kernel), smT_drawn _ (by decide +kernel), smT_drawn _ (by decide +kernel), smT_drawn _ (by decide +kernel)⟩
theorem l2 (Z : Callees P w K mg base R Pp C0 Ps z k) (hr : Room k (A.deeper (envOfC "law" (defScope s_law) s.heap.objs.size f (.ref c)))) : ∃ t, PS (LX0 P w K mg base f c A outer s H0 E) (lawS 2) t ∧ ∀ B D, Nx (PT Ps pT q0) B gZ [] D.nx → Nx (PT Ps pT q0) B gZ [] (t D) := by
  obtain ⟨_, _, _, k_figure, G_figure⟩ := Z.figure
  refine ⟨_, (ps_if (PW.pt (pw_or (pt_cmpR op_ne (pe_call G_figure.ok (hr.mono k_figure) (by rfl) G_figure.g G_figure.kp G_figure.b .nil passF (pa_cons pe_str pa_nil)) (pe_call G_figure.ok (hr.mono k_figure) (by rfl) G_figure.g G_figure.kp G_figure.b .nil passF (pa_cons pe_str pa_nil)) (nomark _)) (pw_or (pt_cmpR op_ne (pe_call G_figure.ok (hr.mono k_figure) (by rfl) G_figure.g G_figure.kp G_figure.b .nil passF (pa_cons pe_str pa_nil)) pe_int (nomark _)) (pw_or1 (pt_cmpR op_ne (pe_call G_figure.ok (hr.mono k_figure) (by rfl) G_figure.g G_figure.kp G_figure.b .nil passF (pa_cons pe_str pa_nil)) (pe_op op_add (pe_op op_mul pe_int pe_int) pe_int) (nomark _))))))
      (pss_one (ps_ret pe_bl)) pss_nil), fun B D nx => ?_⟩
  obtain ⟨e1, e2, e3⟩ := figs
  obtain ⟨s1, s2, s3, s4⟩ := smA
  refine Nx.noIf (Et.orF ?_ (Et.orF ?_ ?_)) nx
  · exact Et.isF (Ev.op (Ev.call (Ea.cons (Ev.str (K := K)) Ea.nil) (oc_figure s1)) (Ev.call (Ea.cons (Ev.str (K := K)) Ea.nil) (oc_figure s2)) o2_ne) (ne_self (by rw [e1]))
  · exact Et.isF (Ev.op (Ev.call (Ea.cons (Ev.str (K := K)) Ea.nil) (oc_figure s3)) (Ev.int (n := 7)) o2_ne) (ne_self (by rw [e2]; rfl))
  · exact Et.isF (Ev.op (Ev.call (Ea.cons (Ev.str (K := K)) Ea.nil) (oc_figure s4)) (Rb := Is K (7 * 257 + 97 : Int)) (Ev.op (Ra := Is K (7 * 257 : Int)) (Ev.op (Ev.int (n := 7)) (Ev.int (n := 257)) (o2_intC (.inr ⟨by decide, by decide⟩))) (Ev.int (n := 97)) o2_int) o2_ne) (ne_self (by rw [e3]; rfl))
def tbA : List (Str × Str) := [("AAA", nmS "AAA" 0)]
def tbP : List (Str × Str) := [("PeQ", nmS "PeQ" 0)]
theorem due_A : putD ([] : List (Str × Str)) "AAA" (due [] "AAA") = tbA := by decide +kernel
theorem due_P : putD ([] : List (Str × Str)) "PeQ" (due [] "PeQ") = tbP := by decide +kernel
theorem due_AP : due tbA "PeQ" = ts (fig "AAA") ++ Str.ofString ".1" := by decide +kernel
theorem inA : (Str.ofString "AAA") ∈ drawn := by decide +kernel
theorem inPQ : (Str.ofString "PeQ") ∈ drawn := by decide +kernel
theorem tiA : TI tbA := by rw [← due_A]; exact TI.nil.put inA
theorem tiP : TI tbP := by rw [← due_P]; exact TI.nil.put inPQ
def gE (C0 p1 pd1 p2 pd2 : Addr) : Gm := [none, none, none, none, none, none, none, some (Obj p1 C0 (stF pd1)), none, none, none, none, none, none, none, none, none, none, none, none, some (Obj p2 C0 (stF pd2)), none, none]
def ME (pd1 pd2 : Addr) (a b : List (Str × Str)) : Mu := [(pd2, StM (mOf b)), (pd1, StM (mOf a))]
theorem l3 (nP : pT ∉ Ps) (Z : Callees P w K mg base R Pp C0 Ps z k) (T : Txt K mg R Pp C0) (hr : Room k (A.deeper (envOfC "law" (defScope s_law) s.heap.objs.size f (.ref c)))) : ∃ t, PS (LX0 P w K mg base f c A outer s H0 E) (lawS 3) t ∧ ∀ B D, (∀ p1 pd1 p2 pd2, Nx (PT Ps pT q0) B (gE C0 p1 pd1 p2 pd2) (ME pd1 pd2 [] []) D.nx) → Nx (PT Ps pT q0) B gZ [] (t D) := by
  obtain ⟨_, _, _, k_mk, MK, FI, BI, ds, VD, BD⟩ := Z.mkr
  refine ⟨_, (ps_asg (pe_tup (pa_cons (pe_make0 MK FI (hr.mono k_mk) (by rfl) T.g_Store BD VD passF) (pa_cons (pe_make0 MK FI (hr.mono k_mk) (by rfl) T.g_Store BD VD passF) pa_nil))) (pg_tup rfl (pgs_cons (pg_name (i := 7) sc_law.nd rfl (.inr rfl)) (pgs_cons (pg_name (i := 20) sc_law.nd rfl (.inr rfl)) pgs_nil)))), fun B D nx => ?_⟩
  refine Nx.par (EvS.make0 nP Z.hz) (P2 := fun R1 R2 M1 => ∃ p1 pd1 p2 pd2, R1 = Obj p1 C0 (stF pd1) ∧ R2 = Obj p2 C0 (stF pd2) ∧ M1 = ME pd1 pd2 [] []) (fun R1 M1 h => ?_) fun R1 R2 M1 h => ?_
  · obtain ⟨p1, pd1, rfl, rfl⟩ := h
    exact EvS.imp' (EvS.make0 nP Z.hz) fun R2 M2 h => by
      obtain ⟨p2, pd2, rfl, rfl⟩ := h
      exact ⟨p1, pd1, p2, pd2, rfl, rfl, rfl⟩
  · obtain ⟨p1, pd1, p2, pd2, rfl, rfl, rfl⟩ := h
    exact nx p1 pd1 p2 pd2
theorem l4 (nP : pT ∉ Ps) (Z : Callees P w K mg base R Pp C0 Ps z k) (T : Txt K mg R Pp C0) (hr : Room k (A.deeper (envOfC "law" (defScope s_law) s.heap.objs.size f (.ref c)))) : ∃ t, PS (LX0 P w K mg base f c A outer s H0 E) (lawS 4) t ∧ ∀ p1 pd1 p2 pd2 B D, (Nx (PT Ps pT q0) B (gE C0 p1 pd1 p2 pd2) (ME pd1 pd2 tbA []) D.nx) → Nx (PT Ps pT q0) B (gE C0 p1 pd1 p2 pd2) (ME pd1 pd2 [] []) (t D) := by
  obtain ⟨_, _, _, k_put, M_put⟩ := Z.put
  refine ⟨_, (ps_expr (pe_meth (pv 7) T.cl M_put.m M_put.ok (hr.mono k_put) M_put.b .nil passF (pa_cons pe_str pa_nil))), fun p1 pd1 p2 pd2 B D nx => ?_⟩
  refine Nx.dropS (EvS.meth (Ev.var rfl) rfl (Ea.cons (Ev.str (K := K)) Ea.nil) (ocS_put nP (j := 1) (tb := []) rfl TI.nil inA)) fun R1 M1 h => ?_
  obtain ⟨_, rfl⟩ := h
  rw [due_A]
  exact nx
theorem l5 (nP : pT ∉ Ps) (Z : Callees P w K mg base R Pp C0 Ps z k) (T : Txt K mg R Pp C0) (hr : Room k (A.deeper (envOfC "law" (defScope s_law) s.heap.objs.size f (.ref c)))) : ∃ t, PS (LX0 P w K mg base f c A outer s H0 E) (lawS 5) t ∧ ∀ p1 pd1 p2 pd2 B D, (Nx (PT Ps pT q0) B (gE C0 p1 pd1 p2 pd2) (ME pd1 pd2 tbA tbP) D.nx) → Nx (PT Ps pT q0) B (gE C0 p1 pd1 p2 pd2) (ME pd1 pd2 tbA []) (t D) := by
  obtain ⟨_, _, _, k_put, M_put⟩ := Z.put
  refine ⟨_, (ps_expr (pe_meth (pv 20) T.cl M_put.m M_put.ok (hr.mono k_put) M_put.b .nil passF (pa_cons pe_str pa_nil))), fun p1 pd1 p2 pd2 B D nx => ?_⟩
  refine Nx.dropS (EvS.meth (Ev.var rfl) rfl (Ea.cons (Ev.str (K := K)) Ea.nil) (ocS_put nP (j := 0) (tb := []) rfl TI.nil inPQ)) fun R1 M1 h => ?_
  obtain ⟨_, rfl⟩ := h
  rw [due_P]
  exact nx
end
end K3

set_option maxRecDepth 100000
set_option maxHeartbeats 4000000
namespace K3
open PySem PySem.Spec PyProof.Rows L2
open RP hiding Tb Tb.not Tb.upd Gm
open RP (Gm)
open LamX (Tabs TabS CodeO ExtN codeO_ne)
section
variable {P : Program} {w : World} {K : PySem.W.Frag} {mg : Str → Option Value} {base : Heap} {R Pp C0 : Addr} {Ps : List Addr} {pT : Addr} {q0 : Str}
variable {f c z : Addr} {k : Nat} {A : Around} {outer : List Env} {s : Shared} {H0 : Hp} {E : XK}
variable {X : Cx} {Pt : Tbs} {M : Mu} {G : Gm} {F H F' H' : Hp} {σ : L2.St} {B : Bs}
/-- o stands at a, and stays -/
def Kpt (Pt : Tbs) (M : Mu) (H : Hp) (a : Addr) (o : HO) : Prop := H a = some o ∧ a ∉ tk Pt ∧ a ∉ M.map (·.1)
theorem Kpt.evo {a : Addr} {o : HO} (h : Kpt Pt M H a o) (e : Evo Pt M F H F' H') : Kpt Pt M H' a o := ⟨e.keep a o h.1 h.2.1 h.2.2, h.2⟩
theorem Kpt.ext {a : Addr} {φ : Heap → Prop} (s : Sh Pt M F H) (h : H a = some (.ext φ)) : Kpt Pt M H a (.ext φ) := by
  refine ⟨h, fun z => ?_, fun z => ?_⟩
  · obtain ⟨e, he, rfl⟩ := List.mem_map.mp z
    obtain ⟨ps, hp⟩ := (s.tb e he).at
    rw [h] at hp
    cases hp
  · obtain ⟨e, he, rfl⟩ := List.mem_map.mp z
    obtain ⟨o, h1, h2⟩ := s.mu e he
    exact e.2.nc _ _ h2 φ (Option.some.inj (h1.symm.trans h))
theorem Kpt.new {a : Addr} {o : HO} (s : Sh Pt M F H) (h : H a = none) : Kpt Pt M (upd H a o) a o := ⟨upd_same, s.tb.not h, fun z => by
  obtain ⟨e, he, rfl⟩ := List.mem_map.mp z
  obtain ⟨o, h1, _⟩ := s.mu e he
  rw [h] at h1
  cases h1⟩
/-- a lambda and its word, at p -/
def WrongAt (X : Cx) (k : Nat) (R Pp : Addr) (Pt : Tbs) (G : Gm) (M : Mu) (H : Hp) (p : Addr) : Prop := ∃ f L tl wd, Kpt Pt M H p (.tup [.ref f, .str wd]) ∧ Kpt Pt M H f (LX.LamO f L) ∧ Kpt Pt M H L.c (CodeO L.c L.qual) ∧ LC.LamCap X k L tl ∧ EvX Pt G M tl (E9 R Pp) (Is X.K wd)
theorem WrongAt.evo {p : Addr} (h : WrongAt X k R Pp Pt G M H p) (e : Evo Pt M F H F' H') : WrongAt X k R Pp Pt G M H' p := by
  obtain ⟨f, L, tl, wd, h1, h2, h3, h4⟩ := h
  exact ⟨f, L, tl, wd, h1.evo e, h2.evo e, h3.evo e, h4⟩
theorem Evo.lam {q : Str} {H1 : Hp} (s : Sh Pt M F H) (hT : (pT, some q) ∈ Pt) (un : ∀ e ∈ Pt, e.1 = pT → e.2 = some q) (tab1 : TabS H1 pT q) (kp : ∀ b o, b ≠ pT → H b = some o → H1 b = some o) : Evo Pt M F H F H1 := by
  have tab : LamX.TabS H pT q := s.tb _ hT
  obtain ⟨ps0, hp0, _⟩ := tab
  have inP : pT ∈ tk Pt := List.mem_map.mpr ⟨_, hT, rfl⟩
  have neF : ∀ {a : Addr} {o : HO}, F a = some o → a ≠ pT := fun h z => by
    rw [z, s.fp _ inP] at h
    cases h
  refine ⟨Le.refl F, fun a o h => ?_, fun a o h p _ => kp a o (fun z => p (by rw [z]; exact inP)) h, fun a o h => .inl h, fun e he => ?_, fun e he => ?_, fun a kvs h c => kp _ _ (neF h) (s.fz a kvs h c)⟩
  · rcases s.sub a o h with h' | ⟨od, kvs, e, h'⟩
    · exact .inl (kp _ _ (neF h) h')
    · exact .inr ⟨od, kvs, e, kp _ _ (neF h) h'⟩
  · by_cases z : e.1 = pT
    · rw [un e he z, z]
      exact tab1
    · have t0 := s.tb e he
      obtain ⟨P, o⟩ := e
      cases o with
      | none =>
        obtain ⟨ps, h1, h2⟩ := t0
        exact ⟨ps, kp _ _ z h1, h2⟩
      | some q' =>
        obtain ⟨ps, h1, h2, h3⟩ := t0
        refine ⟨ps, kp _ _ z h1, h2, fun pos cv hc => ?_⟩
        obtain ⟨c, e1, e2⟩ := h3 pos cv hc
        exact ⟨c, e1, kp _ _ (fun y => by rw [y, hp0] at e2; cases e2) e2⟩
  · obtain ⟨o, h1, h2⟩ := s.mu e he
    exact ⟨o, kp _ _ (fun z => (s.ow e he).1 (by rw [z]; exact inP)) h1, h2⟩
theorem pairStepE {q : Str} {mk : Addr → LX.LF} {tl : XK → TE} {wd : Str} {Q : VK} (s : Sh Pt M F H) (hT : (pT, some q) ∈ Pt) (un : ∀ e ∈ Pt, e.1 = pT → e.2 = some q) (hc : ∀ c', (mk c').c = c') (cap : ∀ c', LC.LamCap X k (mk c') tl) (ev : EvX Pt G M tl (E9 R Pp) (Is X.K wd))
    (h : ∀ p H', Evo Pt M F H F H' → WrongAt X k R Pp Pt G M H' p → Q (.ref p) H') : tTup (tCons (LX.tLamV [(pT, q)] pT mk) (tCons (tC (.str wd)) tNil)) σ H Q := by
  have tab : LamX.TabS H pT q := s.tb _ hT
  refine ⟨fun p hp => by rw [List.mem_singleton.mp hp]; exact tab, fun f c' H1 eN t1 f0 f1 c1 nn kp => ⟨(show 2 ≤ sizeLine by decide), fun p hp => ?_⟩⟩
  have e1 := Evo.lam s hT un (t1 _ (List.mem_singleton.mpr rfl)) kp
  have s1 := s.evo e1
  have e2 := s1.new0 (o := .tup [.ref f, .str wd]) hp
  refine h p _ (e1.trans e2) ⟨f, mk c', tl, wd, Kpt.new s1 hp, (Kpt.ext s1 f1).evo e2, ?_, cap c', ev⟩
  rw [hc]
  exact (Kpt.ext s1 c1).evo e2
theorem consStep {a : TE} {u : TA} {Q : List V → Hp → Prop} (h : a σ H fun v H1 => u σ H1 fun vs H2 => Q (v :: vs) H2) : tCons a u σ H Q := h
theorem asgStep {t : TA} {g : TG} {D : L2.Ends} (h : t σ H fun vs H1 => vs.length ≤ sizeLine ∧ ∀ p, H1 p = none → g (.ref p) σ (upd H1 p (.lst vs)) D.nx) : tAsg (tLst t) g D σ H := h
theorem EnvOk.setN {i : Nat} {x : Option V} (h : EnvOk F σ G) (hi : G[i]? = some none) : EnvOk F (σ.set i x) G := ⟨by rw [List.length_set]; exact h.1, fun j R' e => by
  by_cases z : i = j
  · subst z
    rw [hi] at e
    cases e
  · obtain ⟨v, h1, h2⟩ := h.2 j R' e
    exact ⟨v, by rw [List.getElem?_set_ne z]; exact h1, h2⟩⟩
def PreW (X : Cx) (k : Nat) (R Pp : Addr) (Pt : Tbs) (B : Bs) (G : Gm) (M : Mu) (D : L2.St → Hp → Prop) : Prop := ∀ (σ : L2.St) (F H : Hp) (a : Addr) (ps : List Addr), Sa Pt B G M σ F H → σ[21]? = some (some (.ref a)) → Kpt Pt M H a (.lst (ps.map V.ref)) → (∀ p ∈ ps, WrongAt X k R Pp Pt G M H p) → D σ H
theorem fiveN : look (mOf tbA) "5.0" = none := by decide +kernel
theorem fiveR : (reprText (Str.ofString "5.0")).length ≤ 20000 := by decide +kernel
theorem nmR : (reprText (nmS "AAA" 0)).length ≤ 20000 := by decide +kernel
theorem lookA : look (mOf tbA) (nmS "AAA" 0) = some "AAA" := by decide +kernel
theorem needA : need (mOf tbP) (nmS "AAA" 0) = false ∧ look (mOf tbP) (nmS "AAA" 0) ≠ some "AAA" := by decide +kernel
theorem inE1 {pd1 pd2 : Addr} {a b : List (Str × Str)} : (pd1, StM (mOf a)) ∈ ME pd1 pd2 a b := by simp [ME]
theorem inE2' {pd1 pd2 : Addr} {a b : List (Str × Str)} : (pd2, StM (mOf b)) ∈ ME pd1 pd2 a b := by simp [ME]
theorem l6 (nP : pT ∉ Ps) (Z : Callees P w K mg base R Pp C0 Ps z k) (T : Txt K mg R Pp C0) (Y : Tol P w K mg base R Pp c pT k) (hq : q0 = (LX0 P w K mg base f c A outer s H0 E).env.qual ++ "<lambda>") : ∃ t, PS (LX0 P w K mg base f c A outer s H0 E) (lawS 6) t ∧ ∀ p1 pd1 p2 pd2 B D, PreW (LX0 P w K mg base f c A outer s H0 E) k R Pp (PT Ps pT q0) B (gE C0 p1 pd1 p2 pd2) (ME pd1 pd2 tbA tbP) D.nx → Nx (PT Ps pT q0) B (gE C0 p1 pd1 p2 pd2) (ME pd1 pd2 tbA tbP) (t D) := by
  obtain ⟨_, _, _, k_get, M_get⟩ := Z.get
  obtain ⟨_, _, _, k_drop, M_drop⟩ := Z.drop
  obtain ⟨_, _, _, k_names, M_names⟩ := Z.names
  obtain ⟨_, _, _, k_copied, G_copied⟩ := Z.copied
  subst hq
  refine ⟨_, (ps_set (i := 21) sc_law.nd rfl (.inl rfl) (pe_lst (pa_cons (pe_tup (pa_cons (LX.pe_lam Y.TB rfl (List.mem_singleton.mpr rfl) (fun p hp _ => by rw [List.mem_singleton.mp hp]) (LamX.lamS_by (by show LamX.lamSB (defScope s_law) _ = true; decide +kernel))) (pa_cons pe_str pa_nil))) (pa_cons (pe_tup (pa_cons (LX.pe_lam Y.TB rfl (List.mem_singleton.mpr rfl) (fun p hp _ => by rw [List.mem_singleton.mp hp]) (LamX.lamS_by (by show LamX.lamSB (defScope s_law) _ = true; decide +kernel))) (pa_cons pe_str pa_nil))) (pa_cons (pe_tup (pa_cons (LX.pe_lam Y.TB rfl (List.mem_singleton.mpr rfl) (fun p hp _ => by rw [List.mem_singleton.mp hp]) (LamX.lamS_by (by show LamX.lamSB (defScope s_law) _ = true; decide +kernel))) (pa_cons pe_str pa_nil))) (pa_cons (pe_tup (pa_cons (LX.pe_lam Y.TB rfl (List.mem_singleton.mpr rfl) (fun p hp _ => by rw [List.mem_singleton.mp hp]) (LamX.lamS_by (by show LamX.lamSB (defScope s_law) _ = true; decide +kernel))) (pa_cons pe_str pa_nil))) pa_nil)))))), fun p1 pd1 p2 pd2 B D nx => fun σ F H sa => ?_⟩
  have hT : (pT, some ((LX0 P w K mg base f c A outer s H0 E).env.qual ++ "<lambda>")) ∈ PT Ps pT ((LX0 P w K mg base f c A outer s H0 E).env.qual ++ "<lambda>") := List.mem_cons_self ..
  have un := un_mk (Ps := Ps) (q0 := (LX0 P w K mg base f c A outer s H0 E).env.qual ++ "<lambda>") nP
  refine asgStep (consStep ?_)
  refine pairStepE (X := LX0 P w K mg base f c A outer s H0 E) (G := gE C0 p1 pd1 p2 pd2) (k := k) (R := R) (Pp := Pp) (tl := fun E => tMeth C0 "get" (sp_get R Pp C0 Ps) [] E (tVar 7) (tCons (tC (.str "5.0")) tNil)) sa.sh hT un (fun _ => rfl) (fun c' => ⟨LamX.lamS_by (by show LamX.lamSB (defScope s_law) _ = true; dsimp only; decide +kernel), rfl, rfl, fun _ _ => rfl, fun A outer s H E f hr2 => (pe_meth (pv 7) T.cl M_get.m M_get.ok (hr2.mono k_get) M_get.b .nil (passes_call (takes_of rfl rfl rfl rfl) (fun _ _ _ _ h => h)) (pa_cons pe_str pa_nil))⟩)
    (EvX.meth (Ev.var rfl) rfl (Ea.cons Ev.str Ea.nil) (tld_getN (StQ.mu inE1) (smM tiA) fiveR fiveN)) fun a1 H1 e1 w1 => consStep ?_
  refine pairStepE (X := LX0 P w K mg base f c A outer s H0 E) (G := gE C0 p1 pd1 p2 pd2) (k := k) (R := R) (Pp := Pp) (tl := fun E => tMeth C0 "drop" (sp_drop R C0 Ps) [] E (tVar 7) (tCons (tC (.str "5.0")) tNil)) (sa.evo e1).sh hT un (fun _ => rfl) (fun c' => ⟨LamX.lamS_by (by show LamX.lamSB (defScope s_law) _ = true; dsimp only; decide +kernel), rfl, rfl, fun _ _ => rfl, fun A outer s H E f hr2 => (pe_meth (pv 7) T.cl M_drop.m M_drop.ok (hr2.mono k_drop) M_drop.b .nil (passes_call (takes_of rfl rfl rfl rfl) (fun _ _ _ _ h => h)) (pa_cons pe_str pa_nil))⟩)
    (EvX.meth (Ev.var rfl) rfl (Ea.cons Ev.str Ea.nil) (tld_dropN (StQ.mu inE1) fiveR fiveN)) fun a2 H2 e2 w2 => consStep ?_
  refine pairStepE (X := LX0 P w K mg base f c A outer s H0 E) (G := gE C0 p1 pd1 p2 pd2) (k := k) (R := R) (Pp := Pp) (tl := fun E => tCall (sp_copied K R Pp C0 Ps) [] E (tCons (tVar 7) (tCons (tVar 20) (tCons (tCB (fun vs H Q => ∃ p ys, vs = [.ref p] ∧ (SqL K H p ys ∨ SqT K H p ys) ∧ ∀ l, H l = none → Q (.ref l) (upd H l (.lst ys))) (tCons (tMeth C0 "names" (sp_names C0 Ps) [] (fun _ _ _ => False) (tVar 7) tNil) tNil)) tNil)))) ((sa.evo e1).evo e2).sh hT un (fun _ => rfl) (fun c' => ⟨LamX.lamS_by (by show LamX.lamSB (defScope s_law) _ = true; dsimp only; decide +kernel), rfl, rfl, fun _ _ => rfl, fun A outer s H E f hr2 => (pe_call G_copied.ok (hr2.mono k_copied) (by rfl) G_copied.g G_copied.kp G_copied.b .nil (passes_call (takes_of rfl rfl rfl rfl) (fun _ _ _ _ h => h)) (pa_cons (pv 7) (pa_cons (pv 20) (pa_cons (pe_callTy call_list_of (by rfl) T.z_list (by decide +kernel) (pa_cons (pe_meth0 (pv 7) T.cl M_names.m M_names.ok (hr2.mono k_names) M_names.b .nil passF) pa_nil)) pa_nil))))⟩)
    (EvX.call (Ea.cons (Ev.var rfl) (Ea.cons (Ev.var rfl) (Ea.cons ((Ev.cb (Ea.cons (Ev.meth (Ev.var rfl) rfl Ea.nil (oc_names nP (StQ.mu inE1) (smM tiA))) Ea.nil) (oc_list Sq.tl)).to (ss_one (nmS "AAA" 0))) Ea.nil))) (tld_cop nP (StQ.mu inE1) (StQ.mu inE2') (smM tiA) (smM tiP) nmR (.inr ⟨_, lookA, .inr needA, rfl⟩))) fun a3 H3 e3 w3 => consStep ?_
  refine pairStepE (X := LX0 P w K mg base f c A outer s H0 E) (G := gE C0 p1 pd1 p2 pd2) (k := k) (R := R) (Pp := Pp) (tl := fun E => tCall (sp_copied K R Pp C0 Ps) [] E (tCons (tVar 7) (tCons (tVar 20) (tCons (tLst (tCons (tC (.str "5.0")) tNil)) tNil)))) (((sa.evo e1).evo e2).evo e3).sh hT un (fun _ => rfl) (fun c' => ⟨LamX.lamS_by (by show LamX.lamSB (defScope s_law) _ = true; dsimp only; decide +kernel), rfl, rfl, fun _ _ => rfl, fun A outer s H E f hr2 => (pe_call G_copied.ok (hr2.mono k_copied) (by rfl) G_copied.g G_copied.kp G_copied.b .nil (passes_call (takes_of rfl rfl rfl rfl) (fun _ _ _ _ h => h)) (pa_cons (pv 7) (pa_cons (pv 20) (pa_cons (pe_lst (pa_cons pe_str pa_nil)) pa_nil))))⟩)
    (EvX.call (Ea.cons (Ev.var rfl) (Ea.cons (Ev.var rfl) (Ea.cons (Ev.lstL (xs := [Str.ofString "5.0"]) (Ea.cons Ev.str Ea.nil) (by show 1 ≤ 100; decide)) Ea.nil))) (tld_cop nP (StQ.mu inE1) (StQ.mu inE2') (smM tiA) (smM tiP) fiveR (.inl ⟨fiveN, rfl⟩))) fun a4 H4 e4 w4 => ?_
  refine ⟨(by show 4 ≤ sizeLine; decide), fun p hp => ?_⟩
  have s4 := (((sa.evo e1).evo e2).evo e3).evo e4
  have e5 := s4.sh.new0 (o := .lst ([a1, a2, a3, a4].map V.ref)) hp
  refine nx _ F _ p [a1, a2, a3, a4] ((s4.evo e5).env (EnvOk.setN (s4.evo e5).en rfl)) ?_ (Kpt.new s4.sh hp) fun a ha => ?_
  · have l1 := sa.en.1
    exact List.getElem?_set_self (by rw [l1]; show 21 < 23; decide)
  · simp only [List.mem_cons, List.not_mem_nil, or_false] at ha
    rcases ha with rfl | rfl | rfl | rfl
    · exact ((((w1.evo e2).evo e3).evo e4)).evo e5
    · exact ((w2.evo e3).evo e4).evo e5
    · exact (w3.evo e4).evo e5
    · exact w4.evo e5
end
end K3

set_option maxRecDepth 100000
set_option maxHeartbeats 4000000
namespace K3
open PySem PySem.Spec PyProof.Rows L2
open RP hiding Tb Tb.not Tb.upd Gm
open RP (Gm)
open LamX (Tabs TabS CodeO ExtN codeO_ne)
section
variable {P : Program} {w : World} {K : PySem.W.Frag} {mg : Str → Option Value} {base : Heap} {R Pp C0 : Addr} {Ps : List Addr} {pT : Addr} {q0 : Str}
variable {f c z : Addr} {k : Nat} {A : Around} {outer : List Env} {s : Shared} {H0 : Hp} {E : XK}
theorem Ev.run {Pt : Tbs} {G : Gm} {M : Mu} {te : TE} {Rr : VRel} {F H : Hp} {σ : L2.St} {Q : VK} (h : Ev Pt G M te Rr) (e : EnvOk F σ G) (s : Sh Pt M F H) (q : ∀ v F' H', Evo Pt M F H F' H' → Rr.R F' v → Q v H') : te σ H Q := h σ F H Q e s q
theorem EvS.run {Pt : Tbs} {B : Bs} {G : Gm} {M : Mu} {te : TE} {P1 : VRel → Mu → Prop} {F H : Hp} {σ : L2.St} {Q : VK} (h : EvS Pt B G M te P1) (s : Sa Pt B G M σ F H) (q : ∀ R M' v F' H', P1 R M' → R.R F' v → Q v H') : te σ H Q := h σ F H Q s fun R M' v F' H' p _ _ r => q R M' v F' H' p r
theorem andStep {ta tb : TE} {σ : L2.St} {H : Hp} {Q : VK} (h : ta σ H fun x H1 => ∃ c, x = .bl c ∧ if c = true then tb σ H1 Q else Q (.bl false) H1) : tAndV ta tb σ H Q := h
theorem nilEq {H : Hp} {a b : Addr} {Q : VK} (ha : H a = some (.lst [])) (hb : H b = some (.lst [])) (q : Q (.bl true) H) : rEqD K (.ref a) (.ref b) H Q :=
  rEq_lI (ns := []) (ms := []) (SqL.of ha) (SqL.of hb) (by rw [show decide (([] : List Int) = []) = true from by decide]; exact q)
theorem shownP : (ss (ks (mOf tbP))).map (prS (mOf tbP)) = [(ts (fig "AAA") ++ Str.ofString ".0", Str.ofString "PeQ")] := by
  rw [ks_m, show tbP.map (·.2) = [nmS "PeQ" 0] from rfl, ss_one]
  decide +kernel
theorem okT : ∀ x ∈ [(ts (fig "AAA") ++ Str.ofString ".0", Str.ofString "PeQ")], PyData.strOk x.1 = true ∧ PyData.strOk x.2 = true := by decide +kernel
theorem lenT : (ts (fig "AAA")).length + (Str.ofString ".0").length ≤ 100000 ∧ (ts (fig "AAA")).length + (Str.ofString ".1").length ≤ 100000 := by decide +kernel
theorem l7 (nP : pT ∉ Ps) (Z : Callees P w K mg base R Pp C0 Ps z k) (T : Txt K mg R Pp C0) (Y : Tol P w K mg base R Pp c pT k) (hr2 : Room (k + 2) (A.deeper (envOfC "law" (defScope s_law) s.heap.objs.size f (.ref c)))) : ∃ t, PS (LX0 P w K mg base f c A outer s H0 E) (lawS 7) t ∧ ∀ p1 pd1 p2 pd2 B D, (∀ H, D.rt (.bl true) H) → PreW (LX0 P w K mg base f c A outer s H0 E) k R Pp (PT Ps pT q0) B (gE C0 p1 pd1 p2 pd2) (ME pd1 pd2 tbA tbP) (t D) := by
  have hr := hr2.mono (show k ≤ k + 2 by omega)
  obtain ⟨g, fd, Fg, mgg, bd⟩ := Y.told
  obtain ⟨_, _, _, k_shown, M_shown⟩ := Z.shown
  obtain ⟨_, _, _, k_put, M_put⟩ := Z.put
  obtain ⟨_, _, _, k_figure, G_figure⟩ := Z.figure
  refine ⟨_, (ps_ret (pe_and (pe_cmpR (op_eqK (K0 := K) rfl hr.units) (LC.pe_lcI (own := [("pair", 22)]) (tt := fun σ => tTest (tOp rNe (LC.tToldC (LX0 P w K mg base f c A outer s H0 E) k σ (TT9 R Pp) (tCons (tOp (rIxT K) (tVar 22) (tC (.int 0))) tNil)) (tOp (rIxT K) (tVar 22) (tC (.int 1))))) rfl sc_law.nd (pi_list (pv 21)) (blkOk_by (by show blkC Nlaw (defScope s_law) _ _ = true; decide +kernel)) (fun _ _ _ _ _ => (pg_name (i := 22) sc_law.nd rfl (.inl rfl))) (fun _ _ _ _ _ _ _ I0 fpok => (pts_one (pt_cmpR op_ne (LC.pe_toldC (k := k) (Ng := ["what"]) I0 fpok (by rfl) mgg Fg bd sc__law_told rfl (.inl rfl) (fun cdv => told9_gives Y.N) hr2 (pa_cons (pe_ix (r := rIxT K) (ix_tupK rfl) (pv 22) pe_int (fun _ _ => rfl)) pa_nil)) (pe_ix (r := rIxT K) (ix_tupK rfl) (pv 22) pe_int (fun _ _ => rfl)) (nomark _)))) (fun _ _ _ _ _ => (pv 22))) (pe_lst pa_nil) (nomark _)) (pe_and (pe_cmpR (op_eqK (K0 := K) rfl hr.units) (pe_meth0 (pv 20) T.cl M_shown.m M_shown.ok (hr.mono k_shown) M_shown.b .nil passF) (pe_tup (pa_cons (pe_tup (pa_cons (pe_op op_add_str (pe_callTy call_str_int (by rfl) T.z_str (by decide +kernel) (pa_cons (pe_call G_figure.ok (hr.mono k_figure) (by rfl) G_figure.g G_figure.kp G_figure.b .nil passF (pa_cons pe_str pa_nil)) pa_nil)) pe_str) (pa_cons pe_str pa_nil))) pa_nil)) (nomark _)) (pe_one (pe_cmpR op_eq (pe_meth (pv 7) T.cl M_put.m M_put.ok (hr.mono k_put) M_put.b .nil passF (pa_cons pe_str pa_nil)) (pe_op op_add_str (pe_callTy call_str_int (by rfl) T.z_str (by decide +kernel) (pa_cons (pe_call G_figure.ok (hr.mono k_figure) (by rfl) G_figure.g G_figure.kp G_figure.b .nil passF (pa_cons pe_str pa_nil)) pa_nil)) pe_str) (nomark _)))))), fun p1 pd1 p2 pd2 B D rt σ F H a ps sa h21 ha hw => ?_⟩
  -- the comprehension
  refine ⟨.ref a, h21, a, rfl, ⟨_, SqL.of ha.1⟩, fun D' hD => ?_⟩
  have e0 := sa.sh.new0 (o := .lst []) hD
  have kD : Kpt (PT Ps pT q0) (ME pd1 pd2 tbA tbP) (upd H D' (.lst [])) D' (.lst []) := Kpt.new sa.sh hD
  refine lc_list (xs := ps.map V.ref) (fun i G => ∃ F', Evo (PT Ps pT q0) (ME pd1 pd2 tbA tbP) F H F' G ∧ Kpt (PT Ps pT q0) (ME pd1 pd2 tbA tbP) G D' (.lst [])) ⟨F, e0, kD⟩ (fun i G _ ⟨F', e, _⟩ => SqL.of (ha.evo e).1) ?_ ?_
  · rintro i x G e ⟨F', ev, hG⟩
    rw [List.getElem?_map] at e
    obtain ⟨p, hp2, rfl⟩ := Option.map_eq_some_iff.mp e
    obtain ⟨l, L, tl, wd, h1, h2, h3, cap, evx⟩ := (hw p (List.mem_of_getElem? hp2)).evo ev
    have sG := sa.evo ev
    have len : σ.length = 23 := sa.en.1
    have h22 : ((wipe σ [22]).set 22 (some (.ref p)))[22]? = some (some (V.ref p)) := List.getElem?_set_self (by rw [wipe_length, len]; decide)
    refine ⟨by simp [wipe], ?_⟩
    refine ⟨.ref p, h22, p, _, 0, _, rfl, rfl, SqT.of h1.1, rfl, l, L, tl, rfl, h2.1, h3.1, cap, h2.1, ?_⟩
    refine evx σ F' G _ sG.en sG.sh fun v F2 G2 e2 r2 => ?_
    cases r2
    refine ⟨.ref p, h22, p, _, 1, _, rfl, rfl, SqT.of (h1.evo e2).1, rfl, rfl, _, rfl, ?_⟩
    rw [show (!decide (V.str wd = V.str wd)) = false by simp]
    exact ⟨F2, ev.trans e2, hG.evo e2⟩
  · rintro G ⟨F', ev, hG⟩
    have sG := sa.evo ev
    refine ⟨(by show 0 ≤ sizeLine; decide), fun b hb => ?_⟩
    have e3 := sG.sh.new0 (o := .lst []) hb
    have s3 := sG.evo e3
    refine nilEq (hG.evo e3).1 upd_same ⟨true, rfl, ?_⟩
    rw [if_pos rfl]
    obtain ⟨q1, q2, q3, q4⟩ := smA
    refine andStep (Ev.run (G := gE C0 p1 pd1 p2 pd2) (M := ME pd1 pd2 tbA tbP) (Rr := Is K true) ?_ s3.en s3.sh fun v F4 H4 e4 r4 => ?_)
    · refine (Ev.op (Ev.meth (a := p2) (C := C0) (fs := stF pd2) (Ev.var (i := 20) rfl) rfl Ea.nil (oc_shown nP (StQ.mu inE2') (smM tiP))) (Ev.tupL (xs := [(ts (fig "AAA") ++ Str.ofString ".0", Str.ofString "PeQ")]) (Ea.cons (Ev.pair (Ev.op (Ev.cb (Ea.cons (Ev.call (Ea.cons (Ev.str (K := K)) Ea.nil) (oc_figure q1)) Ea.nil) (oc_strI (log_fig _))) Ev.str (o2_addS lenT.1)) Ev.str) Ea.nil) (by show 1 ≤ 100; decide)) (o2_eqD (tiP.okP mem_mOf) okT)).to ?_
      rw [shownP]
      simp
    · cases r4
      refine ⟨true, rfl, ?_⟩
      rw [if_pos rfl]
      have s4 := s3.evo e4
      refine EvS.run (G := gE C0 p1 pd1 p2 pd2) (M := ME pd1 pd2 tbA tbP) (P1 := fun Rr _ => Rr = Is K true) ?_ s4 fun Rr M' v F5 H5 h5 r5 => ?_
      · refine EvS.imp' (EvS.opR (P1 := fun _ => True) (Ra := Is K (due tbA "PeQ")) (EvS.imp' (EvS.meth (a := p1) (C := C0) (fs := stF pd1) (Ev.var (i := 7) rfl) rfl (Ea.cons (Ev.str (K := K)) Ea.nil) (ocS_put nP (j := 1) (tb := tbA) rfl tiA inPQ)) fun R1 M1 h => ⟨h.1, trivial⟩) (Rb := Is K (ts (fig "AAA") ++ Str.ofString ".1")) (fun M1 _ => ?_) (fun M1 _ => o2_eq)) fun R1 M1 h => by rw [h.1, due_AP]; simp
        exact Ev.op (Ev.cb (Ea.cons (Ev.call (Ea.cons (Ev.str (K := K)) Ea.nil) (oc_figure q1)) Ea.nil) (oc_strI (log_fig _))) Ev.str (o2_addS lenT.2)
      · subst h5
        cases r5
        exact rt H5
end
end K3

set_option maxRecDepth 100000
set_option maxHeartbeats 4000000
namespace K3
open PySem PySem.Spec PyProof.Rows L2
open RP hiding Tb Tb.not Tb.upd Gm
open RP (Gm)
open LamX (Tabs TabS CodeO ExtN codeO_ne)
section
variable {P : Program} {w : World} {K : PySem.W.Frag} {mg : Str → Option Value} {base : Heap} {R Pp C0 : Addr} {Ps : List Addr} {pT : Addr} {q0 : Str}
variable {f c z : Addr} {k : Nat} {A : Around} {outer : List Env} {s : Shared} {H0 : Hp} {E : XK}
theorem round_is : forB (lawS 1) = [lb 0, lb 1, lb 2, lb 3, lb 4, lb 5, lb 6, lb 7, lb 8, lb 9, lb 10] := rfl
theorem lround (nP : pT ∉ Ps) (Z : Callees P w K mg base R Pp C0 Ps z k) (T : Txt K mg R Pp C0) (Y : Tol P w K mg base R Pp c pT k) (hq : q0 = (LX0 P w K mg base f c A outer s H0 E).env.qual ++ "<lambda>") (hr2 : Room (k + 2) (A.deeper (envOfC "law" (defScope s_law) s.heap.objs.size f (.ref c)))) : ∃ t, PSs (LX0 P w K mg base f c A outer s H0 E) (forB (lawS 1)) t ∧ ∀ d B D, Nx (PT Ps pT q0) B gZ [] D.nx → Nx (PT Ps pT q0) B (gI K d) [(d, DiceM)] (t D) := by
  have hr := hr2.mono (show k ≤ k + 2 by omega)
  obtain ⟨t0, p0, h0⟩ := l10 (q0 := q0) (A := A) (outer := outer) (s := s) (H0 := H0) (E := E) nP Z T hr
  obtain ⟨t1, p1, h1⟩ := l11 (q0 := q0) (A := A) (outer := outer) (s := s) (H0 := H0) (E := E) nP Z T hr
  obtain ⟨t2, p2, h2⟩ := l12 (q0 := q0) (A := A) (outer := outer) (s := s) (H0 := H0) (E := E) nP Z T hr
  obtain ⟨t3, p3, h3⟩ := l13 (q0 := q0) (A := A) (outer := outer) (s := s) (H0 := H0) (E := E) nP Z T hr
  obtain ⟨t4, p4, h4⟩ := l14 (P := P) (w := w) (base := base) (R := R) (Pp := Pp) (Ps := Ps) (pT := pT) (q0 := q0) (A := A) (outer := outer) (s := s) (H0 := H0) (E := E) (c := c) (f := f) T hr
  obtain ⟨t5, p5, h5⟩ := l15 (q0 := q0) (A := A) (outer := outer) (s := s) (H0 := H0) (E := E) nP Z T hr
  obtain ⟨t6, p6, h6⟩ := l16 (q0 := q0) (A := A) (outer := outer) (s := s) (H0 := H0) (E := E) nP Z T hr
  obtain ⟨t7, p7, h7⟩ := l17 (q0 := q0) (A := A) (outer := outer) (s := s) (H0 := H0) (E := E) nP Z T hr
  obtain ⟨t8, p8, h8⟩ := l18 (q0 := q0) (A := A) (outer := outer) (s := s) (H0 := H0) (E := E) nP Z T hr
  obtain ⟨t9, p9, h9⟩ := l19 (q0 := q0) (A := A) (outer := outer) (s := s) (H0 := H0) (E := E) nP Z T hr
  obtain ⟨tA, pA, hA⟩ := l1A (q0 := q0) (A := A) (outer := outer) (s := s) (H0 := H0) (E := E) nP Z T Y hq hr2
  refine ⟨_, by rw [round_is]; exact pss_cons p0 (pss_cons p1 (pss_cons p2 (pss_cons p3 (pss_cons p4 (pss_cons p5 (pss_cons p6 (pss_cons p7 (pss_cons p8 (pss_cons p9 (pss_one pA)))))))))), fun d B D nx => ?_⟩
  refine Nx.seq (h0 d _ _ fun p pd Da => ?_)
  refine Nx.seq (h1 d p pd Da _ _ fun Da tb ti => ?_)
  refine Nx.seq (h2 d p pd Da tb _ _ ti ?_)
  refine Nx.seq (h3 d p pd Da tb _ _ ti ?_)
  refine Nx.seq (h4 d p pd Da tb _ _ ti ?_)
  refine Nx.seq (h5 d p pd Da tb _ _ ti ?_)
  refine Nx.seq (h6 d p pd Da tb _ _ ti fun p2 pd2 m2 o => ?_)
  refine Nx.seq (h7 d p pd Da tb p2 pd2 m2 _ _ ti o ?_)
  refine Nx.seq (h8 d p pd Da tb p2 pd2 m2 _ _ ti o ?_)
  refine Nx.seq (h9 d p pd Da tb p2 pd2 m2 _ _ _ ti (full_FI o ti) ?_)
  exact hA d p pd Da tb p2 pd2 _ _ _ ti (full_FI o ti) nx
def One (d : Addr) : VRel := ⟨fun F v => ∃ p, v = .ref p ∧ F p = some (.lst [.ref d]), fun F F' v l ⟨p, e, h⟩ => ⟨p, e, l _ _ h⟩⟩
theorem ocS_rounds {B : Bs} {G : Gm} {M : Mu} {a : Addr} {ns : List Int} (nP : pT ∉ Ps) (ha : SqL K B.H0 a (ns.map V.int)) (tb0 : RP.Tb (PT Ps pT q0) B.H0) (nW : ∀ x, ¬ B.W x) : OcS (PT Ps pT q0) B G M (fun vs H Q => sp__law_rounds K Ps (vs ++ []) H Q E) [At a, Is K (1 : Int)] (fun Rr M' => ∃ d, Rr = One d ∧ M' = (d, DiceM) :: M) := fun σ F H vs Q s r q => by
  obtain ⟨v0, w0, rfl, r1, r2⟩ := rs2 r
  cases r1
  cases r2
  have nt : ∀ {o : HO}, B.H0 a = some o → (∀ ps, o ≠ .tbl ps) → H a = some o := fun {o} h n => s.keep a o h (fun z => by
    obtain ⟨e, he, rfl⟩ := List.mem_map.mp z
    obtain ⟨ps, hp⟩ := (tb0 e he).at
    rw [h] at hp
    exact n ps (Option.some.inj hp)) (nW a)
  have ha' : SqL K H a (ns.map V.int) := ha.elim (fun h => .inl (h.elim (fun h => .inl (nt h fun _ z => by cases z)) fun ⟨o, h⟩ => .inr ⟨o, nt h fun _ z => by cases z⟩)) .inr
  refine ⟨a, ns, rfl, ha', Tb.tb0 s.sh.tb, fun H' p d g hp hd ne h1 ⟨x, y, v, h2⟩ => ?_⟩
  have s1 := s.new (r := DiceM) (o := .lst [.int x, .int y, .int v]) hd ⟨x, y, v, rfl⟩
  have hp' : (upd H d (.lst [.int x, .int y, .int v])) p = none := by rw [upd_ne ne.symm]; exact hp
  have e2 := s1.sh.new (o := .lst [.ref d]) hp'
  have s2 := s1.evo e2
  have e3 := Evo.gw s2.sh nP (H' := H') ⟨g.1, fun b o nb hb => by
    by_cases z : b = p
    · subst z
      rw [upd_same] at hb
      rw [h1, Option.some.inj hb]
    · rw [upd_ne z] at hb
      by_cases z2 : b = d
      · subst z2
        rw [upd_same] at hb
        rw [h2, Option.some.inj hb]
      · rw [upd_ne z2] at hb
        exact g.2 b o nb hb⟩
  exact q (One d) _ _ _ H' ⟨d, rfl, rfl⟩ (s2.evo e3) e2.le ⟨p, rfl, upd_same⟩
def gS (K : PySem.W.Frag) (a : Addr) : Gm := [some (At a), some (Is K drawn), none, none, none, none, none, none, none, none, none, none, none, none, none, none, none, none, none, none, none, none, none]
def gB (a : Addr) : Gm := [some (At a), none, none, none, none, none, none, none, none, none, none, none, none, none, none, none, none, none, none, none, none, none, none]
theorem l0 : ∃ t, PS (LX0 P w K mg base f c A outer s H0 E) (lawS 0) t ∧ ∀ a B D, Nx (PT Ps pT q0) B (gS K a) [] D.nx → Nx (PT Ps pT q0) B (gB a) [] (t D) := by
  refine ⟨_, (ps_set (i := 1) sc_law.nd rfl (.inl rfl) (pe_lst (pa_cons pe_str (pa_cons pe_str (pa_cons pe_str (pa_cons pe_str (pa_cons pe_str (pa_cons pe_str pa_nil)))))))), fun a B D nx => ?_⟩
  exact Nx.set (R := Is K drawn) (Ev.lstL (xs := drawn) (Ea.cons Ev.str (Ea.cons Ev.str (Ea.cons Ev.str (Ea.cons Ev.str (Ea.cons Ev.str (Ea.cons Ev.str Ea.nil)))))) (by decide)) nx
theorem l1 (nP : pT ∉ Ps) (Z : Callees P w K mg base R Pp C0 Ps z k) (T : Txt K mg R Pp C0) (Y : Tol P w K mg base R Pp c pT k) (hq : q0 = (LX0 P w K mg base f c A outer s H0 E).env.qual ++ "<lambda>") (hr2 : Room (k + 2) (A.deeper (envOfC "law" (defScope s_law) s.heap.objs.size f (.ref c)))) : ∃ t, PS (LX0 P w K mg base f c A outer s H0 E) (lawS 1) t ∧ ∀ (a : Addr) (ns : List Int) (B : Bs) (D : L2.Ends), SqL K B.H0 a (ns.map V.int) → RP.Tb (PT Ps pT q0) B.H0 → (∀ x, ¬ B.W x) → Nx (PT Ps pT q0) B gZ [] D.nx → Nx (PT Ps pT q0) B (gS K a) [] (t D) := by
  obtain ⟨tb, pb, hb⟩ := lround (q0 := q0) (A := A) (outer := outer) (s := s) (H0 := H0) (E := E) nP Z T Y hq hr2
  obtain ⟨_, _, _, k_law_rounds, G_law_rounds⟩ := Z.rounds
  have hr := hr2.mono (show k ≤ k + 2 by omega)
  refine ⟨_, (ps_for (passes_of rfl) rfl (pi_list (pe_call G_law_rounds.ok (hr.mono k_law_rounds) (by rfl) G_law_rounds.g G_law_rounds.kp G_law_rounds.b .nil passF (pa_cons (pv 0) (pa_cons pe_int pa_nil)))) (pg_name (i := 2) sc_law.nd rfl (.inr rfl)) pb), fun a ns B D ha tb0 nW nx => fun σ F H sa => ?_⟩
  refine (EvS.call (Ea.cons (Ev.var rfl) (Ea.cons (Ev.int (K := K) (n := 1)) Ea.nil)) (ocS_rounds nP ha tb0 nW)) σ F H _ sa fun Rr M1 v F1 H1 p1 s1 le1 r1 => ?_
  obtain ⟨d, rfl, rfl⟩ := p1
  obtain ⟨p, rfl, hp⟩ := r1
  have dn := BLe.up s1
  refine ⟨p, rfl, ⟨_, SqL.of (s1.sh.sub.lst hp)⟩, for_list (xs := [.ref d]) (fun i σ H => ∃ F', Sa (PT Ps pT q0) ⟨F1, B.H0, B.W⟩ (if i = 0 then gS K a else gZ) (if i = 0 then [(d, DiceM)] else []) σ F' H) ⟨F1, s1.up⟩ (fun i σ H _ ⟨F', s'⟩ => SqL.of (s'.sh.sub.lst (s'.le _ _ hp))) ?_ ?_⟩
  · rintro i x σ' H' hx ⟨F', s'⟩
    cases i with
    | succ i => simp at hx
    | zero =>
      obtain rfl : V.ref d = x := by simpa using hx
      have hN := hb d ⟨F1, B.H0, B.W⟩ { D with nx := fun σ H => ∃ F', Sa (PT Ps pT q0) ⟨F1, B.H0, B.W⟩ (if 0 + 1 = 0 then gS K a else gZ) (if 0 + 1 = 0 then [(d, DiceM)] else []) σ F' H, ct := fun σ H => ∃ F', Sa (PT Ps pT q0) ⟨F1, B.H0, B.W⟩ (if 0 + 1 = 0 then gS K a else gZ) (if 0 + 1 = 0 then [(d, DiceM)] else []) σ F' H, bk := D.nx } (fun σ F H s => ⟨F, s⟩)
      exact hN _ F' H' (s'.env ((s'.en.set (i := 2) (R := At d) rfl).le (by show GLe [some (At a), some (Is K drawn), some (At d), none, none, none, none, none, none, none, none, none, none, none, none, none, none, none, none, none, none, none, none] (gI K d); (repeat' (first | exact RP.GLe.nil | apply RP.GLe.keep | apply RP.GLe.drop)))))
  · rintro σ' H' ⟨F', s'⟩
    exact nx σ' F' H' (dn _ _ _ _ _ s')
end
end K3

set_option maxRecDepth 100000
set_option maxHeartbeats 4000000
namespace K3
open PySem PySem.Spec PyProof.Rows L2
open RP hiding Tb Tb.not Tb.upd Gm
open RP (Gm)
open LamX (Tabs TabS CodeO ExtN codeO_ne)
section
variable {P : Program} {w : World} {K : PySem.W.Frag} {mg : Str → Option Value} {base : Heap} {R Pp C0 : Addr} {Ps : List Addr}
variable {f c z : Addr} {k : Nat}
def sp_law (K : PySem.W.Frag) (T : List (Addr × Str)) (Ps : List Addr) : Sp := fun vs H Q E => ∃ (a : Addr) (ns : List Int), vs = [.ref a] ∧ SqL K H a (ns.map V.int) ∧ Tabs T H ∧ K3.Tb Ps H ∧ ∀ H', Q (.bl true) H'
theorem body_is : defBody s_law = [lawS 0, lawS 1, lawS 2, lawS 3, lawS 4, lawS 5, lawS 6, lawS 7] := rfl
/-- the name of the law's lambdas -/
def lamQ : Str := (envOfC "law" (defScope s_law) 0 0 (.ref 0)).qual ++ "<lambda>"
theorem ok_law {pT : Addr} {fdl : FuncData} (F : FunC K "law" "law" s_law f fdl c) (Z : Callees P w K mg base R Pp C0 Ps z k) (T : Txt K mg R Pp C0) (Y : Tol P w K mg base R Pp c pT k) (nP : pT ∉ Ps) :
    FnOk P w K mg base (L2.CX P w) (k + 3) f fdl ["script"] (sp_law K [(pT, lamQ)] Ps) := by
  refine F.okX sc_law (fun vs H Q E h => ?_) (fun A outer s H vs Q E hr h => ?_)
  · obtain ⟨a, ns, rfl, _⟩ := h
    rfl
  · obtain ⟨a, ns, rfl, ha, tab, tb, hq⟩ := h
    have hr0 := hr.mono (show k ≤ k + 2 by omega)
    obtain ⟨t0, p0, h0⟩ := l0 (P := P) (w := w) (K := K) (mg := mg) (base := base) (Ps := Ps) (pT := pT) (q0 := lamQ) (f := f) (c := c) (A := A) (outer := outer) (s := s) (H0 := H) (E := E)
    obtain ⟨t1, p1, h1⟩ := l1 (q0 := lamQ) (f := f) (A := A) (outer := outer) (s := s) (H0 := H) (E := E) nP Z T Y rfl hr
    obtain ⟨t2, p2, h2⟩ := l2 (pT := pT) (q0 := lamQ) (f := f) (A := A) (outer := outer) (s := s) (H0 := H) (E := E) Z hr0
    obtain ⟨t3, p3, h3⟩ := l3 (q0 := lamQ) (f := f) (A := A) (outer := outer) (s := s) (H0 := H) (E := E) nP Z T hr0
    obtain ⟨t4, p4, h4⟩ := l4 (q0 := lamQ) (f := f) (A := A) (outer := outer) (s := s) (H0 := H) (E := E) nP Z T hr0
    obtain ⟨t5, p5, h5⟩ := l5 (q0 := lamQ) (f := f) (A := A) (outer := outer) (s := s) (H0 := H) (E := E) nP Z T hr0
    obtain ⟨t6, p6, h6⟩ := l6 (q0 := lamQ) (f := f) (A := A) (outer := outer) (s := s) (H0 := H) (E := E) nP Z T Y rfl
    obtain ⟨t7, p7, h7⟩ := l7 (q0 := lamQ) (f := f) (A := A) (outer := outer) (s := s) (H0 := H) (E := E) nP Z T Y hr
    refine ⟨_, by rw [body_is]; exact pss_cons p0 (pss_cons p1 (pss_cons p2 (pss_cons p3 (pss_cons p4 (pss_cons p5 (pss_cons p6 (pss_one p7))))))), ?_⟩
    have tb0 : RP.Tb (PT Ps pT lamQ) H := fun e he => by
      rcases List.mem_cons.mp he with rfl | he
      · exact tab _ (List.mem_singleton.mpr rfl)
      · obtain ⟨q, hq, rfl⟩ := List.mem_map.mp he
        exact tb q hq
    have sh : Sh (PT Ps pT lamQ) [] (fun _ => none) H := ⟨(fun _ _ e => nomatch e), tb0, (fun _ _ => rfl), (fun _ h => nomatch h), (fun _ h => nomatch h), List.nodup_nil, (fun _ _ e => nomatch e)⟩
    have sa := Sa.start (N := Nlaw) (Rs := [At a]) (us := [.ref a]) sh (.cons rfl .nil)
    have big : Nx (PT Ps pT lamQ) ⟨fun _ => none, H, fun a => a ∈ ([] : Mu).map (·.1)⟩ (gB a) [] (tSeq t0 (tSeq t1 (tSeq t2 (tSeq t3 (tSeq t4 (tSeq t5 (tSeq t6 t7)))))) { nx := fun _ H' => Q .non H', rt := Q }) := by
      refine Nx.seq (h0 a _ _ ?_)
      refine Nx.seq (h1 a ns _ _ ha tb0 (fun _ h => nomatch h) ?_)
      refine Nx.seq (h2 _ _ ?_)
      refine Nx.seq (h3 _ _ fun p1 pd1 p2 pd2 => ?_)
      refine Nx.seq (h4 p1 pd1 p2 pd2 _ _ ?_)
      refine Nx.seq (h5 p1 pd1 p2 pd2 _ _ ?_)
      refine Nx.seq (h6 p1 pd1 p2 pd2 _ _ ?_)
      exact h7 p1 pd1 p2 pd2 _ _ hq
    exact big _ _ _ sa
end
end K3

set_option maxRecDepth 100000
set_option maxHeartbeats 4000000
namespace K3
open PySem PySem.Spec PyProof.Rows L2
open LamX (Tabs TabS)
def mkD (x : Str) (st : Stmt) : He.DefD := ⟨(x, none), x, x, defArgs st, defBody st, defScope st, [], []⟩
def mkM (x q : Str) (st : Stmt) : He.DefD := ⟨("Store", some x), x, q, defArgs st, defBody st, defScope st, [], []⟩
/-- the empty tuple that stands for what isn't given -/
def dfI (K : PySem.W.Frag) : Addr := He.dflAt ("Store", some "__init__") 0 K
def mkI : He.DefD := ⟨("Store", some "__init__"), "__init__", "Store.__init__", defArgs s_init, defBody s_init, defScope s_init, [.adr dfI], []⟩
def fnL : List He.DefD := [mkM "put" "Store.put" s_put, mkM "free_name" "Store.free_name" s_free, mkM "get" "Store.get" s_get, mkM "find" "Store.find" s_find, mkM "drop" "Store.drop" s_drop, mkM "names" "Store.names" s_names, mkM "size" "Store.size" s_size, mkM "broken" "Store.broken" s_broken, mkM "shown" "Store.shown" s_shown, mkD "figure" s_figure, mkD "is_right" s_is_right, mkD "copied" s_copied, mkD "missing" s_missing, mkD "mended" s_mended, mkD "_law_dice" s__law_dice, mkD "_law_roll" s__law_roll, mkD "_law_rounds" s__law_rounds, mkD "_law_told" s__law_told, mkD "_law_figure" s__law_figure, mkD "_law_else" s__law_else, mkD "law" s_law, mkI]
def faL : List He.Fa := [.glo "figure", .glo "is_right", .glo "copied", .glo "missing", .glo "mended", .glo "_law_dice", .glo "_law_roll", .glo "_law_rounds", .glo "_law_told", .glo "_law_figure", .glo "_law_else", .glo "law", .glo "BadPath", .glo "BadPiece", .glo "BadRule", .glo "BadPaper", .glo "BadSize", .glo "BadStore", .glo "BadText", .glo "Lost", .glo "NoSuch", .glo "Store", .exc "NoSuch", .exc "BadPiece", .exm "NoSuch" "BadPath" false, .exm "BadPiece" "BadPath" false, .exm "NoSuch" "BadPiece" false, .exm "BadPiece" "BadPiece" true, .exm "NoSuch" "BadRule" false, .exm "NoSuch" "BadPaper" false, .exm "NoSuch" "BadSize" false, .exm "NoSuch" "BadStore" false, .exm "NoSuch" "BadText" false, .exm "NoSuch" "Lost" false, .exm "NoSuch" "NoSuch" true, .cls "Store", .noat "Store" "pieces", .meth "Store" "put", .meth "Store" "free_name", .meth "Store" "get", .meth "Store" "find", .meth "Store" "drop", .meth "Store" "names", .meth "Store" "size", .meth "Store" "broken", .meth "Store" "shown", .mkr "Store", .int "BASE" 257, .int "WIDE" 1000003, .free "len", .free "range", .free "tuple", .free "sum", .free "set", .free "min", .free "max", .free "int", .free "abs", .free "list", .free "dict", .free "sorted", .free "ord", .free "str"]
def tfL : List He.Defn := [("Store", some "size"), ("Store", some "broken"), ("Store", some "shown"), ("law", none)]
theorem fun_of {K : PySem.W.Frag} {x q : Str} {st : Stmt} {f : Addr} {fd : FuncData} (F : FunD K x q (defArgs st) (defBody st) (defScope st) [] [] f fd) : Fun K x q st f fd := by
  obtain ⟨oc, od, dV, kV, doc, pm, an, cdv, ct, osl, e, lk, hcd, hD, hK⟩ := F.ex
  rcases hD with ⟨_, rfl⟩ | ⟨e, _⟩
  · exact ⟨⟨oc, od, kV, doc, pm, an, cdv, ct, osl, e, lk, hcd⟩, F.kp⟩
  · exact absurd rfl e
theorem funC_of {K : PySem.W.Frag} {p : Str × Option Str} {x q : Str} {st : Stmt} {fd : FuncData} (F : FunD K x q (defArgs st) (defBody st) (defScope st) [] [] (He.fAd K p) fd) : FunC K x q st (He.fAd K p) fd (He.codeOf K p) := by
  obtain ⟨oc, od, dV, kV, doc, pm, an, cdv, ct, osl, e, lk, hcd, hD, hK⟩ := F.ex
  obtain ⟨c0, rfl⟩ := He.codeIn_ref hcd
  rcases hD with ⟨_, rfl⟩ | ⟨e, _⟩
  · have ec : He.codeOf K p = c0 := He.codeOf_eq (p := p) lk (by rw [e])
    rw [ec]
    exact ⟨⟨oc, od, kV, doc, pm, an, ct, osl, e, lk, hcd⟩, F.kp⟩
  · exact absurd rfl e
/-- the empty tuple is one -/
def exT (K : PySem.W.Frag) : Bool := match K.lookup (dfI K) with
  | some ⟨.type c, _, .seq its _, _⟩ => decide (c = "tuple") && decide (its.size = 0)
  | _ => false
theorem exT_ok {K : PySem.W.Frag} (h : exT K = true) (H : Hp) : SqT K H (dfI K) [] := by
  unfold exT at h
  cases q : K.lookup (dfI K) with
  | none => rw [q] at h; cases h
  | some o =>
    obtain ⟨oc, od, dt, osl⟩ := o
    rw [q] at h
    cases oc with
    | type c =>
      cases dt with
      | seq its n =>
        have h : (decide (c = "tuple") && decide (its.size = 0)) = true := h
        rw [Bool.and_eq_true, decide_eq_true_iff, decide_eq_true_iff] at h
        have e0 : its = #[] := Array.eq_empty_of_size_eq_zero h.2
        subst e0
        exact .inr ⟨_, #[], n, q, congrArg Value.type h.1, rfl, Nat.zero_le _, .nil⟩
      | _ => cases h
    | _ => cases dt <;> cases h
/-- the law's own table is none of the others -/
def exL (K : PySem.W.Frag) : Bool := !([(He.cT K ("Store", some "size")).2, (He.cT K ("Store", some "broken")).2, (He.cT K ("Store", some "shown")).2].contains (He.cT K ("law", none)).2) && exT K
theorem triples0 : TriplesOk ([] : List Value) := by
  first | exact .nil | exact trivial | simp [TriplesOk]
theorem facts {l : PySem.W.OpenLaw} {w : World} {K : PySem.W.Frag} {h : Heap} {mg : Str → Option Value} {fa : Addr} {n : Nat} (X : K.In h) (G : h.Ns mainGlobals mg) (hfa : mg ("law" : Str) = some (.ref fa)) (c : He.SaysX faL fnL [] tfL exL w h K) :
    LamX.LawAtS l w K (L2.CX l.prog w) 14 n "script" mg fa h := by
  have c0 := c.t.d
  obtain ⟨d0, F0⟩ := c0.def_ 0 (d := mkM "put" "Store.put" s_put) rfl
  obtain ⟨d1, F1⟩ := c0.def_ 1 (d := mkM "free_name" "Store.free_name" s_free) rfl
  obtain ⟨d2, F2⟩ := c0.def_ 2 (d := mkM "get" "Store.get" s_get) rfl
  obtain ⟨d3, F3⟩ := c0.def_ 3 (d := mkM "find" "Store.find" s_find) rfl
  obtain ⟨d4, F4⟩ := c0.def_ 4 (d := mkM "drop" "Store.drop" s_drop) rfl
  obtain ⟨d5, F5⟩ := c0.def_ 5 (d := mkM "names" "Store.names" s_names) rfl
  obtain ⟨d6, F6⟩ := c0.def_ 6 (d := mkM "size" "Store.size" s_size) rfl
  obtain ⟨d7, F7⟩ := c0.def_ 7 (d := mkM "broken" "Store.broken" s_broken) rfl
  obtain ⟨d8, F8⟩ := c0.def_ 8 (d := mkM "shown" "Store.shown" s_shown) rfl
  obtain ⟨d9, F9⟩ := c0.def_ 9 (d := mkD "figure" s_figure) rfl
  obtain ⟨d10, F10⟩ := c0.def_ 10 (d := mkD "is_right" s_is_right) rfl
  obtain ⟨d11, F11⟩ := c0.def_ 11 (d := mkD "copied" s_copied) rfl
  obtain ⟨d12, F12⟩ := c0.def_ 12 (d := mkD "missing" s_missing) rfl
  obtain ⟨d13, F13⟩ := c0.def_ 13 (d := mkD "mended" s_mended) rfl
  obtain ⟨d14, F14⟩ := c0.def_ 14 (d := mkD "_law_dice" s__law_dice) rfl
  obtain ⟨d15, F15⟩ := c0.def_ 15 (d := mkD "_law_roll" s__law_roll) rfl
  obtain ⟨d16, F16⟩ := c0.def_ 16 (d := mkD "_law_rounds" s__law_rounds) rfl
  obtain ⟨d17, F17⟩ := c0.def_ 17 (d := mkD "_law_told" s__law_told) rfl
  obtain ⟨d18, F18⟩ := c0.def_ 18 (d := mkD "_law_figure" s__law_figure) rfl
  obtain ⟨d19, F19⟩ := c0.def_ 19 (d := mkD "_law_else" s__law_else) rfl
  obtain ⟨d20, F20⟩ := c0.def_ 20 (d := mkD "law" s_law) rfl
  obtain ⟨d21, F21⟩ := c0.def_ 21 (d := mkI) rfl
  have g_figure := He.glo_ok X G (c0.fact 0 (f := .glo "figure") rfl)
  have g_is_right := He.glo_ok X G (c0.fact 1 (f := .glo "is_right") rfl)
  have g_copied := He.glo_ok X G (c0.fact 2 (f := .glo "copied") rfl)
  have g_missing := He.glo_ok X G (c0.fact 3 (f := .glo "missing") rfl)
  have g_mended := He.glo_ok X G (c0.fact 4 (f := .glo "mended") rfl)
  have g__law_dice := He.glo_ok X G (c0.fact 5 (f := .glo "_law_dice") rfl)
  have g__law_roll := He.glo_ok X G (c0.fact 6 (f := .glo "_law_roll") rfl)
  have g__law_rounds := He.glo_ok X G (c0.fact 7 (f := .glo "_law_rounds") rfl)
  have g__law_told := He.glo_ok X G (c0.fact 8 (f := .glo "_law_told") rfl)
  have g__law_figure := He.glo_ok X G (c0.fact 9 (f := .glo "_law_figure") rfl)
  have g__law_else := He.glo_ok X G (c0.fact 10 (f := .glo "_law_else") rfl)
  have g_law := He.glo_ok X G (c0.fact 11 (f := .glo "law") rfl)
  have g_BadPath := He.glo_ok X G (c0.fact 12 (f := .glo "BadPath") rfl)
  have g_BadPiece := He.glo_ok X G (c0.fact 13 (f := .glo "BadPiece") rfl)
  have g_BadRule := He.glo_ok X G (c0.fact 14 (f := .glo "BadRule") rfl)
  have g_BadPaper := He.glo_ok X G (c0.fact 15 (f := .glo "BadPaper") rfl)
  have g_BadSize := He.glo_ok X G (c0.fact 16 (f := .glo "BadSize") rfl)
  have g_BadStore := He.glo_ok X G (c0.fact 17 (f := .glo "BadStore") rfl)
  have g_BadText := He.glo_ok X G (c0.fact 18 (f := .glo "BadText") rfl)
  have g_Lost := He.glo_ok X G (c0.fact 19 (f := .glo "Lost") rfl)
  have g_NoSuch := He.glo_ok X G (c0.fact 20 (f := .glo "NoSuch") rfl)
  have g_Store := He.glo_ok X G (c0.fact 21 (f := .glo "Store") rfl)
  obtain ⟨r1, r2, r3, r4⟩ := He.exc_ok (c0.fact 22 (f := .exc "NoSuch") rfl)
  obtain ⟨p1, p2, p3, p4⟩ := He.exc_ok (c0.fact 23 (f := .exc "BadPiece") rfl)
  have y0 := He.exm_ok (c0.fact 24 (f := .exm "NoSuch" "BadPath" false) rfl)
  have y1 := He.exm_ok (c0.fact 25 (f := .exm "BadPiece" "BadPath" false) rfl)
  have y2 := He.exm_ok (c0.fact 26 (f := .exm "NoSuch" "BadPiece" false) rfl)
  have y3 := He.exm_ok (c0.fact 27 (f := .exm "BadPiece" "BadPiece" true) rfl)
  have y4 := He.exm_ok (c0.fact 28 (f := .exm "NoSuch" "BadRule" false) rfl)
  have y5 := He.exm_ok (c0.fact 29 (f := .exm "NoSuch" "BadPaper" false) rfl)
  have y6 := He.exm_ok (c0.fact 30 (f := .exm "NoSuch" "BadSize" false) rfl)
  have y7 := He.exm_ok (c0.fact 31 (f := .exm "NoSuch" "BadStore" false) rfl)
  have y8 := He.exm_ok (c0.fact 32 (f := .exm "NoSuch" "BadText" false) rfl)
  have y9 := He.exm_ok (c0.fact 33 (f := .exm "NoSuch" "Lost" false) rfl)
  have y10 := He.exm_ok (c0.fact 34 (f := .exm "NoSuch" "NoSuch" true) rfl)
  have hcls := He.cls_ok (c0.fact 35 (f := .cls "Store") rfl)
  have n_pieces := He.noat_ok (c0.fact 36 (f := .noat "Store" "pieces") rfl)
  have m_put := He.meth_ok (c0.fact 37 (f := .meth "Store" "put") rfl)
  have m_free_name := He.meth_ok (c0.fact 38 (f := .meth "Store" "free_name") rfl)
  have m_get := He.meth_ok (c0.fact 39 (f := .meth "Store" "get") rfl)
  have m_find := He.meth_ok (c0.fact 40 (f := .meth "Store" "find") rfl)
  have m_drop := He.meth_ok (c0.fact 41 (f := .meth "Store" "drop") rfl)
  have m_names := He.meth_ok (c0.fact 42 (f := .meth "Store" "names") rfl)
  have m_size := He.meth_ok (c0.fact 43 (f := .meth "Store" "size") rfl)
  have m_broken := He.meth_ok (c0.fact 44 (f := .meth "Store" "broken") rfl)
  have m_shown := He.meth_ok (c0.fact 45 (f := .meth "Store" "shown") rfl)
  have hmk := He.mkr_ok (c0.fact 46 (f := .mkr "Store") rfl)
  have i_BASE := He.int_ok X G (c0.fact 47 (f := .int "BASE" 257) rfl)
  have i_WIDE := He.int_ok X G (c0.fact 48 (f := .int "WIDE" 1000003) rfl)
  have z_len := He.free_ok X G (c0.fact 49 (f := .free "len") rfl)
  have z_range := He.free_ok X G (c0.fact 50 (f := .free "range") rfl)
  have z_tuple := He.free_ok X G (c0.fact 51 (f := .free "tuple") rfl)
  have z_sum := He.free_ok X G (c0.fact 52 (f := .free "sum") rfl)
  have z_set := He.free_ok X G (c0.fact 53 (f := .free "set") rfl)
  have z_min := He.free_ok X G (c0.fact 54 (f := .free "min") rfl)
  have z_max := He.free_ok X G (c0.fact 55 (f := .free "max") rfl)
  have z_int := He.free_ok X G (c0.fact 56 (f := .free "int") rfl)
  have z_abs := He.free_ok X G (c0.fact 57 (f := .free "abs") rfl)
  have z_list := He.free_ok X G (c0.fact 58 (f := .free "list") rfl)
  have z_dict := He.free_ok X G (c0.fact 59 (f := .free "dict") rfl)
  have z_sorted := He.free_ok X G (c0.fact 60 (f := .free "sorted") rfl)
  have z_ord := He.free_ok X G (c0.fact 61 (f := .free "ord") rfl)
  have z_str := He.free_ok X G (c0.fact 62 (f := .free "str") rfl)
  have e := hfa.symm.trans g_law
  cases e
  have T : Txt K mg (He.ga K "NoSuch") (He.ga K "BadPiece") (He.ga K "Store") := ⟨r1, g_NoSuch, r2, r3, r4, p1, g_BadPiece, p2, p3, p4, hcls, g_Store, n_pieces, i_BASE, i_WIDE, z_len, z_range, z_tuple, z_sum, z_set, z_min, z_max, z_int, z_abs, z_list, z_dict, z_sorted, z_ord, z_str⟩
  have N : Nine K mg (He.ga K "NoSuch") (He.ga K "BadPiece") := ⟨⟨_, g_BadPath, y0, y1⟩, ⟨g_BadPiece, y2, y3⟩, ⟨_, g_BadRule, y4⟩, ⟨_, g_BadPaper, y5⟩, ⟨_, g_BadSize, y6⟩, ⟨_, g_BadStore, y7⟩, ⟨_, g_BadText, y8⟩, ⟨_, g_Lost, y9⟩, ⟨g_NoSuch, y10⟩⟩
  have f0 := fun_of (x := "put") (q := "Store.put") (st := s_put) F0
  have b0 := f0.binds (ps := ["self", "piece"]) fun _ _ _ _ _ _ us hl => match us, hl with | [_, _], _ => rfl
  have f1 := fun_of (x := "free_name") (q := "Store.free_name") (st := s_free) F1
  have b1 := f1.binds (ps := ["self", "piece"]) fun _ _ _ _ _ _ us hl => match us, hl with | [_, _], _ => rfl
  have f2 := fun_of (x := "get") (q := "Store.get") (st := s_get) F2
  have b2 := f2.binds (ps := ["self", "name"]) fun _ _ _ _ _ _ us hl => match us, hl with | [_, _], _ => rfl
  have f3 := fun_of (x := "find") (q := "Store.find") (st := s_find) F3
  have b3 := f3.binds (ps := ["self", "piece"]) fun _ _ _ _ _ _ us hl => match us, hl with | [_, _], _ => rfl
  have f4 := fun_of (x := "drop") (q := "Store.drop") (st := s_drop) F4
  have b4 := f4.binds (ps := ["self", "name"]) fun _ _ _ _ _ _ us hl => match us, hl with | [_, _], _ => rfl
  have f5 := fun_of (x := "names") (q := "Store.names") (st := s_names) F5
  have b5 := f5.binds (ps := ["self"]) fun _ _ _ _ _ _ us hl => match us, hl with | [_], _ => rfl
  have f6 := funC_of (p := ("Store", some "size")) (x := "size") (q := "Store.size") (st := s_size) F6
  have b6 := f6.binds (ps := ["self"]) fun _ _ _ _ _ _ us hl => match us, hl with | [_], _ => rfl
  have f7 := funC_of (p := ("Store", some "broken")) (x := "broken") (q := "Store.broken") (st := s_broken) F7
  have b7 := f7.binds (ps := ["self"]) fun _ _ _ _ _ _ us hl => match us, hl with | [_], _ => rfl
  have f8 := funC_of (p := ("Store", some "shown")) (x := "shown") (q := "Store.shown") (st := s_shown) F8
  have b8 := f8.binds (ps := ["self"]) fun _ _ _ _ _ _ us hl => match us, hl with | [_], _ => rfl
  have f9 := fun_of (x := "figure") (q := "figure") (st := s_figure) F9
  have b9 := f9.binds (ps := ["text"]) fun _ _ _ _ _ _ us hl => match us, hl with | [_], _ => rfl
  have f10 := fun_of (x := "is_right") (q := "is_right") (st := s_is_right) F10
  have b10 := f10.binds (ps := ["name", "piece"]) fun _ _ _ _ _ _ us hl => match us, hl with | [_, _], _ => rfl
  have f11 := fun_of (x := "copied") (q := "copied") (st := s_copied) F11
  have b11 := f11.binds (ps := ["store", "other", "names"]) fun _ _ _ _ _ _ us hl => match us, hl with | [_, _, _], _ => rfl
  have f12 := fun_of (x := "missing") (q := "missing") (st := s_missing) F12
  have b12 := f12.binds (ps := ["store", "names"]) fun _ _ _ _ _ _ us hl => match us, hl with | [_, _], _ => rfl
  have f13 := fun_of (x := "mended") (q := "mended") (st := s_mended) F13
  have b13 := f13.binds (ps := ["store", "other"]) fun _ _ _ _ _ _ us hl => match us, hl with | [_, _], _ => rfl
  have f14 := fun_of (x := "_law_dice") (q := "_law_dice") (st := s__law_dice) F14
  have b14 := f14.binds (ps := ["cell"]) fun _ _ _ _ _ _ us hl => match us, hl with | [_], _ => rfl
  have f15 := fun_of (x := "_law_roll") (q := "_law_roll") (st := s__law_roll) F15
  have b15 := f15.binds (ps := ["dice", "many"]) fun _ _ _ _ _ _ us hl => match us, hl with | [_, _], _ => rfl
  have f16 := fun_of (x := "_law_rounds") (q := "_law_rounds") (st := s__law_rounds) F16
  have b16 := f16.binds (ps := ["script", "most"]) fun _ _ _ _ _ _ us hl => match us, hl with | [_, _], _ => rfl
  have f17 := fun_of (x := "_law_told") (q := "_law_told") (st := s__law_told) F17
  have b17 := f17.binds (ps := ["what"]) fun _ _ _ _ _ _ us hl => match us, hl with | [_], _ => rfl
  have f18 := fun_of (x := "_law_figure") (q := "_law_figure") (st := s__law_figure) F18
  have b18 := f18.binds (ps := ["text"]) fun _ _ _ _ _ _ us hl => match us, hl with | [_], _ => rfl
  have f19 := fun_of (x := "_law_else") (q := "_law_else") (st := s__law_else) F19
  have b19 := f19.binds (ps := ["piece"]) fun _ _ _ _ _ _ us hl => match us, hl with | [_], _ => rfl
  have f20 := funC_of (p := ("law", none)) (x := "law") (q := "law") (st := s_law) F20
  have b20 := f20.binds (ps := ["script"]) fun _ _ _ _ _ _ us hl => match us, hl with | [_], _ => rfl
  have bi : Binds K d21 ["self", "rows"] [] := by
    obtain ⟨ds, hv, hb⟩ := FunD.binds1 (ps := ["self", "rows"]) F21 2 1 (fun z => nomatch z) rfl fun _ _ _ _ _ _ _ us its h1 h2 => match us, its, h1, h2 with | [_, _], [_], _, _ => ⟨_, rfl, rfl⟩
    cases hv
    exact hb
  have bd : ∃ ds, Vals [V.ref (dfI K)] ds ∧ Binds K d21 ["self", "rows"] ds := FunD.binds1 (ps := ["self", "rows"]) F21 1 0 (fun z => nomatch z) rfl fun _ _ _ _ _ _ _ us its h1 h2 => match us, its, h1, h2 with | [_], [_], _, _ => ⟨_, rfl, rfl⟩
  have more : ¬ (He.cT K ("law", none)).2 ∈ [(He.cT K ("Store", some "size")).2, (He.cT K ("Store", some "broken")).2, (He.cT K ("Store", some "shown")).2] ∧ exT K = true := by
    have q := c.more
    unfold exL at q
    rw [Bool.and_eq_true] at q
    refine ⟨fun z => ?_, q.2⟩
    have q1 := q.1
    rw [List.contains_iff_mem.mpr z] at q1
    cases q1
  have nP := more.1
  have hz := exT_ok more.2
  refine ⟨d20, tfL.map (He.cT K), sp_law K [((He.cT K ("law", none)).2, lamQ)] [(He.cT K ("Store", some "size")).2, (He.cT K ("Store", some "broken")).2, (He.cT K ("Store", some "shown")).2], fun p hp => ?_, fun p hp => ?_, fun p hp => ?_, fun s u => ?_, fun H a ns _ _ hT hS => ?_, fun base KB GB TB => ?_⟩
  · obtain ⟨q, hq, rfl⟩ := List.mem_map.mp hp
    exact c.empty q hq
  · obtain ⟨q, hq, rfl⟩ := List.mem_map.mp hp
    exact c.out q hq
  · obtain ⟨q, hq, rfl⟩ := List.mem_map.mp hp
    exact PySem.W.codeHd_of_K X (c.hd q hq)
  · exact FunD.bindsA (ps := ["script"]) F20 (fun _ _ _ _ _ _ us hl => match us, hl with | [_], _ => rfl) s [u] rfl
  · have t0 := hT (He.cT K ("Store", some "size")) (List.mem_map.mpr ⟨_, by simp [tfL], rfl⟩)
    have t1 := hT (He.cT K ("Store", some "broken")) (List.mem_map.mpr ⟨_, by simp [tfL], rfl⟩)
    have t2 := hT (He.cT K ("Store", some "shown")) (List.mem_map.mpr ⟨_, by simp [tfL], rfl⟩)
    have t3 := hT (He.cT K ("law", none)) (List.mem_map.mpr ⟨_, by simp [tfL], rfl⟩)
    refine ⟨a, ns, rfl, hS, fun p hp => ?_, fun p hp => ?_, fun _ => rfl⟩
    · rw [List.mem_singleton.mp hp]
      exact ⟨#[], t3, triples0, fun pos cv hc => by cases hc⟩
    · simp only [List.mem_cons, List.not_mem_nil, or_false] at hp
      rcases hp with rfl | rfl | rfl
      · exact ⟨#[], t0, triples0⟩
      · exact ⟨#[], t1, triples0⟩
      · exact ⟨#[], t2, triples0⟩
  · have B0 := TB (He.cT K ("Store", some "size")) (List.mem_map.mpr ⟨_, by simp [tfL], rfl⟩)
    have B1 := TB (He.cT K ("Store", some "broken")) (List.mem_map.mpr ⟨_, by simp [tfL], rfl⟩)
    have B2 := TB (He.cT K ("Store", some "shown")) (List.mem_map.mpr ⟨_, by simp [tfL], rfl⟩)
    have B3 := TB (He.cT K ("law", none)) (List.mem_map.mpr ⟨_, by simp [tfL], rfl⟩)
    have g (b : Addr × Addr) (B : LamX.TabB base mg b.1 b.2) : GxR.TabB base mg b.1 b.2 := ⟨B.code, B.bm, B.gP⟩
    have q_dice : Cal l.prog w K mg base (L2.CX l.prog w) 1 "_law_dice" ["cell"] sp__law_dice _ _ := ⟨ok__law_dice (k := 0) f14 T, g__law_dice, f14.kp, b14⟩
    have q_roll : Cal l.prog w K mg base (L2.CX l.prog w) 1 "_law_roll" ["dice", "many"] sp__law_roll _ _ := ⟨ok__law_roll (k := 0) f15 T, g__law_roll, f15.kp, b15⟩
    have q_rounds : Cal l.prog w K mg base (L2.CX l.prog w) 2 "_law_rounds" ["script", "most"] (sp__law_rounds K [(He.cT K ("Store", some "size")).2, (He.cT K ("Store", some "broken")).2, (He.cT K ("Store", some "shown")).2]) _ _ := ⟨ok__law_rounds (k := 1) f16 T q_dice (by omega), g__law_rounds, f16.kp, b16⟩
    have q_lfig : Cal l.prog w K mg base (L2.CX l.prog w) 1 "_law_figure" ["text"] sp_figure _ _ := ⟨ok__law_figure (k := 0) f18 T, g__law_figure, f18.kp, b18⟩
    have q_els : Cal l.prog w K mg base (L2.CX l.prog w) 1 "_law_else" ["piece"] sp__law_else _ _ := ⟨ok__law_else (k := 0) f19 T, g__law_else, f19.kp, b19⟩
    have q_fig : Cal l.prog w K mg base (L2.CX l.prog w) 1 "figure" ["text"] sp_figure _ _ := ⟨ok_figure (k := 0) f9 T, g_figure, f9.kp, b9⟩
    have q_right : Cal l.prog w K mg base (L2.CX l.prog w) 2 "is_right" ["name", "piece"] (sp_is_right [(He.cT K ("Store", some "size")).2, (He.cT K ("Store", some "broken")).2, (He.cT K ("Store", some "shown")).2]) _ _ := ⟨ok_is_right (k := 1) f10 T q_fig (by omega), g_is_right, f10.kp, b10⟩
    have q_free : MCal l.prog w K mg base (L2.CX l.prog w) 2 (He.ga K "Store") "free_name" ["self", "piece"] (sp_free (He.ga K "Store") [(He.cT K ("Store", some "size")).2, (He.cT K ("Store", some "broken")).2, (He.cT K ("Store", some "shown")).2]) _ _ := ⟨ok_free (k := 1) f1 T q_fig (by omega), m_free_name, b1⟩
    have q_find : MCal l.prog w K mg base (L2.CX l.prog w) 3 (He.ga K "Store") "find" ["self", "piece"] (sp_find (He.ga K "Store") [(He.cT K ("Store", some "size")).2, (He.cT K ("Store", some "broken")).2, (He.cT K ("Store", some "shown")).2]) _ _ := ⟨ok_find (k := 2) f3 T q_fig q_right (by omega) (by omega), m_find, b3⟩
    have q_put : MCal l.prog w K mg base (L2.CX l.prog w) 4 (He.ga K "Store") "put" ["self", "piece"] (sp_put (He.ga K "Store") [(He.cT K ("Store", some "size")).2, (He.cT K ("Store", some "broken")).2, (He.cT K ("Store", some "shown")).2]) _ _ := ⟨ok_put (k := 3) f0 T q_find q_free (by omega) (by omega), m_put, b0⟩
    have q_get : MCal l.prog w K mg base (L2.CX l.prog w) 3 (He.ga K "Store") "get" ["self", "name"] (sp_get (He.ga K "NoSuch") (He.ga K "BadPiece") (He.ga K "Store") [(He.cT K ("Store", some "size")).2, (He.cT K ("Store", some "broken")).2, (He.cT K ("Store", some "shown")).2]) _ _ := ⟨ok_get (k := 2) f2 T q_right (by omega), m_get, b2⟩
    have q_drop : MCal l.prog w K mg base (L2.CX l.prog w) 1 (He.ga K "Store") "drop" ["self", "name"] (sp_drop (He.ga K "NoSuch") (He.ga K "Store") [(He.cT K ("Store", some "size")).2, (He.cT K ("Store", some "broken")).2, (He.cT K ("Store", some "shown")).2]) _ _ := ⟨ok_drop (k := 0) f4 T, m_drop, b4⟩
    have q_names : MCal l.prog w K mg base (L2.CX l.prog w) 1 (He.ga K "Store") "names" ["self"] (sp_names (He.ga K "Store") [(He.cT K ("Store", some "size")).2, (He.cT K ("Store", some "broken")).2, (He.cT K ("Store", some "shown")).2]) _ _ := ⟨ok_names (k := 0) f5 T, m_names, b5⟩
    have q_size : MCal l.prog w K mg base (L2.CX l.prog w) 8 (He.ga K "Store") "size" ["self"] (sp_size (He.ga K "Store") [(He.cT K ("Store", some "size")).2, (He.cT K ("Store", some "broken")).2, (He.cT K ("Store", some "shown")).2]) _ _ := ⟨ok_size (k := 0) f6 (g _ B0) (by simp) T, m_size, b6⟩
    have q_broken : MCal l.prog w K mg base (L2.CX l.prog w) 10 (He.ga K "Store") "broken" ["self"] (sp_broken (He.ga K "Store") [(He.cT K ("Store", some "size")).2, (He.cT K ("Store", some "broken")).2, (He.cT K ("Store", some "shown")).2]) _ _ := ⟨ok_broken (k := 2) f7 (g _ B1) (by simp) T q_names q_right (by omega) (by omega), m_broken, b7⟩
    have q_shown : MCal l.prog w K mg base (L2.CX l.prog w) 9 (He.ga K "Store") "shown" ["self"] (sp_shown (He.ga K "Store") [(He.cT K ("Store", some "size")).2, (He.cT K ("Store", some "broken")).2, (He.cT K ("Store", some "shown")).2]) _ _ := ⟨ok_shown (k := 1) f8 (g _ B2) (by simp) T q_names (by omega), m_shown, b8⟩
    have q_init : FnOk l.prog w K mg base (L2.CX l.prog w) 1 _ _ ["self", "rows"] (sp_init K (He.ga K "Store") [(He.cT K ("Store", some "size")).2, (He.cT K ("Store", some "broken")).2, (He.cT K ("Store", some "shown")).2]) := ok_init (k := 0) (z := dfI K) F21 T
    have q_copied : Cal l.prog w K mg base (L2.CX l.prog w) 4 "copied" ["store", "other", "names"] (sp_copied K (He.ga K "NoSuch") (He.ga K "BadPiece") (He.ga K "Store") [(He.cT K ("Store", some "size")).2, (He.cT K ("Store", some "broken")).2, (He.cT K ("Store", some "shown")).2]) _ _ := ⟨ok_copied (k := 3) f11 T q_get q_right (by omega) (by omega), g_copied, f11.kp, b11⟩
    have q_missing : Cal l.prog w K mg base (L2.CX l.prog w) 1 "missing" ["store", "names"] (sp_missing K (He.ga K "Store") [(He.cT K ("Store", some "size")).2, (He.cT K ("Store", some "broken")).2, (He.cT K ("Store", some "shown")).2]) _ _ := ⟨ok_missing (k := 0) f12 T, g_missing, f12.kp, b12⟩
    have q_mended : Cal l.prog w K mg base (L2.CX l.prog w) 11 "mended" ["store", "other"] (sp_mended (He.ga K "Store") [(He.cT K ("Store", some "size")).2, (He.cT K ("Store", some "broken")).2, (He.cT K ("Store", some "shown")).2]) _ _ := ⟨ok_mended (k := 10) f13 T q_broken q_right (by omega) (by omega), g_mended, f13.kp, b13⟩
    have Z : Callees l.prog w K mg base (He.ga K "NoSuch") (He.ga K "BadPiece") (He.ga K "Store") [(He.cT K ("Store", some "size")).2, (He.cT K ("Store", some "broken")).2, (He.cT K ("Store", some "shown")).2] (dfI K) 11 := ⟨⟨_, _, 4, by omega, q_put⟩, ⟨_, _, 3, by omega, q_get⟩, ⟨_, _, 3, by omega, q_find⟩, ⟨_, _, 1, by omega, q_drop⟩, ⟨_, _, 1, by omega, q_names⟩, ⟨_, _, 8, by omega, q_size⟩, ⟨_, _, 10, by omega, q_broken⟩, ⟨_, _, 9, by omega, q_shown⟩, ⟨_, _, 1, by omega, q_fig⟩, ⟨_, _, 4, by omega, q_copied⟩, ⟨_, _, 1, by omega, q_missing⟩, ⟨_, _, 11, by omega, q_mended⟩, ⟨_, _, 1, by omega, hmk, q_init, bi, bd⟩, hz, ⟨_, _, 1, by omega, q_roll⟩, ⟨_, _, 2, by omega, q_rounds⟩, ⟨_, _, 1, by omega, q_lfig⟩, ⟨_, _, 1, by omega, q_els⟩⟩
    exact ok_law (k := 11) f20 Z T ⟨N, B3, _, _, f17, g__law_told, b17⟩ nP
end K3

set_option maxRecDepth 100000
set_option maxHeartbeats 0
namespace K3
open PySem PySem.Spec PyProof.Rows L2
abbrev R03 : PySem.W.OpenRow := PySem.W.OpenLaw.row PySem.Challenge.rw_keepwright_k03_pieces_by_names
abbrev hk03 : PySem.W.Hook := He.hookX 7 faL fnL [] tfL exL
def ob03 (s : PySem.W.SharedT) : He.AlX := He.obsX 7 faL fnL [] tfL exL (HandSHeadRun.getT s)
theorem ob03_eq (s : PySem.W.SharedT) : ob03 s = hk03.obs s.abs := He.obsX_eq (HandSHeadRun.getT_eq s)
theorem run03 (w : World) : HandSHeadRun.RunEq R03 (PySem.W.view R03.prog [27]) hk03 ob03 6000 ["KeepFault", "BadPath", "BadPiece", "BadRule", "BadPaper", "BadSize", "BadStore", "BadText", "Lost", "NoSuch", "BASE", "WIDE", "figure", "is_right", "Store", "copied", "missing", "mended", "_law_dice", "_law_roll", "_law_rounds", "_law_told", "_law_figure", "_law_else"] w := by
  intro os
  kernel_rfl
end K3

open PySem PySem.W PySem.Calls PyProof.Rows
set_option maxRecDepth 100000
set_option maxHeartbeats 0
theorem PySem.Challenge.cw_keepwright_k03_pieces_by_names_holds : PySem.Challenge.rw_keepwright_k03_pieces_by_names.Holds := by
  w_on; o_law
  refine HandSHeadRun.head_any (r := OpenLaw.row PySem.Challenge.rw_keepwright_k03_pieces_by_names) (q := view (OpenLaw.row PySem.Challenge.rw_keepwright_k03_pieces_by_names).prog [27]) (H := K3.hk03) (ob := K3.ob03) (M := 6000)
    (loose := ["KeepFault", "BadPath", "BadPiece", "BadRule", "BadPaper", "BadSize", "BadStore", "BadText", "Lost", "NoSuch", "BASE", "WIDE", "figure", "is_right", "Store", "copied", "missing", "mended", "_law_dice", "_law_roll", "_law_rounds", "_law_told", "_law_figure", "_law_else"])
    (d := HandSHeadRun.topDef (OpenLaw.row PySem.Challenge.rw_keepwright_k03_pieces_by_names).prog 27) (kwd := []) K3.ob03_eq
    (by kernel_rfl) (fun s => by kernel_rfl) K3.run03 (by kernel_rfl) (by kernel_rfl) (by kernel_rfl) (by rfl) (by first | assumption | decide +kernel) (by decide +kernel) ⟨rfl, rfl, rfl, rfl, rfl, by decide +kernel⟩ ?hw ?hc
  case hw => w_witness2
  case hc =>
    refine LamX.walk_ofTsE (l := PySem.Challenge.rw_keepwright_k03_pieces_by_names) (n := 63) (k := 14) (x := "script") (CX := fun w => L2.CX (PySem.Challenge.rw_keepwright_k03_pieces_by_names).prog w) rfl (by decide) (by kernel_rfl) ⟨rfl, by decide, by decide⟩ ?F (fun _ _ _ _ _ z => ?_)
    · intro w mg fa h Y G hmg0
      obtain ⟨K, KX, c⟩ := Y
      have hmg : mg ("law" : PySem.Str) = some (.ref fa) := by
        have e : (HandSHeadRun.topDef (OpenLaw.row PySem.Challenge.rw_keepwright_k03_pieces_by_names).prog 27).name = ("law" : PySem.Str) := by kernel_rfl
        rw [← e]
        exact hmg0
      exact ⟨K, KX, K3.facts KX G hmg c⟩
    · obtain ⟨_, _, _, _, _, _, _, _, _, _, _, _, hE⟩ := z
      exact hE.elim
