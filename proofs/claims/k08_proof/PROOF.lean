import PyProof.Rows.All
import Wide.All
import OpenK.AllK
import Wide.FinOn
import PyProof.EqAt
import PyProof.EqKinds
import PyProof.TupleCall
import PySem.Challenge.RW_keepwright_k08_which_days_stay
import HandS.GenCall
import HandS.Comp
import HandS.Ends
import HandS.AnyAll
import HandS.GenList
import PyProof.TupleOfGen
import PyProof.ConsumeS
import HandS.Lambda
import HandS.TryMany
import HandS.ForMost
import HandS.RaiseMore
import HandS.FStr
import HandS.SetKeys
import HandS.DictComp
import HandS.WordsExc
import HandS.Words
import HandS.Set
import HandS.Strs
import HandS.SetFor
import HandS.SortKw
import HandS.FStrTup
import KE.DatumOrd
import HandS.Zip
import KE.KDictZip
import KE.KDictList
import KE.GoesEnumKw
import HandS.Sort
import HandS.More
import HandS.Style
import HandS.NoneIn
import HandS.TupAny
import HandS.Walk
import HandS.Head2
import HandS.HeadHook4
import HandS.HeadWalk
import HandS.EndTab
import HandS.HeadEnd
set_option Elab.async false
set_option linter.all false
set_option maxRecDepth 100000
set_option maxHeartbeats 4000000
/-! GX: generator expressions, walked by the judgements of the hand layer. -/
namespace GX
open PySem PySem.Spec PyProof.Rows L2 GenW

/-- the code of the one loop -/
abbrev gLoop (elt tg iter : Expr) (ifs : List Expr) (sc : Scope) (pos : Pos) (it : Addr) (env : Env) : Code :=
  .compLoop (.GeneratorExp elt [⟨tg, iter, ifs, 0⟩] sc pos) 0 (.ref it) .none env
abbrev gStart (elt tg iter : Expr) (ifs : List Expr) (sc : Scope) (pos : Pos) (it : Addr) (env : Env) : Code :=
  .compStart (.GeneratorExp elt [⟨tg, iter, ifs, 0⟩] sc pos) 0 (.ref it) .none env
section
variable {A : Around} {elt tg iter : Expr} {ifs : List Expr} {sc : Scope} {pos : Pos} {it : Addr} {env : Env}
theorem over_gl : A.over (gLoop elt tg iter ifs sc pos it env) [] = A.deeper env := by
  obtain ⟨hd, d, fr, gs, u⟩ := A
  first
    | rfl
    | simp [Around.over, Around.deeper, marksOver, frameCount, unitsOf, envsOf, guardsOf, pushEnvs, pushGuards, Code.envs, Code.env?, Code.isFrame, Code.guards, Code.isGuard, Code.weight, Code.frames, Code.isCreation, Code.isCaller, Code.cUnits]
theorem over_gs : A.over (gStart elt tg iter ifs sc pos it env) [] = A.deeper env := by
  obtain ⟨hd, d, fr, gs, u⟩ := A
  first
    | rfl
    | simp [Around.over, Around.deeper, marksOver, frameCount, unitsOf, envsOf, guardsOf, pushEnvs, pushGuards, Code.envs, Code.env?, Code.isFrame, Code.guards, Code.isGuard, Code.weight, Code.frames, Code.isCreation, Code.isCaller, Code.cUnits]
end

/-- what a consumer holds of the generator's state: pins of its own beside the generator's -/
structure Hold (X : Cx) (γ : Type) where
  ok : γ → List (Addr × Obj) → L2.St → Hp → Shared → Prop
  own : Addr → Prop
  unfold : ∀ {g ip σ H s}, ok g ip σ H s → ∃ ps : List (Addr × Obj), (∀ p ∈ ps, own p.1) ∧ Inv X (ps ++ ip) σ H s ∧ ∀ ip' σ' H' s', Inv X (ps ++ ip') σ' H' s' → ok g ip' σ' H' s'

/-- what the user says of the turns: J the walk, W by the turn and a measure, It what an item given out wants, fin the end -/
def Turns {γ : Type} (J : It) (W : Nat → Nat → γ → Hp → Prop) (gt : TG) (tt : TT) (te : TE) (σ0 : L2.St) (vs : List Nat) (Iw : γ → V → Hp → (γ → Hp → Prop) → Prop) (fin : γ → Hp → Prop) : Prop :=
  ∀ i m g H, W i m g H → (J.stop i H ∧ fin g H) ∨ (J.go i H ∧ ∃ Nx : γ → Hp → Prop, (∀ g' H', Nx g' H' → ∃ m', m' < m ∧ W (i + 1) m' g' H') ∧
    ∀ x H', J.yld i H x H' → gt x (wipe σ0 vs) H' fun σ2 H2 => wipe σ2 vs = wipe σ0 vs ∧ tt σ2 H2 fun b H3 => if b = true then te σ2 H3 fun y H4 => Iw g y H4 Nx else Nx g H3)

theorem seg_gx {X : Cx} {γ : Type} (Z : Hold X γ) {A : Around} {R : GenEnd} {Y : Protocol} {elt tg iter : Expr} {ifs : List Expr} {sc : Scope} {pos : Pos} {it : Addr} {fp : List Addr} {tn : Nat → Heap → Prop} {J : It}
    {gt : TG} {tt : TT} {te : TE} {σ0 : L2.St} {vs : List Nat} {W : Nat → Nat → γ → Hp → Prop} {Fu : γ → Nat → Nat → Prop} {Iw : γ → V → Hp → (γ → Hp → Prop) → Prop} {fin : γ → Hp → Prop} {Sn : Shared → γ → Prop}
    (hov : A.over (gLoop elt tg iter ifs sc pos it X.env) [] = X.A) (hex : X.ex = fp) (T : Turn X.prog X.w X.K tg J fp it tn) (hc : X.calm = true) (hpn : ∀ b ∈ fp, ∀ p ∈ X.pn, p.1 ≠ b)
    (pg : PG X tg gt) (pt : PTs X ifs tt) (pe : PE X elt te) (hco : X.env.scope.isCoroutine = false) (hxe : ∀ e s, ¬ X.xe e s)
    (turn : Turns J W gt tt te σ0 vs Iw fin) (hdown : ∀ {g n m m'}, Fu g n m → m' < m → Fu g n m')
    (hfp : ∀ b ∈ fp, ¬ Z.own b) (hSn : ∀ {g ip σ H s}, Z.ok g ip σ H s → Sn s g)
    (hY : ∀ {n s₀ m g y H v ip σ s Nx}, (∀ p ∈ ip, p.1 ∈ fp) → RelV y v → Z.ok g ip σ H s → Sn s₀ g → Fu g n m → Iw g y H Nx → ∃ n', n = n' + 1 ∧ ∀ kap : Resume → Shared → Prop,
      (∀ g' s', Nx g' H → Z.ok g' ip σ H s' → (∀ m', m' < m → Fu g' n' m') → kap (.send .none) s') → Y n' s₀ v s kap)
    (hR : ∀ {n s₀ m g ip σ H s}, Z.ok g ip σ H s → Sn s₀ g → fin g H → Fu g n m → R n s₀ (.ok .next) s) :
    ∀ (m n i : Nat) (s₀ s : Shared) (g : γ) (H : Hp), W i m g H → Fu g n m → Sn s₀ g → Z.ok g [] (wipe σ0 vs) H s → tn i s.heap → (∀ b ∈ fp, H b = none) →
      Seg (model X.prog X.w) A R Y n s₀ (gLoop elt tg iter ifs sc pos it X.env) ((model X.prog X.w).den (gLoop elt tg iter ifs sc pos it X.env)) [] s := by
  have stat : ∀ {ps : List (Addr × Obj)} {σ' : L2.St} {H' : Hp} {s' : Shared}, Inv X ps σ' H' s' → (∀ b ∈ fp, ∀ p ∈ ps, p.1 ≠ b) → (∀ b ∈ fp, H' b = none) → ∀ b ∈ fp, FpOk X ps H' b := fun {ps σ' H' s'} I hp hn b hb => by
    have hbx : b ∈ X.ex := by rw [hex]; exact hb
    refine ⟨hn b hb, (I.ok.exf b hbx).1, I.ok.exfs b hbx, .inl hbx, fun x c e => (I.ok.exf b hbx).2 x c e, fun p hp' => ?_⟩
    rcases List.mem_append.mp hp' with z | z
    · exact hpn b hb p z
    · exact hp b hb p z
  have hy : ∀ v, yieldOut X.env v = yieldValue v := fun v => by simp only [yieldOut, hco, Bool.false_eq_true, if_false]
  intro m
  induction m using Nat.strongRecOn with
  | ind m ih =>
    intro n i s₀ s g H hW hF hSs hZ hst hnf
    obtain ⟨ps, hown, I0, mk⟩ := Z.unfold hZ
    have hps : ∀ b ∈ fp, ∀ p ∈ ps, p.1 ≠ b := fun b hb p hp e => hfp b hb (by rw [← e]; exact hown p hp)
    have I : Inv X ps (wipe σ0 vs) H s := by rw [List.append_nil] at I0; exact I0
    show Seg _ A _ _ _ s₀ _ ((compTurn (.GeneratorExp elt [⟨tg, iter, ifs, 0⟩] sc pos) 0 (.ref it) .none X.env).onRaise (leaving X.env)) [] s
    rw [compTurn_gen, Sem.onRaise_eq_wrap]
    refine seg_bind_wrap (wpAny_standAt ?_)
    rcases turn i m g H hW with ⟨stop, hf⟩ | ⟨go, Nx, hNx, step⟩
    · refine seg_bind_wrap ?_
      rw [hov]
      refine wpAny_mono (T.done X rfl rfl rfl hc i ps s _ H (fun _ _ => False) I (stat I hps hnf) hst stop) (fun r s1 hr => ?_) fun _ _ z => z.elim
      obtain ⟨hr, I1⟩ := hr
      subst hr
      exact seg_end (.ok .next) (hR (mk [] _ _ _ (by rw [List.append_nil]; exact I1)) hSs hf hF)
    · refine seg_bind_wrap ?_
      rw [hov]
      refine wpAny_mono (T.item X rfl rfl rfl hc i ps s _ H (fun _ _ => False) I (stat I hps hnf) hst go) (fun r s1 hr => ?_) fun _ _ z => z.elim
      obtain ⟨u, hr, h6⟩ := hr
      subst hr
      refine seg_bind_wrap ?_
      rw [hov]
      refine wpAny_mono h6 (fun _ s2 h7 => ?_) fun _ _ z => z.elim
      obtain ⟨x, H2, I2, r2, y2, st2, n2⟩ := h7
      have I2' := I2.pinned (stat I2 hps n2) (T.obj _ _ st2)
      refine seg_bind_wrap ?_
      rw [hov]
      refine wpAny_mono (pg.run _ s2 _ H2 x u _ I2' r2 (step x H2 y2)) (fun _ s3 h8 => ?_) fun _ _ z => (hxe _ _ z).elim
      obtain ⟨σ3, H3, I3, hw3, q3⟩ := h8
      refine seg_bind_wrap ?_
      rw [hov]
      refine wpAny_mono (pt.run _ s3 σ3 H3 _ I3 q3) (fun b s4 h9 => ?_) fun _ _ z => (hxe _ _ z).elim
      obtain ⟨H4, I4, q4⟩ := h9
      -- the next turn
      have goOn : ∀ {g' : γ} {H' : Hp} {s' : Shared} {n' m' : Nat} {s₀' : Shared}, Z.ok g' (pinsAt fp s2.heap) σ3 H' s' → m' < m → Fu g' n' m' → Sn s₀' g' → W (i + 1) m' g' H' →
          Seg (model X.prog X.w) A R Y n' s₀' (gLoop elt tg iter ifs sc pos it X.env) ((model X.prog X.w).den (gLoop elt tg iter ifs sc pos it X.env)) [] s' := by
        intro g' H' s' n' m' s₀' hz hlt hfu hsn hw
        obtain ⟨ps', _, J', mk'⟩ := Z.unfold hz
        have pin' : ∀ b ∈ fp, ∀ o, s2.heap.get? b = some o → s'.heap.get? b = some o ∧ H' b = none := fun b hb o e =>
          let z := J'.pin (b, o) (List.mem_append_right _ (List.mem_append_right _ (mem_pinsAt hb e)))
          ⟨z.1, z.2.1⟩
        have hl : (wipe σ0 vs).length = σ3.length := by rw [← hw3, wipe_length]
        refine ih m' hlt n' (i + 1) s₀' s' g' H' hw hfu hsn (mk' [] _ _ _ ?_) (T.keep _ _ _ st2 fun b hb o e => (pin' b hb o e).1) fun b hb => ?_
        · rw [List.append_nil]
          exact (J'.unpinned (pins := ps')).weak hl fun j v e => by
            rw [← hw3] at e
            exact (wipe_some e).1
        · obtain ⟨o, e, _⟩ := T.obj _ _ st2 b hb
          exact (pin' b hb o e).2
      cases b with
      | false =>
        simp only [Bool.false_eq_true, if_false] at q4 ⊢
        obtain ⟨m', hm, hw⟩ := hNx g H4 q4
        exact seg_again rfl (goOn (mk _ _ _ _ I4) hm (hdown hF hm) hSs hw)
      | true =>
        simp only [if_true] at q4 ⊢
        simp only [hy]
        rw [Sem.bind_eq_wrap', Sem.bind_eq_wrap', Sem.wrap_wrap, Sem.wrap_wrap]
        refine seg_wrap ?_
        rw [hov]
        refine wpAny_mono (pe.run _ s4 σ3 H4 _ I4 q4) (fun v s5 h10 => ?_) fun _ _ z => (hxe _ _ z).elim
        obtain ⟨yv, H5, I5, r5, q5⟩ := h10
        obtain ⟨n', hn, hYY⟩ := hY (s₀ := s₀) (fun p hp => (of_pinsAt hp).1) r5 (mk _ _ _ _ I5) hSs hF q5
        subst hn
        refine seg_at (seg_yield rfl rfl rfl (hYY _ fun g' s' hnx hz hfu => ?_))
        obtain ⟨m', hm, hw⟩ := hNx g' H5 hnx
        exact seg_again rfl (goOn hz hm (hfu m' hm) (hSn hz) hw)
end GX

set_option maxRecDepth 100000
set_option maxHeartbeats 4000000
namespace GX
open PySem PySem.Spec PyProof.Rows L2 GenW

theorem seg_gxs {X : Cx} {A : Around} {R : GenEnd} {Y : Protocol} {elt tg iter : Expr} {ifs : List Expr} {sc : Scope} {pos : Pos} {it : Addr} {fp : List Addr} {tn : Nat → Heap → Prop} {J : It} {n i : Nat} {s₀ s : Shared}
    (T : Turn X.prog X.w X.K tg J fp it tn) (hst : tn i s.heap)
    (loop : Seg (model X.prog X.w) A R Y n s₀ (gLoop elt tg iter ifs sc pos it X.env) ((model X.prog X.w).den (gLoop elt tg iter ifs sc pos it X.env)) [] s) :
    Seg (model X.prog X.w) A R Y n s₀ (gStart elt tg iter ifs sc pos it X.env) ((model X.prog X.w).den (gStart elt tg iter ifs sc pos it X.env)) [] s := by
  show Seg _ A _ _ _ s₀ _ ((compStart (.GeneratorExp elt [⟨tg, iter, ifs, 0⟩] sc pos) 0 (.ref it) .none X.env).onRaise (leaving X.env)) [] s
  unfold compStart
  rw [Sem.onRaise_eq_wrap]
  show Seg _ A _ _ _ s₀ _ ((ask >>= _).wrap _ _ _ _) [] s
  refine seg_bind_wrap (wpAny_askSetting ?_)
  split
  · exact seg_again rfl loop
  · refine seg_bind_wrap (wpAny_rule ?_)
    first
      | exact seg_bind_wrap (wpAny_standAt (seg_bind_wrap (T.self _ i s _ _ hst (seg_again rfl loop))))
      | (show Seg _ A _ _ _ s₀ _ ((standAt iter.pos >>= _).wrap _ _ _ _) [] s
         exact seg_bind_wrap (wpAny_standAt (seg_bind_wrap (T.self _ i s _ _ hst (seg_again rfl loop)))))

/-! ### the generator's own names -/
/-- ix: for each of the generator's names the maker's slot that it captures, or none -/
structure GScp (N : List Str) (esc scope : Scope) (Ng : List Str) (ix : List (Option Nat)) : Prop where
  kind : scope.kind = .function
  co : scope.isCoroutine = false
  cell : ∀ y ∈ scope.names, y.2 ≠ .cell
  dot : scope.names.lookup (".0" : Str) = some NameKind.local
  free : ∀ y ∈ scope.names, y.2 = .free → esc.names.lookup y.1 = some .cell ∨ esc.names.lookup y.1 = some .free
  len : ix.length = Ng.length
  cap : ∀ j i : Nat, ix[j]? = some (some i) → ∃ x, Ng[j]? = some x ∧ N[i]? = some x ∧ scope.names.lookup x = some .free
  nd : Ng.Nodup
def gscB (N : List Str) (esc scope : Scope) (Ng : List Str) (ix : List (Option Nat)) : Bool :=
  decide (scope.kind = .function) && !scope.isCoroutine && (scope.names.all fun y => !decide (y.2 = .cell) && (!decide (y.2 = .free) || decide (esc.names.lookup y.1 = some .cell) || decide (esc.names.lookup y.1 = some .free))) &&
  decide (scope.names.lookup (".0" : Str) = some NameKind.local) && decide (ix.length = Ng.length) && decide Ng.Nodup &&
  ((List.range ix.length).all fun j => match ix[j]? with
    | some (some i) => (match Ng[j]?, N[i]? with
      | some x, some y => decide (x = y) && decide (scope.names.lookup x = some .free)
      | _, _ => false)
    | _ => true)
theorem gsc_by {N : List Str} {esc scope : Scope} {Ng : List Str} {ix : List (Option Nat)} (h : gscB N esc scope Ng ix = true) : GScp N esc scope Ng ix := by
  unfold gscB at h
  simp only [Bool.and_eq_true, Bool.or_eq_true, Bool.not_eq_true', decide_eq_true_eq, decide_eq_false_iff_not, List.all_eq_true] at h
  obtain ⟨⟨⟨⟨⟨⟨h1, h2⟩, h3⟩, h4⟩, h5⟩, h6⟩, h7⟩ := h
  refine ⟨h1, h2, fun y hy => (h3 y hy).1, h4, fun y hy e => ?_, h5, fun j i e => ?_, h6⟩
  · rcases (h3 y hy).2 with (z | z) | z
    · exact absurd e z
    · exact .inl z
    · exact .inr z
  · have hj : j < ix.length := (List.getElem?_eq_some_iff.mp e).1
    have q := h7 j (List.mem_range.mpr hj)
    rw [e] at q
    simp only at q
    split at q
    · rename_i x y e1 e2
      rw [Bool.and_eq_true, decide_eq_true_eq, decide_eq_true_eq] at q
      exact ⟨x, e1, by rw [q.1]; exact e2, q.2⟩
    · cases q

/-- the values that the generator sees -/
def capt (ix : List (Option Nat)) (σ : L2.St) : L2.St := ix.map fun o => match o with
  | none => none
  | some i => (σ[i]?).getD none
theorem capt_some {ix : List (Option Nat)} {σ : L2.St} {j : Nat} {v : V} (h : (capt ix σ)[j]? = some (some v)) : ∃ i, ix[j]? = some (some i) ∧ σ[i]? = some (some v) := by
  unfold capt at h
  rw [List.getElem?_map] at h
  cases e : ix[j]? with
  | none => rw [e] at h; cases h
  | some o =>
    rw [e] at h
    cases o with
    | none => cases h
    | some i =>
      have h' : (σ[i]?).getD none = some v := Option.some.inj h
      refine ⟨i, rfl, ?_⟩
      cases q : σ[i]? with
      | none => rw [q] at h'; cases h'
      | some w => rw [q] at h'; exact congrArg some h'

/-- the context of the generator's code: made at s4, H4 by X's def, woken in A -/
def gcx (X : Cx) (A : Around) (s4 : Shared) (H4 : Hp) (Ng : List Str) (genv : Env) (fp : List Addr) : Cx where
  prog := X.prog
  w := X.w
  K := X.K
  mg := X.mg
  base := X.base
  A := A.deeper genv
  N := Ng
  s_0 := s4
  H_0 := H4
  env := genv
  outer := X.stack
  stack := genv :: X.stack
  ex := fp
  fn := fun _ => false
  calm := true
  pn := []
  xe := fun _ _ => False

section
variable {X : Cx} {pins : List (Addr × Obj)} {σ : L2.St} {H : Hp} {s4 : Shared}
theorem gx_inv {A : Around} {s2 : Shared} {scope : Scope} {Ng : List Str} {ix : List (Option Nat)} {fp : List Addr} {code : Value} {m : Str → Option Value} {ps : List (Addr × Obj)} (I : Inv X pins σ H s4) (S : GScp X.N X.env.scope scope Ng ix)
    (hA : A.frames = some X.stack) (hh : A.handled = none) (hfp : ∀ b ∈ fp, FpOk X pins H b ∧ b < s4.heap.objs.size)
    (kp : ∀ b o, s4.heap.get? b = some o → s2.heap.get? b = some o) (os : s2.os = s4.os) (bare : AllBare s2.gens) (hns : s2.heap.Ns s4.heap.objs.size m)
    (hps : ∀ p ∈ ps, s2.heap.get? p.1 = some p.2 ∧ s4.heap.objs.size < p.1 ∧ ∀ v, p.2.data ≠ .cell v) :
    Inv (gcx X A s4 H Ng (genEnv scope (cloFrom X.env.cells scope.names []) s4.heap.objs.size code builtinsNs X.env) fp) ps (capt ix σ) H s2 := by
  have hfree : ∀ y ∈ scope.names, y.2 = .free → ∃ c, X.env.cells.lookup y.1 = some c := fun y hy e => (S.free y hy e).elim (fun z => I.ok.has _ (.inl z)) fun z => I.ok.has _ (.inr z)
  have cm : ∀ {y c}, (cloFrom X.env.cells scope.names []).lookup y = some c → X.env.cells.lookup y = some c := fun {y c} e => by
    rcases cloFrom_mem (PySem.mem_of_lookup e) with hm | ⟨h1, h2⟩
    · cases hm
    · obtain ⟨c1, hc⟩ := hfree _ h1 rfl
      have hc : X.env.cells.lookup y = some c1 := hc
      have e2 : c = c1 := by rw [h2, hc] <;> rfl
      rw [e2]; exact hc
  have look : ∀ {y}, scope.names.lookup y = some .free → ∃ c, (cloFrom X.env.cells scope.names []).lookup y = some c := fun {y} hl =>
    mem_lookup (cloFrom_has (cells := X.env.cells) (acc := []) (PySem.mem_of_lookup hl))
  have young : ∀ b, s4.heap.objs.size ≤ b → H b = none ∧ b ∉ frs X.stack := fun b hb => by
    refine ⟨I.hok.fresh hb, fun z => ?_⟩
    rcases List.mem_cons.mp (I.stkSub b z) with e | e
    · have h1 := I.lt
      rw [← e] at h1
      exact Nat.lt_irrefl _ (Nat.lt_of_lt_of_le h1 hb)
    · exact I.nofs hb e
  have cellK : ∀ {c : Addr} {v : Option Value}, s4.heap.IsCell c v → s2.heap.IsCell c v := fun {c v} ⟨o, ho, hd⟩ => ⟨o, kp _ _ ho, hd⟩
  refine ⟨⟨I.ok.mod, S.kind, I.ok.glob, rfl, Nat.le_refl _, fun y z c e1 e2 => I.ok.inj y z c (cm e1) (cm e2), fun y hy => ?_, fun y c z _ => ?_, fun _ => hh, Around.frames_deeper hA, .inr ⟨rfl, rfl⟩,
      fun b hb => ⟨Nat.ne_of_lt (hfp b hb).2, fun y c e z => (hfp b hb).1.2.2.2.2.1 y c (cm e) z⟩, I.bs, Nat.le_trans I.ok.bsz I.sz, fun b o e hb => ?_, fun b hb z => ?_, I.stack, I.stkFree⟩,
    os, bare, Un.kept kp, ⟨m, hns, fun j y v e1 e2 e3 => ?_⟩, fun y c e => ?_, I.hok.fresh (Nat.le_refl _), fun y c e => I.freeC y c (cm e), fun p hp => ?_, I.hok.kept kp, by unfold capt; rw [List.length_map]; exact S.len⟩
  · have hy : scope.names.lookup y = some .cell ∨ scope.names.lookup y = some .free := hy
    rcases hy with hy | hy
    · exact absurd rfl (S.cell _ (PySem.mem_of_lookup hy))
    · exact look hy
  · have z : false = true := z
    cases z
  · rcases (hfp b hb).1.2.2.2.1 with z | z
    · exact I.ok.noex b o e z
    · exact absurd (Nat.lt_of_lt_of_le (Heap.lt_size e) (Nat.le_trans I.ok.bsz z)) (Nat.lt_irrefl _)
  · rcases List.mem_cons.mp (I.stkSub b z) with z | z
    · exact (hfp b hb).1.2.1 z
    · exact (hfp b hb).1.2.2.1 z
  · obtain ⟨i, ei, es⟩ := capt_some e2
    obtain ⟨x, x1, x2, x3⟩ := S.cap j i ei
    have e1 : Ng[j]? = some y := e1
    rw [x1] at e1
    obtain rfl := Option.some.inj e1
    obtain ⟨m', hn, hl⟩ := I.loc
    have hvis : Vis X.env.scope x := (S.free _ (PySem.mem_of_lookup x3) rfl).elim (fun k => .inr (.inl k)) fun k => .inr (.inr k)
    obtain ⟨u, r, q⟩ := hl i x v x2 es hvis
    obtain ⟨c2, h2⟩ := look x3
    have c1 := cm h2
    refine ⟨u, r, .inr ⟨.inr x3, c2, h2, ?_⟩⟩
    rcases q with ⟨k', _⟩ | ⟨_, c3, e', z⟩
    · have k' : X.env.scope.names.lookup x = some .local := k'
      rcases S.free _ (PySem.mem_of_lookup x3) rfl with k2 | k2 <;> rw [show X.env.scope.names.lookup x = _ from k2] at k' <;> cases k'
    · rw [c1] at e'
      cases e'
      exact cellK z
  · obtain ⟨v, z⟩ := I.cell y c (cm e)
    exact ⟨v, cellK z⟩
  · have hp : p ∈ [] ++ ps := hp
    rw [List.nil_append] at hp
    obtain ⟨h1, h2, h3⟩ := hps p hp
    obtain ⟨y1, y2⟩ := young p.1 (Nat.le_of_lt h2)
    exact ⟨h1, y1, Nat.ne_of_gt h2, y2, h3⟩
end
end GX

set_option maxRecDepth 100000
set_option maxHeartbeats 4000000
namespace GX
open PySem PySem.Spec PyProof.Rows L2 GenW GxR

/-- a generator expression's object just made: the walk J begun, nothing given out yet -/
structure Made (X : Cx) (pins : List (Addr × Obj)) (σ : L2.St) (elt tg iter : Expr) (ifs : List Expr) (scope : Scope) (gpos : Pos) (J : It) (H2 : Hp) (a g it : Addr) (fp : List Addr) (tn : Nat → Heap → Prop) (code : Value) (s4 s5 : Shared) : Prop where
  inv : Inv X pins σ H2 s4
  turn : Turn X.prog X.w X.K tg J fp it tn
  st : tn 0 s4.heap
  fp : ∀ b ∈ fp, FpOk X pins H2 b ∧ b < s4.heap.objs.size
  gs : s5.gens[g]? = some (.fresh (gStart elt tg iter ifs scope gpos it (genEnv scope (cloFrom X.env.cells scope.names []) s4.heap.objs.size code builtinsNs X.env)))
  gen : s5.heap.IsGen a g
  lt : s4.heap.objs.size < a
  ltA : a < s5.heap.objs.size
  os : s5.os = s4.os
  bare : AllBare s5.gens
  lim : s5.heap.NoLimit
  keep : ∀ b o, s4.heap.get? b = some o → s5.heap.get? b = some o
  ns : s5.heap.Ns s4.heap.objs.size fun y => if y = (".0" : Str) then some (.ref it) else none

section
variable {X : Cx} {pins : List (Addr × Obj)} {σ : L2.St} {H : Hp} {s : Shared}
theorem gx_make {c P : Addr} {elt tg iter : Expr} {ifs : List Expr} {gpos : Pos} {scope : Scope} {Ng : List Str} {ix : List (Option Nat)} {wi : TI} {k : Nat} {Q' : Value → Shared → Prop} {R : It → Hp → Prop}
    (hr : Room k X.A) (TB : TabB X.base X.mg c P) (hcode : X.env.code = .ref c) (S : GScp X.N X.env.scope scope Ng ix) (hi : PI X tg iter wi) (hs : ∀ v, genFold iter X.env v = pure v)
    (I : Inv X pins σ H s) (h : wi σ H fun J H1 => TabG H1 P ∧ ∀ H2, Tabbed P H1 H2 → R J H2)
    (hQ : ∀ J H2 a g it fp tn code s4 s5, R J H2 → Made X pins σ elt tg iter ifs scope gpos J H2 a g it fp tn code s4 s5 → Q' (.ref a) s5) :
    wpAny (model X.prog X.w) X.A (eval (.GeneratorExp elt [⟨tg, iter, ifs, 0⟩] scope gpos) X.env) Q' X.xe s := by
  refine wpAny_GeneratorExp_make S.co (closure_ok fun y hy e => (S.free y hy e).elim (fun z => I.ok.has _ (.inl z)) fun z => I.ok.has _ (.inr z)) S.cell S.dot S.kind (by have := hr.dp; omega) ?_ hs
  refine thn (hi.run pins s σ H _ I h) fun xv s1 hx => thn hx fun itv s2 h2 => ?_
  obtain ⟨it, fp, tn, J, H1, rfl, I1, T, st1, f1, ⟨ps, hP, ht⟩, hR⟩ := h2
  refine ⟨I1.nolimit, ?_⟩
  have hP2 : s2.heap.get? P = some { cls := .none, data := .fields ps } := I1.hok P _ hP
  have cd : PySem.W.CodeHd s2.heap c P := TB.code.keeps I1.bk
  -- behind the code object: H3, s3
  have cont : ∀ (code : Value) (h3 : Heap) (tk : Nat) (ps' : Array Value), Heap.ExtBut P s2.heap h3 → s2.heap.objs.size ≤ h3.objs.size → h3.get? P = some { cls := .none, data := .fields ps' } → (∃ more, ps' = ps ++ more) → TriplesOk ps'.toList →
      wpAny (model X.prog X.w) X.A (builtinsFor X.env.globals X.env.builtins) (fun bi s₄ =>
        ∀ h', h'.Ns s₄.heap.objs.size (fun y => if y = ".0" then some (.ref it) else none) → Heap.SameBut s₄.heap.objs.size (s₄.heap.push { cls := .type "frame", data := .dict #[] }) h' →
          Q' (.ref h'.objs.size) { s₄ with
            gens := s₄.gens.push (.fresh (.compStart (.GeneratorExp elt [⟨tg, iter, ifs, 0⟩] scope gpos) 0 (.ref it) .none (genEnv scope (cloFrom X.env.cells scope.names []) s₄.heap.objs.size code bi X.env))),
            toks := s₄.toks + 1 + 1 + 1,
            heap := h'.push { cls := .type "generator", data := .fields #[.int s₄.gens.size 0, .str "<genexpr>" (s₄.toks + 1), .str (X.env.qual ++ "<genexpr>") (s₄.toks + 1 + 1)] } }) X.xe { s2 with heap := h3, toks := tk } := by
    intro code h3 tk ps' hx hsz hP3 hmore ht3
    obtain ⟨bm, ob, e1, e2, e3, e4, e5, e6, e7, e8⟩ := TB.bm
    have keep3 : ∀ b u, b ≠ P → s2.heap.get? b = some u → h3.get? b = some u := fun b u hb e => hx b u hb e
    obtain ⟨more, em⟩ := hmore
    have I3 := inv_tab (more := more) (h' := h3) (g' := s2.gens) (d' := s2.drawn) (t' := tk) I1 hP (fun b u hb e => keep3 b u hb e) (by rw [← em]; exact hP3) I1.bare
    have hTb : Tabbed P H1 (upd H1 P (.tbl (ps ++ more))) := ⟨⟨ps ++ more, upd_same, by rw [← em]; exact ht3⟩, fun b hb => upd_ne hb⟩
    refine wpAny_builtinsFor (m := X.mg) (by rw [I1.ok.glob]; exact ((I1.mod.glob.keeps I1.bk)).extBut hx TB.gP) e1 e2 (keep3 _ _ e4 (I1.bk _ _ e5)) e6 e7 e8 ?_
    intro h' hn' hs'
    have sz' : h'.objs.size = h3.objs.size + 1 := by rw [hs'.1, Heap.size_push]
    have keep' : ∀ b o, h3.get? b = some o → h'.get? b = some o := fun b o e => hs'.extBut b o (Nat.ne_of_lt (Heap.lt_size e)) (Heap.get?_push_of_some _ e)
    have nP : ∀ b, H1 b = none → b ≠ P := fun b e z => by
      rw [z, hP] at e
      cases e
    have stk : tn 0 h3 := T.keep _ _ _ st1 fun b hb o e => keep3 b o (nP b (f1 b hb).1) e
    have fp3 : ∀ b ∈ fp, FpOk X pins (upd H1 P (.tbl (ps ++ more))) b ∧ b < h3.objs.size := fun b hb => by
      obtain ⟨o, e, _⟩ := T.obj _ _ st1 b hb
      refine ⟨⟨?_, (f1 b hb).2⟩, Nat.lt_of_lt_of_le (Heap.lt_size e) hsz⟩
      rw [upd_ne (nP b (f1 b hb).1)]
      exact (f1 b hb).1
    refine hQ J _ _ s2.gens.size it fp tn code { s2 with heap := h3, toks := tk } _ (hR _ hTb)
      ⟨I3, T, stk, fp3, Array.getElem?_push_size .., ⟨_, _, _, Heap.get?_push_size _ rfl, rfl, rfl, rfl⟩, ?_, ?_, rfl, AllBare.push I1.bare rfl, ?_, fun b o e => Heap.get?_push_of_some _ (keep' b o e), hn'.push _⟩
    · show h3.objs.size < h'.objs.size
      omega
    · show h'.objs.size < (h'.push _).objs.size
      rw [Heap.size_push]
      exact Nat.lt_succ_self _
    · exact I3.nolimit.keeps fun b o e => Heap.get?_push_of_some _ (keep' b o e)
  cases hf : codeAmong gpos ps.toList with
  | none =>
    refine wpAny_genexprCodeX hcode (cd.code hP2 ht) (cd.tab hP2) hf fun c' h' tk hx hge hlt hco' _ htab' _ => ?_
    obtain ⟨o1, vs, f1', tf, fl, tg', inF, tx, tt, op, _, _, _, _, _, _, _, _, _, htr, _⟩ := hco'
    exact cont _ h' tk _ hx (Nat.le_trans hge (Nat.le_of_lt hlt)) htab'.2 ⟨_, rfl⟩ htr
  | some cv =>
    refine wpAny_genexprCode_hit hcode (cd.code hP2 ht) hf ?_
    exact cont cv s2.heap s2.toks ps (Heap.ExtBut.refl _ _) (Nat.le_refl _) hP2 ⟨#[], by simp⟩ ht
end
end GX

set_option maxRecDepth 100000
set_option maxHeartbeats 4000000
namespace GX
open PySem PySem.Spec PyProof.Rows L2 GenW GxR

/-- the generator's context -/
abbrev gX (X : Cx) (A : Around) (s4 : Shared) (H4 : Hp) (Ng : List Str) (scope : Scope) (cl : List (Str × Addr)) (C : Addr) (code : Value) (fp : List Addr) : Cx :=
  gcx X A s4 H4 Ng (genEnv scope cl C code builtinsNs X.env) fp

section
variable {X : Cx} {pins : List (Addr × Obj)} {σ : L2.St}
variable {elt tg iter : Expr} {ifs : List Expr} {scope : Scope} {gpos : Pos} {J : It} {H2 : Hp} {a g it : Addr} {fp : List Addr} {tn : Nat → Heap → Prop} {code : Value} {s4 s5 : Shared}
/-- back in the maker's context -/
theorem Made.back {A : Around} {Ng : List Str} {genv : Env} {ps : List (Addr × Obj)} {σ' : L2.St} {H' : Hp} {s' : Shared} (M : Made X pins σ elt tg iter ifs scope gpos J H2 a g it fp tn code s4 s5)
    (I' : Inv (gcx X A s4 H2 Ng genv fp) ps σ' H' s') {s'' : Shared} (hk : ∀ b o, s'.heap.get? b = some o → s''.heap.get? b = some o) (ho : s''.os = s'.os) (hb : AllBare s''.gens) : Inv X pins σ H' s'' :=
  M.inv.call' (ch := fp) (ho.trans I'.os) (I'.base.trans (Un.kept hk)) (I'.hok.kept hk) hb fun b hb => ⟨(M.fp b hb).1.2.2.2.1, (M.fp b hb).1.2.1, (M.fp b hb).1.2.2.2.2.1, (M.fp b hb).1.2.2.2.2.2⟩

/-- what the consumers any and all hold: the generator's own object -/
def Hold.one (X : Cx) (p : Addr × Obj) : Hold X Unit where
  ok := fun _ ip σ H s => Inv X ([p] ++ ip) σ H s
  own := fun b => b = p.1
  unfold := fun {g ip σ H s} h => ⟨[p], fun q hq => by rw [List.mem_singleton.mp hq], h, fun _ _ _ _ h' => h'⟩

end
/-- the protocol: t: the truth value at which the consumer goes on -/
def YAny (t : Bool) (a g : Nat) (Out : Shared → Prop) : Protocol := fun _ _ v s1 kap =>
  ∃ k, v = .bool k ∧ s1.heap.IsGen a g ∧ s1.heap.NoLimit ∧ ∀ s' : Shared, s'.heap = s1.heap → s'.os = s1.os → (AllBare s1.gens → AllBare s'.gens) → if k = t then kap (.send .none) s' else Out s'
def FAny (Fin : Shared → Prop) (_ : Nat) (_ s1 : Shared) : Prop := ∀ s' : Shared, (∀ b o, s1.heap.get? b = some o → s'.heap.get? b = some o) → s'.os = s1.os → (AllBare s1.gens → AllBare s'.gens) → Fin s'
def NoE (_ : Value) (_ : Shared) : Prop := False
/-- the end of a run that raises nothing -/
def RAny (Fin : Shared → Prop) : GenEnd := fun n s₀ r s1 => ((r = .ok (.ret .none) ∨ r = .ok .next) ∧ FAny Fin n s₀ s1) ∨ ∃ e, r = .error e ∧ NoE e s1

section
variable {P : Program} {w : World} {A : Around} {a g : Nat} {R : Result → Shared → Prop} {Out Fin : Shared → Prop}
theorem setGen_same {s : Shared} {g : Nat} {x : GenState} (hx : x.bare = true) : AllBare s.gens → AllBare (s.setGen g x).gens := fun h => allBare_setGen h hx
theorem setGen_here {s : Shared} {g : Nat} {x : GenState} (h : g < s.gens.size) : (s.setGen g x).gens[g]? = some x := setGen_at h
/-- one step of a generator whose run ends or gives out, no exception -/
theorem next_one {t : Bool} {n : Nat} {s : Shared} {gs : GenState} {Q : Option Value → Shared → Prop} {E : Value → Shared → Prop} (hh : A.handled = none) (hd : A.depth < recursionLimit) (hg : s.heap.IsGen a g) (hl : s.heap.NoLimit) (hgs : s.gens[g]? = some gs)
    (hgo : gs.Goes (model P w) A.in1 (RAny Fin) (YAny t a g Out) n (.send .none) (s.setGen g .running))
    (hY : ∀ k s', s'.heap.IsGen a g → s'.heap.NoLimit → (k ≠ t → Out s') → (k = t → ∃ m, n = m + 1 ∧ ∃ gs', s'.gens[g]? = some gs' ∧ gs'.Goes (model P w) A.in1 (RAny Fin) (YAny t a g Out) m (.send .none) (s'.setGen g .running)) → Q (some (.bool k)) s')
    (hP : ∀ s', Fin s' → Q none s') : wpAny (model P w) A (pyNext (.ref a)) Q E s := by
  have hgl : g < s.gens.size := (Array.getElem?_eq_some_iff.mp hgs).1
  refine wpAny_gsz (n := g + 1) hgl (next_genG (A := A) (F := FAny Fin) (Er := NoE) hh hl hd hg hgs hgo (fun v s₁ gs' hbare hv => ?_) (fun s₁ hp h' hk => ?_) fun e s₁ he => he.elim)
  · intro hsz
    obtain ⟨k, rfl, hg1, hl1, hq⟩ := hv
    have hsz1 : g < s₁.gens.size := by
      have q : (s₁.setGen g gs').gens.size = s₁.gens.size := setGen_size _ _ _
      have hsz' : g + 1 ≤ (s₁.setGen g gs').gens.size := hsz
      omega
    refine hY k _ hg1 hl1 (fun hk => ?_) fun hk => ?_
    · have q := hq (s₁.setGen g gs') rfl rfl (setGen_same hbare)
      rw [if_neg hk] at q
      exact q
    · have q := hq ((s₁.setGen g gs').setGen g .running) rfl rfl fun z => setGen_same rfl (setGen_same hbare z)
      rw [if_pos hk] at q
      cases n with
      | zero => exact q.elim
      | succ m => exact ⟨m, rfl, gs', setGen_here hsz1, q⟩
  · intro _
    exact hP _ (hp _ (fun b o e => hk b o e) rfl fun z => setGen_same rfl z)
/-- any: the loop -/
theorem any_loop (hh : A.handled = none) (hd : A.depth < recursionLimit) (hO : ∀ s, Out s → R (.ok (.ret (.bool true))) s) (hF : ∀ s, Fin s → R (.ok (.ret (.bool false))) s) : ∀ (n : Nat) (s : Shared), s.heap.IsGen a g → s.heap.NoLimit →
    (∃ gs, s.gens[g]? = some gs ∧ gs.Goes (model P w) A.in1.in1 (RAny Fin) (YAny false a g Out) n (.send .none) (s.setGen g .running)) → codeAny (model P w) A (.builtin "any.loop" ⟨[.ref a], []⟩) R s := by
  intro n
  induction n using Nat.strongRecOn with
  | ind n ih =>
    intro s hg hl ⟨gs, hgs, hgo⟩
    refine codeAny_builtin F.entry_any_loop ?_
    rw [Around.under_plainId F.plain_any_loop _]
    show wpAny _ A.in1 (pyNext (.ref a) >>= _) _ _ s
    refine wpAny_bind (next_one (A := A.in1) hh hd hg hl hgs hgo (fun k s' hg1 hl1 h1 h2 => ?_) fun s' hf => ?_)
    · refine wpAny_bind (wpAny_holding (wpAny_truthy_bool (wpAny_bind (wpAny_letGo ?_))))
      cases k with
      | true =>
        rw [if_pos rfl]
        exact wpAny_bind (wpAny_rule (wpAny_pure (hO s' (h1 (by decide)))))
      | false =>
        rw [if_neg Bool.false_ne_true]
        obtain ⟨m, hm, gs', e1, e2⟩ := h2 rfl
        exact wpAny_pure ⟨plainId_quiet F.plain_any_loop _, ih m (by omega) s' hg1 hl1 ⟨gs', e1, e2⟩⟩
    · exact wpAny_bind (wpAny_rule (wpAny_pure (hF s' hf)))
theorem all_loop (hh : A.handled = none) (hd : A.depth < recursionLimit) (hO : ∀ s, Out s → R (.ok (.ret (.bool false))) s) (hF : ∀ s, Fin s → R (.ok (.ret (.bool true))) s) : ∀ (n : Nat) (s : Shared), s.heap.IsGen a g → s.heap.NoLimit →
    (∃ gs, s.gens[g]? = some gs ∧ gs.Goes (model P w) A.in1.in1 (RAny Fin) (YAny true a g Out) n (.send .none) (s.setGen g .running)) → codeAny (model P w) A (.builtin "all.loop" ⟨[.ref a], []⟩) R s := by
  intro n
  induction n using Nat.strongRecOn with
  | ind n ih =>
    intro s hg hl ⟨gs, hgs, hgo⟩
    refine codeAny_builtin F.entry_all_loop ?_
    rw [Around.under_plainId F.plain_all_loop _]
    show wpAny _ A.in1 (pyNext (.ref a) >>= _) _ _ s
    refine wpAny_bind (next_one (A := A.in1) hh hd hg hl hgs hgo (fun k s' hg1 hl1 h1 h2 => ?_) fun s' hf => ?_)
    · refine wpAny_bind (wpAny_holding (wpAny_truthy_bool (wpAny_bind (wpAny_letGo ?_))))
      cases k with
      | true =>
        rw [if_pos rfl]
        obtain ⟨m, hm, gs', e1, e2⟩ := h2 rfl
        exact wpAny_pure ⟨plainId_quiet F.plain_all_loop _, ih m (by omega) s' hg1 hl1 ⟨gs', e1, e2⟩⟩
      | false =>
        rw [if_neg Bool.false_ne_true]
        exact wpAny_bind (wpAny_rule (wpAny_pure (hO s' (h1 (by decide)))))
    · exact wpAny_bind (wpAny_rule (wpAny_pure (hF s' hf)))
end
end GX

set_option maxRecDepth 100000
set_option maxHeartbeats 4000000
namespace GX
open PySem PySem.Spec PyProof.Rows L2 GenW GxR

/-- the turns of any (t = false) and all (t = true) -/
def QTurn (t : Bool) (J : It) (gt : TG) (tt : TT) (te : TE) (σ0 : L2.St) (vs : List Nat) (Q : VK) (W : Nat → Nat → Hp → Prop) : Prop :=
  ∀ i m H, W i m H → (J.stop i H ∧ Q (.bl t) H) ∨ (J.go i H ∧ ∃ Nx : Hp → Prop, (∀ H', Nx H' → ∃ m', m' < m ∧ W (i + 1) m' H') ∧
    ∀ x H', J.yld i H x H' → gt x (wipe σ0 vs) H' fun σ2 H2 => wipe σ2 vs = wipe σ0 vs ∧ tt σ2 H2 fun b H3 => if b = true then te σ2 H3 fun y H4 => ∃ k, y = .bl k ∧ (if k = t then Nx H4 else Q (.bl (!t)) H4) else Nx H3)
def tQuant (t : Bool) (P : Addr) (wi : TI) (gt : TG) (tt : TT) (te : TE) (ix : List (Option Nat)) (vs : List Nat) : TE := fun σ H Q => wi σ H fun J H1 => TabG H1 P ∧ ∀ H2, Tabbed P H1 H2 →
  ∃ W : Nat → Nat → Hp → Prop, (∃ m, W 0 m H2) ∧ QTurn t J gt tt te (capt ix σ) vs Q W

section
variable {X : Cx} {pins : List (Addr × Obj)} {σ : L2.St}
variable {elt tg iter : Expr} {ifs : List Expr} {scope : Scope} {gpos : Pos} {J : It} {H2 : Hp} {a g it : Addr} {fp : List Addr} {tn : Nat → Heap → Prop} {code : Value} {s4 s5 : Shared}
theorem ready_quant {t : Bool} {A : Around} {Ng : List Str} {ix : List (Option Nat)} {vs : List Nat} {gt : TG} {tt : TT} {te : TE} {Q : VK} {W : Nat → Nat → Hp → Prop} {m0 : Nat} (M : Made X pins σ elt tg iter ifs scope gpos J H2 a g it fp tn code s4 s5) (S : GScp X.N X.env.scope scope Ng ix)
    (hA : A.frames = some X.stack) (hh : A.handled = none)
    (pg : PG (gX X A s4 H2 Ng scope (cloFrom X.env.cells scope.names []) s4.heap.objs.size code fp) tg gt) (pt : PTs (gX X A s4 H2 Ng scope (cloFrom X.env.cells scope.names []) s4.heap.objs.size code fp) ifs tt) (pe : PE (gX X A s4 H2 Ng scope (cloFrom X.env.cells scope.names []) s4.heap.objs.size code fp) elt te)
    (hW : W 0 m0 H2) (turn : QTurn t J gt tt te (capt ix σ) vs Q W) :
    ∃ n, ∃ gs, s5.gens[g]? = some gs ∧ gs.Goes (model X.prog X.w) A (RAny (EP X pins σ Q (.bool t))) (YAny t a g (EP X pins σ Q (.bool (!t)))) n (.send .none) (s5.setGen g .running) := by
  obtain ⟨go, nm, qn, ego, egc, egd, egs⟩ := M.gen
  have gen' : ∀ {h : Heap}, h.get? a = some go → h.IsGen a g := fun {h} e => ⟨go, nm, qn, e, egc, egd, egs⟩
  have hcell : ∀ v, go.data ≠ .cell v := fun v q => by rw [egd] at q; cases q
  have lt4 : ∀ b ∈ fp, b < s4.heap.objs.size := fun b hb => (M.fp b hb).2
  have bare5 : AllBare (s5.setGen g .running).gens := allBare_setGen M.bare rfl
  have I0 := gx_inv (A := A) (s2 := s5.setGen g .running) (code := code) (ps := [(a, go)]) M.inv S hA hh M.fp (fun b o e => M.keep b o e) M.os bare5 M.ns fun p hp => by
    rw [List.mem_singleton.mp hp]
    exact ⟨ego, M.lt, hcell⟩
  have I1 : Inv (gX X A s4 H2 Ng scope (cloFrom X.env.cells scope.names []) s4.heap.objs.size code fp) ([(a, go)] ++ []) (wipe (capt ix σ) vs) H2 (s5.setGen g .running) :=
    I0.weak (wipe_length _ _) fun j v e => (wipe_some e).1
  refine ⟨m0 + 1, _, M.gs, rfl, ?_⟩
  have st5 : tn 0 (s5.setGen g .running).heap := M.turn.keep _ _ _ M.st fun b _ o e => M.keep b o e
  refine seg_gxs (X := gX X A s4 H2 Ng scope (cloFrom X.env.cells scope.names []) s4.heap.objs.size code fp) (i := 0) M.turn st5 ?_
  refine seg_gx (X := gX X A s4 H2 Ng scope (cloFrom X.env.cells scope.names []) s4.heap.objs.size code fp) (γ := Unit) (Hold.one _ (a, go)) (J := J) (gt := gt) (tt := tt) (te := te) (σ0 := capt ix σ) (vs := vs) (W := fun i m _ H => W i m H) (Fu := fun _ n m => m < n)
    (Iw := fun _ y H Nx => ∃ k, y = .bl k ∧ (if k = t then Nx () H else Q (.bl (!t)) H)) (fin := fun _ H => Q (.bl t) H) (Sn := fun _ _ => True) over_gl rfl M.turn rfl (fun b _ p hp => by cases hp) pg pt pe S.co (fun _ _ z => z)
    (fun i m _ H hw => ?_) (fun h1 h2 => Nat.lt_trans h2 h1) (fun b hb e => ?_) (fun _ => trivial) (fun {n s₀ m _ y H v ip σ' s Nx} _ rv hz _ hf hi => ?_) (fun {n s₀ m _ ip σ' H s} hz _ hf hfu => ?_) m0 (m0 + 1) 0 _ _ () H2 hW (Nat.lt_succ_self _) trivial I1 st5 fun b hb => (M.fp b hb).1.1
  · rcases turn i m H hw with ⟨h1, h2⟩ | ⟨h1, Nx, h2, h3⟩
    · exact .inl ⟨h1, h2⟩
    · exact .inr ⟨h1, fun _ H' => Nx H', fun _ H' z => h2 H' z, h3⟩
  · have hb' := lt4 b hb
    rw [e] at hb'
    exact absurd (Nat.lt_trans M.lt hb') (Nat.lt_irrefl _)
  · obtain ⟨k, rfl, hi⟩ := hi
    obtain rfl : v = Value.bool k := rv
    obtain ⟨n', rfl⟩ : ∃ n', n = n' + 1 := ⟨n - 1, by omega⟩
    refine ⟨n', rfl, fun kap hk => ⟨k, rfl, ?_, hz.nolimit, fun s' h1 h2 h3 => ?_⟩⟩
    · exact gen' (hz.pin (a, go) (List.mem_append_right _ (List.mem_append_left _ (List.mem_singleton.mpr rfl)))).1
    · have bare' : AllBare s'.gens := h3 hz.bare
      split at hi
      · rename_i hkt
        rw [if_pos hkt]
        refine hk () s' hi ?_ fun m' hm => by omega
        have J2 := hz.call' (s' := s') (H' := H) (ch := []) h2 (by rw [h1]; exact Un.refl) (by rw [h1]; exact hz.hok) bare' fun b z => by simp at z
        exact J2
      · rename_i hkt
        rw [if_neg hkt]
        have hkn : k = !t := by cases k <;> cases t <;> first | rfl | exact (hkt rfl).elim
        exact ⟨.bl (!t), H, M.back hz (fun b o e => by rw [h1]; exact e) h2 bare', rfl, hi⟩
  · exact .inl ⟨.inr rfl, fun s' h1 h2 h3 => ⟨.bl t, H, M.back hz h1 h2 (h3 hz.bare), rfl, hf⟩⟩
end

section
variable {X : Cx} {c P : Addr} {elt tg iter : Expr} {ifs : List Expr} {p pos gpos : Pos} {scope : Scope} {Ng : List Str} {ix : List (Option Nat)} {vs : List Nat} {wi : TI} {gt : TG} {tt : TT} {te : TE} {k : Nat}
theorem pe_anyG (hr : Room (k + 1) X.A) (hg : Gl X "any") (hm : X.mg "any" = none) (TB : TabB X.base X.mg c P) (hcode : X.env.code = .ref c) (S : GScp X.N X.env.scope scope Ng ix) (hi : PI X tg iter wi)
    (pg : ∀ (A : Around) (s4 : Shared) (H4 : Hp) (cl : List (Str × Addr)) (C : Addr) (code : Value) (fp : List Addr), PG (gX X A s4 H4 Ng scope cl C code fp) tg gt) (pt : ∀ (A : Around) (s4 : Shared) (H4 : Hp) (cl : List (Str × Addr)) (C : Addr) (code : Value) (fp : List Addr), (∀ env, Room k (A.deeper env)) → PTs (gX X A s4 H4 Ng scope cl C code fp) ifs tt)
    (pe : ∀ (A : Around) (s4 : Shared) (H4 : Hp) (cl : List (Str × Addr)) (C : Addr) (code : Value) (fp : List Addr), (∀ env, Room k (A.deeper env)) → PE (gX X A s4 H4 Ng scope cl C code fp) elt te) (hs : ∀ v, genFold iter X.env v = pure v := by intro _; rfl)
    (he : starEach [.GeneratorExp elt [⟨tg, iter, ifs, 0⟩] scope gpos] X.env = (false, eval (.GeneratorExp elt [⟨tg, iter, ifs, 0⟩] scope gpos) X.env) :: starEach [] X.env := by rfl) :
    PE X (.Call (.Name "any" p) [.GeneratorExp elt [⟨tg, iter, ifs, 0⟩] scope gpos] [] pos) (tQuant false P wi gt tt te ix vs) := by
  refine ⟨fun pins s σ H Q I h => ?_⟩
  refine wpAny_Call_Name_kw (ld_blt I hg hm boot_any ?_)
  refine PyProof.Rows.callWith_builtin1 ?_ he (by rfl)
  rw [he]
  show wpAny _ _ (spliced ((false, eval (.GeneratorExp elt [⟨tg, iter, ifs, 0⟩] scope gpos) X.env) :: backTo pos (starEach [] X.env))) _ _ s
  refine Calls.spliced_cons (gx_make (R := fun J H2 => ∃ W : Nat → Nat → Hp → Prop, (∃ m, W 0 m H2) ∧ QTurn false J gt tt te (capt ix σ) vs Q W) hr TB hcode S hi hs I h fun J H2 a g it fp tn code s4 s5 hR M => ?_)
  obtain ⟨W, ⟨m0, hW⟩, turn⟩ := hR
  refine Calls.spliced_nil ?_
  have hr2 : ∀ env, Room k (X.A.in1.in1.deeper env) := fun env => ⟨hr.hd, by have := hr.dp; show X.A.depth + 1 + 3 * k + 5 < _; omega, by have := hr.un; show X.A.units + 1 + 1 + 3 + 16 * k + 200 < _; omega⟩
  obtain ⟨n, hgo⟩ := ready_quant (A := X.A.in1.in1) M S M.inv.ok.frames hr.hd (pg _ _ _ _ _ _ _) (pt _ _ _ _ _ _ _ hr2) (pe _ _ _ _ _ _ _ hr2) hW turn
  refine call_function_tree F.kind_any F.plain_any F.entry_any (F.args_any1 _) ?_
  unfold Builtin.«any»
  refine wpAny_bind (m := oneArg "any" _) (wpAny_pure (wpAny_bind (wpAny_pyIter_gen M.gen ?_)))
  refine wpAny_pure ⟨plainId_quiet F.plain_any_loop _, any_loop hr.hd (by have := hr.dp; omega) (fun s' h => h) (fun s' h => h) n s5 M.gen M.lim hgo⟩
theorem pe_allG (hr : Room (k + 1) X.A) (hg : Gl X "all") (hm : X.mg "all" = none) (hb : bootBuiltins "all" = some (.builtin "all")) (TB : TabB X.base X.mg c P) (hcode : X.env.code = .ref c) (S : GScp X.N X.env.scope scope Ng ix) (hi : PI X tg iter wi)
    (pg : ∀ (A : Around) (s4 : Shared) (H4 : Hp) (cl : List (Str × Addr)) (C : Addr) (code : Value) (fp : List Addr), PG (gX X A s4 H4 Ng scope cl C code fp) tg gt) (pt : ∀ (A : Around) (s4 : Shared) (H4 : Hp) (cl : List (Str × Addr)) (C : Addr) (code : Value) (fp : List Addr), (∀ env, Room k (A.deeper env)) → PTs (gX X A s4 H4 Ng scope cl C code fp) ifs tt)
    (pe : ∀ (A : Around) (s4 : Shared) (H4 : Hp) (cl : List (Str × Addr)) (C : Addr) (code : Value) (fp : List Addr), (∀ env, Room k (A.deeper env)) → PE (gX X A s4 H4 Ng scope cl C code fp) elt te) (hs : ∀ v, genFold iter X.env v = pure v := by intro _; rfl)
    (he : starEach [.GeneratorExp elt [⟨tg, iter, ifs, 0⟩] scope gpos] X.env = (false, eval (.GeneratorExp elt [⟨tg, iter, ifs, 0⟩] scope gpos) X.env) :: starEach [] X.env := by rfl) :
    PE X (.Call (.Name "all" p) [.GeneratorExp elt [⟨tg, iter, ifs, 0⟩] scope gpos] [] pos) (tQuant true P wi gt tt te ix vs) := by
  refine ⟨fun pins s σ H Q I h => ?_⟩
  refine wpAny_Call_Name_kw (ld_blt I hg hm hb ?_)
  refine PyProof.Rows.callWith_builtin1 ?_ he (by rfl)
  rw [he]
  show wpAny _ _ (spliced ((false, eval (.GeneratorExp elt [⟨tg, iter, ifs, 0⟩] scope gpos) X.env) :: backTo pos (starEach [] X.env))) _ _ s
  refine Calls.spliced_cons (gx_make (R := fun J H2 => ∃ W : Nat → Nat → Hp → Prop, (∃ m, W 0 m H2) ∧ QTurn true J gt tt te (capt ix σ) vs Q W) hr TB hcode S hi hs I h fun J H2 a g it fp tn code s4 s5 hR M => ?_)
  obtain ⟨W, ⟨m0, hW⟩, turn⟩ := hR
  refine Calls.spliced_nil ?_
  have hr2 : ∀ env, Room k (X.A.in1.in1.deeper env) := fun env => ⟨hr.hd, by have := hr.dp; show X.A.depth + 1 + 3 * k + 5 < _; omega, by have := hr.un; show X.A.units + 1 + 1 + 3 + 16 * k + 200 < _; omega⟩
  obtain ⟨n, hgo⟩ := ready_quant (A := X.A.in1.in1) M S M.inv.ok.frames hr.hd (pg _ _ _ _ _ _ _) (pt _ _ _ _ _ _ _ hr2) (pe _ _ _ _ _ _ _ hr2) hW turn
  refine call_function_tree F.kind_all F.plain_all F.entry_all (F.args_all1 _) ?_
  unfold Builtin.«all»
  refine wpAny_bind (m := oneArg "all" _) (wpAny_pure (wpAny_bind (wpAny_pyIter_gen M.gen ?_)))
  refine wpAny_pure ⟨plainId_quiet F.plain_all_loop _, all_loop hr.hd (by have := hr.dp; omega) (fun s' h => h) (fun s' h => h) n s5 M.gen M.lim hgo⟩
end
end GX

set_option maxRecDepth 100000
set_option maxHeartbeats 4000000
namespace GX
open PySem PySem.Spec PyProof.Rows L2 GenW GxR

/-- what a consumer holds that fills a list at S -/
def Hold.fill (X : Cx) (S : Addr) (q : Addr × Obj) : Hold X (List V) where
  ok := fun ys ip σ H s => ∃ (acc : Array Value) (c : Nat), Vals ys acc.toList ∧ Inv X ([(S, lstObj acc c), q] ++ ip) σ H s
  own := fun b => b = S ∨ b = q.1
  unfold := fun {ys ip σ H s} h => by
    obtain ⟨acc, c, r, I⟩ := h
    refine ⟨[(S, lstObj acc c), q], fun p hp => ?_, I, fun _ _ _ _ h' => ⟨acc, c, r, h'⟩⟩
    rcases List.mem_cons.mp hp with z | z
    · exact .inl (by rw [z])
    · exact .inr (by rw [List.mem_singleton.mp z])

def LTurn (J : It) (gt : TG) (tt : TT) (te : TE) (σ0 : L2.St) (vs : List Nat) (cont : List V → Hp → Prop) (W : Nat → Nat → List V → Hp → Prop) : Prop :=
  ∀ i m ys H, W i m ys H → (J.stop i H ∧ cont ys H) ∨ (J.go i H ∧ ∃ Nx : List V → Hp → Prop, (∀ ys' H', Nx ys' H' → ∃ m', m' < m ∧ W (i + 1) m' ys' H') ∧
    ∀ x H', J.yld i H x H' → gt x (wipe σ0 vs) H' fun σ2 H2 => wipe σ2 vs = wipe σ0 vs ∧ tt σ2 H2 fun b H3 => if b = true then te σ2 H3 fun y H4 => ys.length < sizeLine ∧ Nx (ys ++ [y]) H4 else Nx ys H3)
/-- (elt for .. in ..), drained: all that comes, in order -/
def tGenL (P : Addr) (wi : TI) (gt : TG) (tt : TT) (te : TE) (ix : List (Option Nat)) (vs : List Nat) : TGen := fun σ H cont => wi σ H fun J H1 => TabG H1 P ∧ ∀ H2, Tabbed P H1 H2 →
  ∃ W : Nat → Nat → List V → Hp → Prop, (∃ m, W 0 m [] H2) ∧ LTurn J gt tt te (capt ix σ) vs cont W

section
variable {X : Cx} {c P : Addr} {elt tg iter : Expr} {ifs : List Expr} {gpos : Pos} {scope : Scope} {Ng : List Str} {ix : List (Option Nat)} {vs : List Nat} {wi : TI} {gt : TG} {tt : TT} {te : TE} {k : Nat} {E : XK}
theorem pgen_exp (hr : Room k X.A) (TB : TabB X.base X.mg c P) (hcode : X.env.code = .ref c) (S : GScp X.N X.env.scope scope Ng ix) (hi : PI X tg iter wi)
    (pg : ∀ (A : Around) (s4 : Shared) (H4 : Hp) (cl : List (Str × Addr)) (C : Addr) (code : Value) (fp : List Addr), PG (gX X A s4 H4 Ng scope cl C code fp) tg gt) (pt : ∀ (A : Around) (s4 : Shared) (H4 : Hp) (cl : List (Str × Addr)) (C : Addr) (code : Value) (fp : List Addr), (∀ env, Room k (A.deeper env)) → PTs (gX X A s4 H4 Ng scope cl C code fp) ifs tt)
    (pe : ∀ (A : Around) (s4 : Shared) (H4 : Hp) (cl : List (Str × Addr)) (C : Addr) (code : Value) (fp : List Addr), (∀ env, Room k (A.deeper env)) → PE (gX X A s4 H4 Ng scope cl C code fp) elt te) (hs : ∀ v, genFold iter X.env v = pure v := by intro _; rfl) :
    PGen X (k + 1) (.GeneratorExp elt [⟨tg, iter, ifs, 0⟩] scope gpos) (tGenL P wi gt tt te ix vs) E := by
  refine ⟨fun pins s σ H cont I h => ?_⟩
  refine gx_make (R := fun J H2 => ∃ W : Nat → Nat → List V → Hp → Prop, (∃ m, W 0 m [] H2) ∧ LTurn J gt tt te (capt ix σ) vs cont W) hr TB hcode S hi hs I h fun J H2 a g it fp tn code s4 s5 hR M => ?_
  obtain ⟨W, ⟨m0, hW⟩, turn⟩ := hR
  refine ⟨H2, s4, fp, M.inv, fun b hb => ⟨(M.fp b hb).1.2.2.2.1, (M.fp b hb).1.2.1, (M.fp b hb).1.2.2.2.2.1, (M.fp b hb).1.2.2.2.2.2⟩, a, g, _, rfl, Nat.le_of_lt M.lt, M.ltA, M.gen, M.gs, M.os, M.bare, M.lim, M.keep, fun A Sx s2 hra hfr hSx hk2 hSo hos hba => ?_⟩
  obtain ⟨go, nm, qn, ego, egc, egd, egs⟩ := M.gen
  obtain ⟨c0, eS⟩ := hSo
  have gen' : ∀ {h : Heap}, h.get? a = some go → h.IsGen a g := fun {h} e => ⟨go, nm, qn, e, egc, egd, egs⟩
  have hcell : ∀ v, go.data ≠ .cell v := fun v q => by rw [egd] at q; cases q
  have lt4 : ∀ b ∈ fp, b < s4.heap.objs.size := fun b hb => (M.fp b hb).2
  have ltS : a < Sx := Nat.lt_of_lt_of_le M.ltA hSx
  have kp2 : ∀ b o, s4.heap.get? b = some o → s2.heap.get? b = some o := fun b o e => hk2 b o (M.keep b o e)
  have I0 := gx_inv (A := A) (s2 := s2) (code := code) (ps := [(Sx, lstObj #[] c0), (a, go)]) M.inv S hfr hra.hd M.fp kp2 hos hba (M.ns.at' fun o e => hk2 _ o e) fun p hp => by
    rcases List.mem_cons.mp hp with z | z
    · rw [z]
      exact ⟨eS, Nat.lt_trans M.lt ltS, fun v q => by cases q⟩
    · rw [List.mem_singleton.mp z]
      exact ⟨hk2 _ _ ego, M.lt, hcell⟩
  have I1 : Inv (gX X A s4 H2 Ng scope (cloFrom X.env.cells scope.names []) s4.heap.objs.size code fp) ([(Sx, lstObj #[] c0), (a, go)] ++ []) (wipe (capt ix σ) vs) H2 s2 :=
    I0.weak (wipe_length _ _) fun j v e => (wipe_some e).1
  have st2 : tn 0 s2.heap := M.turn.keep _ _ _ M.st fun b _ o e => kp2 b o e
  have hro : ∀ env, Room k (A.deeper env) := fun env => hra.deeper env
  refine seg_gxs (X := gX X A s4 H2 Ng scope (cloFrom X.env.cells scope.names []) s4.heap.objs.size code fp) (i := 0) M.turn st2 ?_
  refine seg_gx (X := gX X A s4 H2 Ng scope (cloFrom X.env.cells scope.names []) s4.heap.objs.size code fp) (γ := List V) (Hold.fill _ Sx (a, go)) (J := J) (gt := gt) (tt := tt) (te := te) (σ0 := capt ix σ) (vs := vs) (W := W) (Fu := fun ys n m => n + ys.length = sizeLine)
    (Iw := fun ys y H Nx => ys.length < sizeLine ∧ Nx (ys ++ [y]) H) (fin := cont) (Sn := fun _ _ => True) over_gl rfl M.turn rfl (fun b _ p hp => by cases hp) (pg _ _ _ _ _ _ _) (pt _ _ _ _ _ _ _ hro) (pe _ _ _ _ _ _ _ hro) S.co (fun _ _ z => z)
    turn (fun h1 _ => h1) (fun b hb e => ?_) (fun _ => trivial) (fun {n s₀ m ys y H v ip σ' s Nx} hip rv hz _ hf hi => ?_) (fun {n s₀ m ys ip σ' H s} hz _ hf hfu => ?_) m0 sizeLine 0 _ _ [] H2 hW (Nat.add_zero _) trivial ⟨#[], c0, .nil, I1⟩ st2 fun b hb => (M.fp b hb).1.1
  · have hb' := lt4 b hb
    rcases e with e | e
    · rw [e] at hb'
      exact absurd (Nat.lt_trans (Nat.lt_trans M.lt ltS) hb') (Nat.lt_irrefl _)
    · rw [e] at hb'
      exact absurd (Nat.lt_trans M.lt hb') (Nat.lt_irrefl _)
  · obtain ⟨acc, cc, rvs, Iz⟩ := hz
    obtain ⟨hlt, hnx⟩ := hi
    obtain ⟨n', rfl⟩ : ∃ n', n = n' + 1 := ⟨n - 1, by omega⟩
    have eS' : s.heap.get? Sx = some (lstObj acc cc) := (Iz.pin (Sx, lstObj acc cc) (List.mem_append_right _ (List.mem_append_left _ List.mem_cons_self))).1
    have hSp := Iz.pin (Sx, lstObj acc cc) (List.mem_append_right _ (List.mem_append_left _ List.mem_cons_self))
    have hap := Iz.pin (a, go) (List.mem_append_right _ (List.mem_append_left _ (List.mem_cons_of_mem _ (List.mem_singleton.mpr rfl))))
    have hasz : acc.size = ys.length := by
      have e1 := rvs.length
      have e2 : acc.toList.length = acc.size := by simp
      omega
    refine ⟨n', rfl, fun kap hk => ⟨Iz.os, Iz.bare, Iz.nolimit, gen' hap.1, ⟨acc, cc, eS', by omega⟩, fun s' z => ?_⟩⟩
    have hG : GI (gX X A s4 H2 Ng scope (cloFrom X.env.cells scope.names []) s4.heap.objs.size code fp) Sx ((a, go) :: ip) ys σ' H s := ⟨acc, cc, rvs, Iz⟩
    have nip : ∀ p ∈ (a, go) :: ip, p.1 ≠ Sx := fun p hp e => by
      rcases List.mem_cons.mp hp with q | q
      · rw [q] at e
        exact Nat.ne_of_lt ltS e
      · have hb := lt4 p.1 (hip p q)
        rw [e] at hb
        exact absurd (Nat.lt_trans (Nat.lt_trans M.lt ltS) hb) (Nat.lt_irrefl _)
    have ncell : ∀ x cl, (gX X A s4 H2 Ng scope (cloFrom X.env.cells scope.names []) s4.heap.objs.size code fp).env.cells.lookup x = some cl → cl ≠ Sx := fun x cl e z => by
      obtain ⟨vc, o, ho, hd⟩ := Iz.cell x cl e
      rw [z, eS'] at ho
      cases ho
      cases hd
    obtain ⟨acc', cc', rvs', Iz'⟩ := hG.woken (x := y) (v := v) (fun p hp => by cases hp) nip ⟨Nat.le_of_lt (Nat.lt_trans M.lt ltS), hSp.2.2.1, ncell⟩ rv z
    exact hk (ys ++ [y]) s' hnx ⟨acc', cc', rvs', Iz'⟩ fun m' _ => by
      rw [List.length_append, List.length_singleton]
      omega
  · obtain ⟨acc, cc, rvs, Iz⟩ := hz
    have hSp := Iz.pin (Sx, lstObj acc cc) (List.mem_append_right _ (List.mem_append_left _ List.mem_cons_self))
    exact .inl ⟨.inr rfl, H, ys, acc, cc, Iz.os, Iz.bare, Iz.base, Iz.hok, hSp.2.1, hSp.1, rvs, by omega, hf⟩
end
end GX

set_option maxRecDepth 100000
set_option maxHeartbeats 4000000
namespace GX
open PySem PySem.Spec PyProof.Rows L2 GenW GxR
open AutoSeq1 (wpAny_loadPart')

section
variable {P : Program} {w : World} {outer : List Env} {H : Hp} {sc s : Shared} {ex : List Addr} {cont : List V → Hp → Prop} {A : Around} {k : Nat} {u : Value} {E : Value → Shared → Prop}
/-- what stands behind a generator's draining -/
def Drained (P : Program) (w : World) (outer : List Env) (H : Hp) (sc : Shared) (ex : List Addr) (cont : List V → Hp → Prop) (us : List Value) (s' : Shared) : Prop :=
  ∃ H' ys, Vals ys us ∧ ys.length ≤ sizeLine ∧ s'.os = sc.os ∧ AllBare s'.gens ∧ Un (frs outer) ex H H' sc.heap s'.heap ∧ HOk P w H' s'.heap ∧ cont ys H'
/-- the items of a generator, all at once -/
theorem collect_new {Q : List Value → Shared → Prop} (hr : Room (k + 3) A) (hfr : A.frames = some outer) (h : GMade P w k outer H sc ex cont (fun _ _ _ => False) u s)
    (hQ : ∀ us s', Drained P w outer H sc ex cont us s' → Q us s') : wpAny (model P w) A (collect u) Q E s := by
  obtain ⟨a, g, c, rfl, ha1, ha2, hg, hgs, hos, hb, hl, hkp, wake⟩ := h
  have hSa : s.heap.objs.size ≠ a := Nat.ne_of_gt ha2
  have hcl : cStatics < s.heap.objs.size := let ⟨_, hn, _⟩ := hl; hn.lt
  have hSc : s.heap.objs.size ≠ cStatics := Nat.ne_of_gt hcl
  unfold collect
  refine wpAny_bind (wpAny_runValue (codeAny_builtin F.entry_proto_collect ?_))
  rw [Around.under_plainId F.plain_proto_collect _]
  show wpAny _ A.in1 (newList [] >>= fun l => again (.builtin "list.__iadd__" ⟨[l, .ref a], []⟩)) _ _ s
  refine wpAny_bind (wpAny_newObj_type ?_)
  refine wpAny_pure ⟨plainId_quiet F.plain_list_iadd _, codeAny_builtin F.entry_list_iadd ?_⟩
  rw [Around.under_plainId F.plain_list_iadd _]
  generalize hS : s.heap.objs.size = S at *
  have eS : (s.heap.push { cls := .type "list", data := .seq ([] : List Value).toArray }).get? S = some { cls := .type "list", data := .seq ([] : List Value).toArray } := by
    rw [← hS]
    exact Heap.get?_push_size _ rfl
  have k1 : ∀ b o, s.heap.get? b = some o → (s.heap.push { cls := .type "list", data := .seq ([] : List Value).toArray }).get? b = some o := fun b o e => Heap.get?_push_of_some _ e
  have neS : ∀ b o, s.heap.get? b = some o → b ≠ S := fun b o e => by
    rw [← hS]
    exact Nat.ne_of_lt (Heap.lt_size e)
  have up : ∀ (h : Heap) (f : Obj → Obj), (∀ b o, s.heap.get? b = some o → h.get? b = some o) → ∀ b o, s.heap.get? b = some o → (h.update S f).get? b = some o := fun h f q b o e =>
    (Heap.get?_update_other _ _ (Ne.symm (neS b o e))).trans (q b o e)
  have gty : ∀ {h : Heap}, (∀ b o, s.heap.get? b = some o → h.get? b = some o) → h.IsGen a g := fun {h} q => hg.keeps q
  show wpAny _ A.in1 (Builtin.List.listExtendWith (.ref S) (.ref a) (.ref S)) _ _ _
  unfold Builtin.List.listExtendWith
  refine wpAny_bind (wpAny_typeOf (Heap.IsGen.typeIs (s := { s with heap := _ }) (gty k1)) ?_)
  have h1 : Builtin.List.listSameRef (.ref S) (.ref a) = false := by simp [Builtin.List.listSameRef, hSa]
  have h2 : (Value.type "generator" == Value.type "list") = false := by decide
  have h3 : (Value.type "generator" == Value.type "tuple") = false := by decide
  simp only [h1, h2, h3, Bool.or_false, Bool.false_eq_true, if_false]
  refine wpAny_bind (wpAny_pyIter_gen (s := { s with heap := _ }) (gty k1) (wpAny_bind (wpAny_holding ?_)))
  unfold Builtin.List.listLengthHint
  refine wpAny_bind (wpAny_specialOf (Heap.IsGen.typeIs (s := { s with heap := _ }) (gty k1)) F.gen_no_len ?_)
  show wpAny _ A.in1 (specialOf (Value.ref a) (Str.ofString "__length_hint__") >>= _) _ _ _
  refine wpAny_bind (wpAny_specialOf (Heap.IsGen.typeIs (s := { s with heap := _ }) (gty k1)) F.gen_no_hint (wpAny_pure ?_))
  show wpAny _ A.in1 (rule "list.extend.makes-room" >>= fun _ => Builtin.List.listTouch (.ref S) >>= fun _ => again (.builtin "list.extend.loop" ⟨[.ref S, .ref a, .ref S], []⟩)) _ _ _
  refine wpAny_bind (wpAny_rule (wpAny_bind ?_))
  show wpAny _ A.in1 (updateSeq S (·.push .none) >>= fun _ => updateSeq S (·.pop)) _ _ _
  refine wpAny_bind (wpAny_updateSeq eS rfl ?_)
  have e2 := Heap.get?_update_self (Obj.mapSeq (·.push Value.none)) eS rfl
  refine wpAny_updateSeq (hz := by seq_fits) e2 rfl ?_
  have e3 := Heap.get?_update_self (Obj.mapSeq (·.pop)) e2 rfl
  have k3 := up _ (Obj.mapSeq (·.pop)) (up _ (Obj.mapSeq (·.push Value.none)) k1)
  refine wpAny_pure ⟨plainId_quiet F.plain_extend_loop _, ?_⟩
  have hd : A.depth < recursionLimit := by
    have := hr.dp
    omega
  refine drain (P := P) (w := w) (outer := outer) (H := H) (sc := sc) (ex := ex) (Q := cont) (EX := fun _ _ _ => False) (A := A) (g := g) hr.hd hd hSa hSc
    (fun s' acc c H' ys q1 q2 q3 q4 q5 q6 q7 q8 q9 => ?_) (fun e s' hc => ?_) sizeLine _ (gty k3) (hl.keeps k3) ⟨_, hgs, rfl, ?_⟩
  · show wpAny _ A (load S >>= _) _ _ s'
    exact wpAny_bind (wpAny_load q1 (wpAny_pure (hQ _ s' ⟨H', ys, q2, q3, q4, q5, q6, q7, q9⟩)))
  · obtain ⟨_, _, _, _, _, _, _, _, _, _, _, _, z⟩ := hc
    exact z.elim
  · refine wake _ _ _ ⟨hr.hd, ?_, ?_⟩ hfr ?_ k3 ⟨_, e3⟩ hos (allBare_setGen (s := { s with heap := _ }) hb rfl)
    · have := hr.dp
      show A.depth + 3 * k + 5 < _
      omega
    · have := hr.un
      show A.units + 1 + 1 + 16 * k + 200 < _
      omega
    · exact Nat.le_refl _
/-- tuple(g) -/
theorem call_tuple_new {Q : Value → Shared → Prop} (hr : Room (k + 5) A) (hfr : A.frames = some outer) (h : GMade P w k outer H sc ex cont (fun _ _ _ => False) u s)
    (hQ : ∀ us s', Drained P w outer H sc ex cont us s' → Q (.ref s'.heap.objs.size) { s' with heap := s'.heap.push { cls := .type "tuple", data := .seq us.toArray } }) : wpAny (model P w) A (call (.type "tuple") [u]) Q E s := by
  have hTI : s.TypeIs u "generator" := by
    obtain ⟨a, g, c, rfl, _, _, hg, _⟩ := h
    exact hg.typeIs
  refine callType_codes (Q₁ := fun obj s₁ => s₁.TypeIs obj "tuple" ∧ Q obj s₁) F.called_tuple (F.typeCall_tuple_1 _) F.entry_object_init ?_ fun obj s₁ h₁ =>
    ⟨h₁.1, F.args_object_init_2 obj _, object_init_meets F.called_tuple.init.lookup F.called_tuple.made (by decide) P w A.in1 _ s₁ ⟨h₁.1, rfl, h₁.2⟩⟩
  refine codeAny_of_tree ?_
  show wpAny _ A.in1.in1 (do checkBuiltinCall "tuple.__new__" ⟨[.type "tuple", u], []⟩; again (.builtin "tuple.__new__" ⟨[.type "tuple", u], []⟩)) _ _ s
  refine wpAny_bind (wpAny_of_eq (F.newCall_tuple_1 _) (wpAny_pure ⟨plainId_quiet F.plain_tuple_new _, codeAny_builtin F.entry_tuple_new ?_⟩))
  rw [Around.under_plainId F.plain_tuple_new _]
  have hsub := sub_tuple_self
  have hinit := init_tuple_lookup
  have hmh := madeHere_tuple
  have hroom : Room (k + 3) A.in1.in1 := ⟨hr.hd, by have := hr.dp; show A.depth + 3 * (k + 3) + 5 < _; omega, by have := hr.un; show A.units + 1 + 1 + 16 * (k + 3) + 200 < _; omega⟩
  have hfr2 : A.in1.in1.frames = some outer := hfr
  wp_walk using wpAny_typeOf hTI, collect_new hroom hfr2 h
  intro us s' hD
  have hlen : us.toArray.size ≤ sizeLine := by
    obtain ⟨H', ys, r, hl, _⟩ := hD
    rw [List.size_toArray, ← r.length]
    exact hl
  show wpAny _ _ (Builtin.Tuple.tupleExact us.toArray >>= fun v => ret v) _ _ _
  unfold Builtin.Tuple.tupleExact
  exact wpAny_bind (wpAny_newObj_type (wpAny_pure ⟨⟨_, Heap.get?_push_size _ rfl, rfl⟩, hQ us s' hD⟩) hlen)
end

section
variable {X : Cx} {k : Nat} {p pos : Pos}
def tTupG (tg : TGen) : TE := fun σ H Q => tg σ H fun out H2 => ∀ p, H2 p = none → Q (.ref p) (upd H2 p (.tup out))
/-- behind the draining, in the def's context -/
theorem Drained.inv {pins : List (Addr × Obj)} {σ : L2.St} {H1 : Hp} {sc s' : Shared} {ex : List Addr} {cont : List V → Hp → Prop} {us : List Value} (I : Inv X pins σ H1 sc) (hex : ExOk X pins ex) (h : Drained X.prog X.w X.stack H1 sc ex cont us s') :
    ∃ H' ys, Vals ys us ∧ ys.length ≤ sizeLine ∧ Inv X pins σ H' s' ∧ cont ys H' := by
  obtain ⟨H', ys, r, hl, os, hb, un, hok, hc⟩ := h
  exact ⟨H', ys, r, hl, I.call' (ch := ex) os un hok hb hex, hc⟩
theorem pe_tupG {e : Expr} {tg : TGen} {nm : Str} (h : PGen X k e tg (fun _ _ _ => False)) (hr : Room (k + 5) X.A) (hg : Gl X nm) (hmg : X.mg nm = none) (hv : bootBuiltins nm = some (.type "tuple")) (hnm : nm ≠ "__name__" := by decide) (hdb : (nm == ("__debug__" : Str)) = false := by decide)
    (he : starEach [e] X.env = (false, eval e X.env) :: starEach [] X.env := by rfl) : PE X (.Call (.Name nm p) [e] [] pos) (tTupG tg) := by
  refine ⟨fun pins s σ H Q I hq => ?_⟩
  refine wpAny_Call_Name_kw (ld_blt I hg hmg hv ?_ hnm hdb)
  refine PyProof.Rows.callWith_type1 ?_ he rfl
  rw [he]
  show wpAny _ _ (spliced ((false, eval e X.env) :: backTo pos (starEach [] X.env))) _ _ s
  refine Calls.spliced_cons (thn (h.run pins s σ H _ I hq) fun u s1 ⟨H1, sc, ex, I1, hex, hG⟩ => ?_)
  refine Calls.spliced_nil (call_tuple_new hr I1.ok.frames hG fun us s' hD => ?_)
  obtain ⟨H', ys, r, hl, I2, hc⟩ := hD.inv I1 hex
  refine ⟨.ref s'.heap.objs.size, upd H' s'.heap.objs.size (.tup ys), I2.laid (t' := s'.toks) (fun b o e => Heap.get?_push_of_some _ e) (Nat.le_refl _) ⟨hl, us, r, ?_⟩, rfl, hc _ (I2.hok.fresh (Nat.le_refl _))⟩
  exact ⟨_, Heap.get?_push_size _ rfl, rfl, _, rfl⟩
end
end GX

set_option maxRecDepth 100000
set_option maxHeartbeats 4000000
namespace GX
open PySem PySem.Spec PyProof.Rows L2 GenW GxR

/-- the running sum stands in the list at S; the letter: the very list -/
structure Tly where
  t : Int
  tk : Tok
  c : Nat
abbrev Tly.obj (x : Tly) : Obj := lstObj #[.int x.t x.tk] x.c
def Hold.tally (X : Cx) (S : Addr) (q : Addr × Obj) : Hold X Tly where
  ok := fun x ip σ H s => Inv X ([(S, x.obj), q] ++ ip) σ H s
  own := fun b => b = S ∨ b = q.1
  unfold := fun {x ip σ H s} I => by
    refine ⟨[(S, x.obj), q], fun p hp => ?_, I, fun _ _ _ _ h' => h'⟩
    rcases List.mem_cons.mp hp with z | z
    · exact .inl (by rw [z])
    · exact .inr (by rw [List.mem_singleton.mp z])
/-- the protocol of sum -/
def YSum (a g S : Nat) : Protocol := fun _ s₀ v s1 kap =>
  ∃ (j : Int) (tj : Tok) (x : Tly), v = .int j tj ∧ s1.heap.IsGen a g ∧ s1.heap.NoLimit ∧ s₀.heap.get? S = some x.obj ∧ s1.heap.get? S = some x.obj ∧ InLong j ∧ InLong (x.t + j) ∧
    ∀ s' : Shared, (∀ b o, b ≠ S → s1.heap.get? b = some o → s'.heap.get? b = some o) → (∃ tk' c', s'.heap.get? S = some (lstObj #[.int (x.t + j) tk'] c')) → s'.os = s1.os → (AllBare s1.gens → AllBare s'.gens) → kap (.send .none) s'
def FSum (S : Nat) (Fin : Int → Shared → Prop) (_ : Nat) (s₀ s1 : Shared) : Prop := ∃ x : Tly, s₀.heap.get? S = some x.obj ∧ ∀ s' : Shared, (∀ b o, s1.heap.get? b = some o → s'.heap.get? b = some o) → s'.os = s1.os → (AllBare s1.gens → AllBare s'.gens) → Fin x.t s'
def RSum (S : Nat) (Fin : Int → Shared → Prop) : GenEnd := fun n s₀ r s1 => ((r = .ok (.ret .none) ∨ r = .ok .next) ∧ FSum S Fin n s₀ s1) ∨ ∃ e, r = .error e ∧ NoE e s1

section
variable {P : Program} {w : World} {A : Around} {a g S : Nat} {R : Result → Shared → Prop} {Fin : Int → Shared → Prop}
theorem tly_eq {x y : Tly} {o : Option Obj} (h1 : o = some x.obj) (h2 : o = some y.obj) : x.t = y.t := by
  rw [h1] at h2
  have e := Option.some.inj h2
  have e2 : Data.seq #[.int x.t x.tk] x.c = Data.seq #[.int y.t y.tk] y.c := congrArg Obj.data e
  injection e2 with e3 _
  have e4 := congrArg (·[0]?) e3
  simp only [List.getElem?_toArray, List.getElem?_cons_zero] at e4
  injection (Option.some.inj e4)
theorem sum_loop (hh : A.handled = none) (hd : A.depth < recursionLimit) (hSa : S ≠ a) (hSc : S ≠ cStatics) (hF : ∀ t tk s, Fin t s → R (.ok (.ret (.int t tk))) s) : ∀ (n : Nat) (s : Shared), s.heap.IsGen a g → s.heap.NoLimit → (∃ x : Tly, s.heap.get? S = some x.obj) →
    (∃ gs, s.gens[g]? = some gs ∧ gs.Goes (model P w) A.in1.in1 (RSum S Fin) (YSum a g S) n (.send .none) (s.setGen g .running)) →
    codeAny (model P w) A (.builtin "sum.loop" ⟨[.ref a, .ref S, rawInt 0, rawInt 0], []⟩) R s := by
  intro n
  induction n using Nat.strongRecOn with
  | ind n ih =>
    intro s hg hl ⟨x0, hS⟩ ⟨gs, hgs, hgo⟩
    have hgl : g < s.gens.size := (Array.getElem?_eq_some_iff.mp hgs).1
    refine codeAny_builtin F.entry_sum_loop ?_
    rw [Around.under_plainId F.plain_sum_loop _]
    show wpAny _ A.in1 (seqItems? (.ref S) >>= _) _ _ s
    refine wpAny_bind (wpAny_seqItems hS rfl ?_)
    show wpAny _ A.in1 (tryCatch (pyNext (.ref a)) _ >>= _) _ _ s
    refine wpAny_bind (wpAny_tryCatch (wpAny_gsz (n := g + 1) hgl (next_genG (A := A.in1) (F := FSum S Fin) (Er := NoE) hh hl hd hg hgs hgo (fun v s₁ gs' hbare hv => ?_) (fun s₁ hp h' hk => ?_) fun e s₁ he => he.elim)))
    · intro hsz
      obtain ⟨j, tj, x, rfl, hg1, hl1, q0, q1, f1, f2, hq⟩ := hv
      have et : x.t = x0.t := tly_eq q0 hS
      rw [et] at f2 hq
      obtain ⟨f11, f12⟩ := f1
      obtain ⟨f21, f22⟩ := f2
      have hc : ((decide (-(2 ^ 63) ≤ j) && decide (j < 2 ^ 63)) && (decide (-(2 ^ 63) ≤ x0.t + j) && decide (x0.t + j < 2 ^ 63))) = true := by
        simp only [Bool.and_eq_true, decide_eq_true_eq]
        exact ⟨⟨f11, f12⟩, f21, f22⟩
      show wpAny _ A.in1 (if (_ : Bool) = true then (mkInt (x0.t + j) >>= _) else _) _ _ _
      split
      · refine wpAny_bind (wpAny_mkInt ?_)
        show wpAny _ A.in1 (updateSeq S (fun _ => #[.int (x0.t + j) (s₁.setGen g gs').toks]) >>= _) _ _ _
        refine wpAny_bind ?_
        have q1' : (s₁.setGen g gs').heap.get? S = some x.obj := q1
        have hsz1 : g < s₁.gens.size := by
          have q : (s₁.setGen g gs').gens.size = s₁.gens.size := setGen_size _ _ _
          have hsz' : g + 1 ≤ (s₁.setGen g gs').gens.size := hsz
          omega
        have oth : ∀ b o, b ≠ S → s₁.heap.get? b = some o → (s₁.heap.update S (Obj.mapSeq (fun _ => #[.int (x0.t + j) (s₁.setGen g gs').toks]))).get? b = some o := fun b o hb e => (Heap.get?_update_other _ _ (Ne.symm hb)).trans e
        have newS := Heap.get?_update_self (Obj.mapSeq (fun _ => (#[.int (x0.t + j) (s₁.setGen g gs').toks] : Array Value))) q1 rfl
        cases n with
        | zero => exact (hq { s₁ with heap := s₁.heap.update S (Obj.mapSeq (fun _ => #[.int (x0.t + j) (s₁.setGen g gs').toks])) } oth ⟨_, _, newS⟩ rfl (fun z => z)).elim
        | succ m =>
          refine wpAny_updateSeq q1' rfl (wpAny_pure ⟨plainId_quiet F.plain_sum_loop _, ih m (Nat.lt_succ_self _) _ ?_ ?_ ⟨⟨_, _, _⟩, newS⟩ ⟨gs', setGen_here hsz1, ?_⟩⟩)
          · obtain ⟨o, nm, qn, ho, r⟩ := hg1
            exact ⟨o, nm, qn, oth a o (Ne.symm hSa) ho, r⟩
          · obtain ⟨mc, hns, hnn⟩ := hl1
            exact ⟨mc, hns.at' fun o e => oth _ o (Ne.symm hSc) e, hnn⟩
          · exact hq _ oth ⟨_, _, newS⟩ rfl fun z => setGen_same rfl (setGen_same hbare z)
      · rename_i hneg
        exact absurd hc hneg
    · intro _
      obtain ⟨x, q0, hfin⟩ := hp
      have et : x.t = x0.t := tly_eq q0 hS
      rw [et] at hfin
      exact wpAny_pure (hF _ _ _ (hfin _ (fun b o e => hk b o e) rfl fun z => setGen_same rfl z))
end

def STurn (J : It) (gt : TG) (tt : TT) (te : TE) (σ0 : L2.St) (vs : List Nat) (Q : VK) (W : Nat → Nat → Int → Hp → Prop) : Prop :=
  ∀ i m t H, W i m t H → (J.stop i H ∧ Q (.int t) H) ∨ (J.go i H ∧ ∃ Nx : Int → Hp → Prop, (∀ t' H', Nx t' H' → ∃ m', m' < m ∧ W (i + 1) m' t' H') ∧
    ∀ x H', J.yld i H x H' → gt x (wipe σ0 vs) H' fun σ2 H2 => wipe σ2 vs = wipe σ0 vs ∧ tt σ2 H2 fun b H3 => if b = true then te σ2 H3 fun y H4 => ∃ j, y = .int j ∧ InLong j ∧ InLong (t + j) ∧ Nx (t + j) H4 else Nx t H3)
def tSumG (P : Addr) (wi : TI) (gt : TG) (tt : TT) (te : TE) (ix : List (Option Nat)) (vs : List Nat) : TE := fun σ H Q => wi σ H fun J H1 => TabG H1 P ∧ ∀ H2, Tabbed P H1 H2 →
  ∃ W : Nat → Nat → Int → Hp → Prop, (∃ m, W 0 m 0 H2) ∧ STurn J gt tt te (capt ix σ) vs Q W

section
variable {X : Cx} {pins : List (Addr × Obj)} {σ : L2.St}
variable {elt tg iter : Expr} {ifs : List Expr} {scope : Scope} {gpos : Pos} {J : It} {H2 : Hp} {a g it : Addr} {fp : List Addr} {tn : Nat → Heap → Prop} {code : Value} {s4 s5 : Shared}
theorem ready_sum {A : Around} {Ng : List Str} {ix : List (Option Nat)} {vs : List Nat} {gt : TG} {tt : TT} {te : TE} {Q : VK} {W : Nat → Nat → Int → Hp → Prop} {m0 : Nat} {Sx : Addr} {x0 : Tly} {s2 : Shared} (M : Made X pins σ elt tg iter ifs scope gpos J H2 a g it fp tn code s4 s5) (S : GScp X.N X.env.scope scope Ng ix)
    (hfr : A.frames = some X.stack) (hh : A.handled = none) (hSx : s5.heap.objs.size ≤ Sx) (hk2 : ∀ b o, s5.heap.get? b = some o → s2.heap.get? b = some o) (eS : s2.heap.get? Sx = some x0.obj) (hx0 : x0.t = 0) (hos : s2.os = s5.os) (hba : AllBare s2.gens)
    (pg : PG (gX X A s4 H2 Ng scope (cloFrom X.env.cells scope.names []) s4.heap.objs.size code fp) tg gt) (pt : PTs (gX X A s4 H2 Ng scope (cloFrom X.env.cells scope.names []) s4.heap.objs.size code fp) ifs tt) (pe : PE (gX X A s4 H2 Ng scope (cloFrom X.env.cells scope.names []) s4.heap.objs.size code fp) elt te)
    (hW : W 0 m0 0 H2) (turn : STurn J gt tt te (capt ix σ) vs Q W) :
    ∃ n, (GenState.fresh (gStart elt tg iter ifs scope gpos it (genEnv scope (cloFrom X.env.cells scope.names []) s4.heap.objs.size code builtinsNs X.env))).Goes (model X.prog X.w) A (RSum Sx fun t s' => ∃ H', Inv X pins σ H' s' ∧ Q (.int t) H') (YSum a g Sx) n (.send .none) s2 := by
  obtain ⟨go, nm, qn, ego, egc, egd, egs⟩ := M.gen
  have gen' : ∀ {h : Heap}, h.get? a = some go → h.IsGen a g := fun {h} e => ⟨go, nm, qn, e, egc, egd, egs⟩
  have hcell : ∀ v, go.data ≠ .cell v := fun v q => by rw [egd] at q; cases q
  have lt4 : ∀ b ∈ fp, b < s4.heap.objs.size := fun b hb => (M.fp b hb).2
  have ltS : a < Sx := Nat.lt_of_lt_of_le M.ltA hSx
  have kp2 : ∀ b o, s4.heap.get? b = some o → s2.heap.get? b = some o := fun b o e => hk2 b o (M.keep b o e)
  have I0 := gx_inv (A := A) (s2 := s2) (code := code) (ps := [(Sx, x0.obj), (a, go)]) M.inv S hfr hh M.fp kp2 (hos.trans M.os) hba (M.ns.at' fun o e => hk2 _ o e) fun p hp => by
    rcases List.mem_cons.mp hp with z | z
    · rw [z]
      exact ⟨eS, Nat.lt_trans M.lt ltS, fun v q => by cases q⟩
    · rw [List.mem_singleton.mp z]
      exact ⟨hk2 _ _ ego, M.lt, hcell⟩
  have I1 : Inv (gX X A s4 H2 Ng scope (cloFrom X.env.cells scope.names []) s4.heap.objs.size code fp) ([(Sx, x0.obj), (a, go)] ++ []) (wipe (capt ix σ) vs) H2 s2 :=
    I0.weak (wipe_length _ _) fun j v e => (wipe_some e).1
  have st2 : tn 0 s2.heap := M.turn.keep _ _ _ M.st fun b _ o e => kp2 b o e
  refine ⟨m0 + 1, rfl, ?_⟩
  refine seg_gxs (X := gX X A s4 H2 Ng scope (cloFrom X.env.cells scope.names []) s4.heap.objs.size code fp) (i := 0) M.turn st2 ?_
  refine seg_gx (X := gX X A s4 H2 Ng scope (cloFrom X.env.cells scope.names []) s4.heap.objs.size code fp) (γ := Tly) (Hold.tally _ Sx (a, go)) (J := J) (gt := gt) (tt := tt) (te := te) (σ0 := capt ix σ) (vs := vs) (W := fun i m x H => W i m x.t H) (Fu := fun _ n m => m < n)
    (Iw := fun x y H Nx => ∃ j, y = .int j ∧ InLong j ∧ InLong (x.t + j) ∧ ∀ tk c, Nx ⟨x.t + j, tk, c⟩ H) (fin := fun x H => Q (.int x.t) H) (Sn := fun s x => s.heap.get? Sx = some x.obj) over_gl rfl M.turn rfl (fun b _ p hp => by cases hp) pg pt pe S.co (fun _ _ z => z)
    (fun i m x H hw => ?_) (fun h1 h2 => Nat.lt_trans h2 h1) (fun b hb e => ?_) (fun {x ip σ H s} hz => (hz.pin (Sx, x.obj) (List.mem_append_right _ (List.mem_append_left _ List.mem_cons_self))).1) (fun {n s₀ m x y H v ip σ' s Nx} hip rv hz hsn hf hi => ?_) (fun {n s₀ m x ip σ' H s} hz hsn hf hfu => ?_) m0 (m0 + 1) 0 _ _ x0 H2 (by rw [hx0]; exact hW) (Nat.lt_succ_self _) eS I1 st2 fun b hb => (M.fp b hb).1.1
  · rcases turn i m x.t H hw with ⟨h1, h2⟩ | ⟨h1, Nx, h2, h3⟩
    · exact .inl ⟨h1, h2⟩
    · refine .inr ⟨h1, fun x' H' => Nx x'.t H', fun x' H' z => h2 x'.t H' z, ?_⟩
      have e : (fun (y : V) (H4 : Hp) => ∃ j, y = V.int j ∧ InLong j ∧ InLong (x.t + j) ∧ ∀ (tk : Tok) (c : Nat), Nx (Tly.mk (x.t + j) tk c).t H4) = fun y H4 => ∃ j, y = V.int j ∧ InLong j ∧ InLong (x.t + j) ∧ Nx (x.t + j) H4 := by
        funext y H4
        refine propext ⟨fun ⟨j, e1, e2, e3, e4⟩ => ⟨j, e1, e2, e3, e4 0 0⟩, fun ⟨j, e1, e2, e3, e4⟩ => ⟨j, e1, e2, e3, fun _ _ => e4⟩⟩
      rw [e]
      exact h3
  · have hb' := lt4 b hb
    rcases e with e | e
    · rw [e] at hb'
      exact absurd (Nat.lt_trans (Nat.lt_trans M.lt ltS) hb') (Nat.lt_irrefl _)
    · rw [e] at hb'
      exact absurd (Nat.lt_trans M.lt hb') (Nat.lt_irrefl _)
  · obtain ⟨j, rfl, f1, f2, hnx⟩ := hi
    obtain ⟨tj, rfl⟩ : ∃ tj, v = Value.int j tj := rv
    obtain ⟨n', rfl⟩ : ∃ n', n = n' + 1 := ⟨n - 1, by omega⟩
    have hSp := hz.pin (Sx, x.obj) (List.mem_append_right _ (List.mem_append_left _ List.mem_cons_self))
    have hap := hz.pin (a, go) (List.mem_append_right _ (List.mem_append_left _ (List.mem_cons_of_mem _ (List.mem_singleton.mpr rfl))))
    refine ⟨n', rfl, fun kap hk => ⟨j, tj, x, rfl, gen' hap.1, hz.nolimit, hsn, hSp.1, f1, f2, fun s' h1 h2 h3 h4 => ?_⟩⟩
    obtain ⟨tk', c', eS'⟩ := h2
    refine hk ⟨x.t + j, tk', c'⟩ s' (hnx tk' c') ?_ fun m' hm => by omega
    have nip : ∀ p ∈ (a, go) :: ip, p.1 ≠ Sx := fun p hp e => by
      rcases List.mem_cons.mp hp with q | q
      · rw [q] at e
        exact Nat.ne_of_lt ltS e
      · have hb := lt4 p.1 (hip p q)
        rw [e] at hb
        exact absurd (Nat.lt_trans (Nat.lt_trans M.lt ltS) hb) (Nat.lt_irrefl _)
    have ncell : ∀ y cl, (gX X A s4 H2 Ng scope (cloFrom X.env.cells scope.names []) s4.heap.objs.size code fp).env.cells.lookup y = some cl → cl ≠ Sx := fun y cl e z => by
      obtain ⟨vc, o, ho, hd⟩ := hz.cell y cl e
      rw [z, hSp.1] at ho
      cases ho
      cases hd
    have nt : ∀ b u, H b = some u → b ≠ Sx := fun b u q e => by
      rw [e, hSp.2.1] at q
      cases q
    -- the list at Sx has turned
    have Ia : Inv (gX X A s4 H2 Ng scope (cloFrom X.env.cells scope.names []) s4.heap.objs.size code fp) ((a, go) :: ip) σ' H s := hz.pins_of fun p hp => hz.pin p (List.mem_append_right _ (by
      rcases List.mem_cons.mp hp with q | q
      · exact List.mem_append_left _ (by rw [q]; exact List.mem_cons_of_mem _ (List.mem_singleton.mpr rfl))
      · exact List.mem_append_right _ q))
    have Ib : Inv (gX X A s4 H2 Ng scope (cloFrom X.env.cells scope.names []) s4.heap.objs.size code fp) ((a, go) :: ip) σ' H s' := by
      refine Ia.call' (ch := [Sx]) h3 ⟨fun b o e n _ hc => h1 b o (fun z => hc (by rw [z]; exact List.mem_singleton.mpr rfl)) e, fun b o e n _ hc => ⟨o.slots, h1 b o (fun z => hc (by rw [z]; exact List.mem_singleton.mpr rfl)) e⟩, fun _ _ _ n _ => n,
        fun b o e hc => ⟨o, h1 b o (fun z => hc (by rw [z]; exact List.mem_singleton.mpr rfl)) e⟩, fun _ _ q => q, fun _ _ _ q => q, fun b ps q => ⟨#[], by rw [q]; simp⟩⟩ (fun b u q => ?_) (h4 hz.bare) fun b hb => ?_
      · refine (Ia.hok b u q).stay (fun c v hc y => h1 c v ?_ y) (fun _ y => y) fun _ _ y => y
        rcases hc with y | y
        · rw [y]
          exact nt b u q
        · exact nt c _ y
      · rw [List.mem_singleton.mp hb]
        exact ⟨.inr (Nat.le_of_lt (Nat.lt_trans M.lt ltS)), hSp.2.2.1.symm.symm, fun y cl e => ncell y cl e, fun p hp => nip p (by
          rcases List.mem_append.mp hp with q | q
          · cases q
          · exact q)⟩
    refine Ib.pins_of fun p hp => ?_
    rcases List.mem_append.mp hp with q | q
    · rcases List.mem_cons.mp q with q | q
      · rw [q]
        exact ⟨eS', hSp.2.1, hSp.2.2.1, hSp.2.2.2.1, fun v z => by cases z⟩
      · rw [List.mem_singleton.mp q]
        exact Ib.pin (a, go) (List.mem_append_right _ List.mem_cons_self)
    · exact Ib.pin p (List.mem_append_right _ (List.mem_cons_of_mem _ q))
  · exact .inl ⟨.inr rfl, x, hsn, fun s' h1 h2 h3 => ⟨H, M.back hz h1 h2 (h3 hz.bare), hf⟩⟩
end
end GX

set_option maxRecDepth 100000
set_option maxHeartbeats 4000000
namespace GX
open PySem PySem.Spec PyProof.Rows L2 GenW GxR
section
variable {X : Cx} {c P : Addr} {elt tg iter : Expr} {ifs : List Expr} {p pos gpos : Pos} {scope : Scope} {Ng : List Str} {ix : List (Option Nat)} {vs : List Nat} {wi : TI} {gt : TG} {tt : TT} {te : TE} {k : Nat}
theorem pe_sumG (hr : Room (k + 1) X.A) (hg : Gl X "sum") (hm : X.mg "sum" = none) (hb : bootBuiltins "sum" = some (.builtin "sum")) (TB : TabB X.base X.mg c P) (hcode : X.env.code = .ref c) (S : GScp X.N X.env.scope scope Ng ix) (hi : PI X tg iter wi)
    (pg : ∀ (A : Around) (s4 : Shared) (H4 : Hp) (cl : List (Str × Addr)) (C : Addr) (code : Value) (fp : List Addr), PG (gX X A s4 H4 Ng scope cl C code fp) tg gt) (pt : ∀ (A : Around) (s4 : Shared) (H4 : Hp) (cl : List (Str × Addr)) (C : Addr) (code : Value) (fp : List Addr), (∀ env, Room k (A.deeper env)) → PTs (gX X A s4 H4 Ng scope cl C code fp) ifs tt)
    (pe : ∀ (A : Around) (s4 : Shared) (H4 : Hp) (cl : List (Str × Addr)) (C : Addr) (code : Value) (fp : List Addr), (∀ env, Room k (A.deeper env)) → PE (gX X A s4 H4 Ng scope cl C code fp) elt te) (hs : ∀ v, genFold iter X.env v = pure v := by intro _; rfl)
    (he : starEach [.GeneratorExp elt [⟨tg, iter, ifs, 0⟩] scope gpos] X.env = (false, eval (.GeneratorExp elt [⟨tg, iter, ifs, 0⟩] scope gpos) X.env) :: starEach [] X.env := by rfl) :
    PE X (.Call (.Name "sum" p) [.GeneratorExp elt [⟨tg, iter, ifs, 0⟩] scope gpos] [] pos) (tSumG P wi gt tt te ix vs) := by
  refine ⟨fun pins s σ H Q I h => ?_⟩
  refine wpAny_Call_Name_kw (ld_blt I hg hm hb ?_)
  refine PyProof.Rows.callWith_builtin1 ?_ he (by rfl)
  rw [he]
  show wpAny _ _ (spliced ((false, eval (.GeneratorExp elt [⟨tg, iter, ifs, 0⟩] scope gpos) X.env) :: backTo pos (starEach [] X.env))) _ _ s
  refine Calls.spliced_cons (gx_make (R := fun J H2 => ∃ W : Nat → Nat → Int → Hp → Prop, (∃ m, W 0 m 0 H2) ∧ STurn J gt tt te (capt ix σ) vs Q W) hr TB hcode S hi hs I h fun J H2 a g it fp tn code s4 s5 hR M => ?_)
  obtain ⟨W, ⟨m0, hW⟩, turn⟩ := hR
  have hr2 : ∀ env, Room k (X.A.in1.in1.deeper env) := fun env => ⟨hr.hd, by have := hr.dp; show X.A.depth + 1 + 3 * k + 5 < _; omega, by have := hr.un; show X.A.units + 1 + 1 + 3 + 16 * k + 200 < _; omega⟩
  refine Calls.spliced_nil (call_function_tree F.kind_sum F.plain_sum F.entry_sum (F.args_sum1 _) ?_)
  unfold Builtin.«sum»
  simp only [List.length_cons, List.length_nil]
  rw [if_neg (by decide)]
  refine wpAny_bind (wpAny_of_eq (show Builtin.Builtins.bindParams "sum" ["start"] 0 { } = pure [none] from rfl) (wpAny_bind (wpAny_pyIter_gen M.gen ?_)))
  refine wpAny_bind (wpAny_mkInt (wpAny_bind (wpAny_pure ?_)))
  simp only [List.forIn_cons, List.forIn_nil]
  refine wpAny_bind (wpAny_bind (wpAny_bind (wpAny_isInstance (T := "int") (b := false) (typeIs_int _ _ _) PySem.sub_int_str ?_)))
  simp only [Bool.false_eq_true, if_false]
  refine wpAny_pure (wpAny_bind (wpAny_bind (wpAny_isInstance (T := "int") (b := false) (typeIs_int _ _ _) PySem.sub_int_bytes ?_)))
  simp only [Bool.false_eq_true, if_false]
  refine wpAny_pure (wpAny_bind (wpAny_bind (wpAny_isInstance (T := "int") (b := false) (typeIs_int _ _ _) PySem.sub_int_bytearray ?_)))
  simp only [Bool.false_eq_true, if_false]
  refine wpAny_pure (wpAny_pure (wpAny_bind (wpAny_newObj_type ?_)))
  have ltS : s5.heap.objs.size ≠ a := Nat.ne_of_gt M.ltA
  have hcl : cStatics < s5.heap.objs.size := let ⟨_, hn, _⟩ := M.lim; hn.lt
  have kp : ∀ b o, s5.heap.get? b = some o → (s5.heap.push { cls := .type "list", data := .seq ([Value.int 0 s5.toks] : List Value).toArray }).get? b = some o := fun b o e => Heap.get?_push_of_some _ e
  have eS : (s5.heap.push { cls := .type "list", data := .seq ([Value.int 0 s5.toks] : List Value).toArray }).get? s5.heap.objs.size = some (Tly.obj ⟨0, s5.toks, 0⟩) := Heap.get?_push_size _ rfl
  refine wpAny_pure ⟨plainId_quiet F.plain_sum_loop _, ?_⟩
  obtain ⟨n, hgo⟩ := ready_sum (A := X.A.in1.in1) (Sx := s5.heap.objs.size) (x0 := ⟨0, s5.toks, 0⟩) (s2 := ({ s5 with heap := s5.heap.push { cls := .type "list", data := .seq ([Value.int 0 s5.toks] : List Value).toArray }, toks := s5.toks + 1 } : Shared).setGen g .running) M S M.inv.ok.frames hr.hd (Nat.le_refl _) kp eS rfl rfl (allBare_setGen (s := { s5 with heap := _ }) M.bare rfl)
    (pg _ _ _ _ _ _ _) (pt _ _ _ _ _ _ _ hr2) (pe _ _ _ _ _ _ _ hr2) hW turn
  refine sum_loop (A := X.A) (Fin := fun t s' => ∃ H', Inv X pins σ H' s' ∧ Q (.int t) H') hr.hd (by have := hr.dp; omega) ltS (Nat.ne_of_gt hcl) (fun t tk s' h => ?_) n _ (M.gen.keeps kp) (M.lim.keeps kp) ⟨_, eS⟩ ⟨_, M.gs, hgo⟩
  obtain ⟨H', I', q⟩ := h
  exact ⟨.int t, H', I', ⟨tk, rfl⟩, q⟩
end
end GX

set_option maxRecDepth 100000
set_option maxHeartbeats 4000000
/-! LX: lambdas without parameters as values; the def that calls one and tells its errors by words. -/
namespace LX
open PySem PySem.Spec PyProof.Rows L2
open LamX (CodeO TabS Tabs ExtN inv_table codeO_ne among_app LamS)

/-- a lambda's own words -/
structure LF where
  params : Arguments
  body : Expr
  scope : Scope
  cl : List (Str × Addr)
  c : Addr
  qual : Str
def LamO (f : Addr) (L : LF) : HO := .ext fun h => ∃ pm ctv, h.get? f = some (PySem.W.kla_obj "<lambda>" L.qual L.params L.body L.scope L.cl pm L.c ctv)
theorem lamO_at {P : Program} {w : World} {H : Hp} {h : Heap} {f : Addr} {L : LF} (hok : HOk P w H h) (e : H f = some (LamO f L)) : ∃ pm ctv, h.get? f = some (PySem.W.kla_obj "<lambda>" L.qual L.params L.body L.scope L.cl pm L.c ctv) := by
  obtain ⟨z, _, _⟩ := hok f _ e
  exact z
section
variable {X : Cx} {pins : List (Addr × Obj)} {σ : L2.St} {H : Hp} {s : Shared}
theorem inv_lam {L : LF} {pm ctv : Value} {t' : Nat} (I : Inv X pins σ H s) :
    Inv X pins σ (upd H s.heap.objs.size (LamO s.heap.objs.size L)) { s with heap := s.heap.push (PySem.W.kla_obj "<lambda>" L.qual L.params L.body L.scope L.cl pm L.c ctv), toks := t' } := by
  refine I.laid (a := s.heap.objs.size) (fun b u e => Heap.get?_push_of_some _ e) (Nat.le_refl _) ?_
  have e : (s.heap.push (PySem.W.kla_obj "<lambda>" L.qual L.params L.body L.scope L.cl pm L.c ctv)).get? s.heap.objs.size = some (PySem.W.kla_obj "<lambda>" L.qual L.params L.body L.scope L.cl pm L.c ctv) := Heap.get?_push_size _ rfl
  exact ⟨⟨pm, ctv, e⟩, ⟨_, e⟩, fun h1 h2 ⟨p, t, z⟩ st => ⟨p, t, st _ z⟩⟩
/-- the lambda is made, and known from now on -/
theorem lam_new {T : List (Addr × Str)} {c P : Addr} {params : Arguments} {body : Expr} {scope : Scope} {pos : Pos} {E : Value → Shared → Prop} {Q : Value → Shared → Prop} (I : Inv X pins σ H s) (TB : LamX.TabB X.base X.mg c P) (hcode : X.env.code = .ref c)
    (hm : (P, X.env.qual ++ "<lambda>") ∈ T) (hu : ∀ p ∈ T, p.1 = P → p.2 = X.env.qual ++ "<lambda>") (hT : Tabs T H) (hdef : defaultsOf params X.env = ([], [])) (hfree : ∀ y ∈ scope.names, y.2 = .free → ∃ c, X.env.cells.lookup y.1 = some c)
    (h : ∀ (f c' : Addr) (H1 : Hp) (s' : Shared), Inv X pins σ H1 s' → ExtN H H1 → Tabs T H1 → H f = none → H1 f = some (LamO f ⟨params, body, scope, cloFrom X.env.cells scope.names [], c', X.env.qual ++ "<lambda>"⟩) → H1 c' = some (CodeO c' (X.env.qual ++ "<lambda>")) →
      (∀ b, H1 b = none → H b = none) → (∀ b o, b ≠ P → H b = some o → H1 b = some o) → Q (.ref f) s') :
    wpAny (model X.prog X.w) X.A (eval (.Lambda params body scope pos) X.env) Q E s := by
  obtain ⟨ps, hP, ht, ha⟩ := hT _ hm
  refine PySem.W.kla_eval hdef ?_
  have bP : s.heap.BuiltinsAt X.mg P := TB.bm.keeps I.bk
  have hP' : s.heap.get? P = some { cls := .none, data := .fields ps } := I.hok P _ hP
  have back : ∀ {H : Hp} {a b : Addr} {o : HO}, upd H a o b = none → H b = none := fun {H a b o} e => by
    unfold upd at e
    split at e
    · cases e
    · exact e
  cases hc : codeAmong pos ps.toList with
  | none =>
    refine PySem.W.kla_makeFunction (mg := X.mg) (c := c) (P := P) (ps := ps) (closure_ok hfree) I.ok.glob (I.mod.glob.keeps I.bk) hcode (TB.code.keeps I.bk) hP' ht hc TB.gP bP fun c' ctv h' tk hx hge hlt hrec htb => ?_
    obtain ⟨c2, oc, vs, t, e2, hoc, hd, hv⟩ := hrec
    cases e2
    have nC : H c' = none := I.hok.fresh hge
    have I1 := inv_table (t' := tk) (more := #[rawInt pos.line, rawInt pos.col, .ref c']) (h' := h') I hP (fun b o hb e => hx b o hb e) htb hge ⟨oc, vs, t, hoc, hd, hv⟩
    have eL : (ps ++ #[rawInt pos.line, rawInt pos.col, .ref c']).toList = ps.toList ++ [rawInt pos.line, rawInt pos.col, .ref c'] := by simp
    have hE : ExtN H (upd (upd H P (.tbl (ps ++ #[rawInt pos.line, rawInt pos.col, .ref c']))) c' (CodeO c' (X.env.qual ++ "<lambda>"))) := fun b o e n => by
      rw [upd_ne (ne_of_none e nC), upd_ne (fun z => n ps (Option.some.inj (e.symm.trans (by rw [z]; exact hP))))]
      exact e
    have T1 : Tabs T (upd (upd H P (.tbl (ps ++ #[rawInt pos.line, rawInt pos.col, .ref c']))) c' (CodeO c' (X.env.qual ++ "<lambda>"))) := fun p hp => by
      by_cases hb : p.1 = P
      · rw [hu p hp hb, hb]
        refine ⟨_, by rw [upd_ne (ne_of_none hP nC), upd_same], by rw [eL]; exact PySem.TriplesOk_snoc _ _ _ _ ht, fun p' cv hcv => ?_⟩
        rw [eL] at hcv
        rcases among_app _ ht hcv with z | z
        · obtain ⟨c0, e1, e2⟩ := ha p' cv z
          exact ⟨c0, e1, hE _ _ e2 codeO_ne⟩
        · exact ⟨c', z, upd_same⟩
      · obtain ⟨ps', a1, a2, a3⟩ := hT p hp
        refine ⟨ps', by rw [upd_ne (ne_of_none a1 nC), upd_ne hb]; exact a1, a2, fun p' cv hcv => ?_⟩
        obtain ⟨c0, e1, e2⟩ := a3 p' cv hcv
        exact ⟨c0, e1, hE _ _ e2 codeO_ne⟩
    have nF := I1.hok.fresh (Nat.le_refl _)
    have I2 := inv_lam (L := ⟨params, body, scope, cloFrom X.env.cells scope.names [], c', X.env.qual ++ "<lambda>"⟩) (pm := (X.mg "__name__").getD .none) (ctv := ctv) (t' := tk) I1
    refine h h'.objs.size c' _ _ I2 (fun b o e n => ?_) (T1.ext fun b o e => ?_) (I.hok.fresh (Nat.le_trans hge (Nat.le_of_lt hlt))) upd_same ((upd_ne (Nat.ne_of_lt hlt)).trans upd_same) (fun b e => back (back (back e))) (fun b o nb e => by
      have e2 : upd (upd H P (.tbl (ps ++ #[rawInt pos.line, rawInt pos.col, .ref c']))) c' (CodeO c' (X.env.qual ++ "<lambda>")) b = some o := by
        rw [upd_ne (ne_of_none e nC), upd_ne nb]
        exact e
      exact (upd_ne (ne_of_none e2 nF)).trans e2)
    · exact (upd_ne (ne_of_none (hE b o e n) nF)).trans (hE b o e n)
    · exact (upd_ne (ne_of_none e nF)).trans e
  | some cv =>
    obtain ⟨c', e, hco⟩ := ha pos cv hc
    subst e
    refine PySem.W.kla_makeFunctionHit (mg := X.mg) (c := c) (P := P) (ps := ps) (closure_ok hfree) I.ok.glob (I.mod.glob.keeps I.bk) hcode (TB.code.keeps I.bk) hP' ht hc bP fun ctv h' tk hx hsz => ?_
    have I1 : Inv X pins σ H { s with heap := h', toks := tk } := I.kept hx
    have nF : H h'.objs.size = none := I1.hok.fresh (Nat.le_refl _)
    have I2 := inv_lam (L := ⟨params, body, scope, cloFrom X.env.cells scope.names [], c', X.env.qual ++ "<lambda>"⟩) (pm := (X.mg "__name__").getD .none) (ctv := ctv) (t' := tk) I1
    refine h h'.objs.size c' _ _ I2 (fun b o e n => ?_) (hT.ext fun b o e => ?_) nF upd_same ((upd_ne (ne_of_none hco nF)).trans hco) (fun b e => back e) (fun b o _ e => (upd_ne (ne_of_none e nF)).trans e)
    · exact (upd_ne (ne_of_none e nF)).trans e
    · exact (upd_ne (ne_of_none e nF)).trans e
end
/-- the lambda as a value -/
def tLamV (T : List (Addr × Str)) (P : Addr) (mk : Addr → LF) : TE := fun σ H Q => Tabs T H ∧ ∀ (f c' : Addr) (H1 : Hp), ExtN H H1 → Tabs T H1 → H f = none → H1 f = some (LamO f (mk c')) → H1 c' = some (CodeO c' (mk c').qual) → (∀ b, H1 b = none → H b = none) → (∀ b o, b ≠ P → H b = some o → H1 b = some o) → Q (.ref f) H1
section
variable {X : Cx}
theorem pe_lam {T : List (Addr × Str)} {c P : Addr} {params : Arguments} {body : Expr} {scope : Scope} {pos : Pos} (TB : LamX.TabB X.base X.mg c P) (hcode : X.env.code = .ref c) (hm : (P, X.env.qual ++ "<lambda>") ∈ T) (hu : ∀ p ∈ T, p.1 = P → p.2 = X.env.qual ++ "<lambda>")
    (L : LamS X.env.scope scope) (hdef : defaultsOf params X.env = ([], []) := by rfl) :
    PE X (.Lambda params body scope pos) (tLamV T P fun c' => ⟨params, body, scope, cloFrom X.env.cells scope.names [], c', X.env.qual ++ "<lambda>"⟩) := by
  refine ⟨fun pins s σ H Q I h => ?_⟩
  obtain ⟨hT, h⟩ := h
  exact lam_new I TB hcode hm hu hT hdef (L.has I.ok) fun f c' H1 s' I1 eN T1 f0 f1 c1 nn kp => ⟨.ref f, H1, I1, rfl, h f c' H1 eN T1 f0 f1 c1 nn kp⟩
end
end LX

set_option maxRecDepth 100000
set_option maxHeartbeats 4000000
namespace LX
open PySem PySem.Spec PyProof.Rows L2
open LamX (CodeO TabS Tabs ExtN inv_table codeO_ne among_app LamS)

abbrev lamE (L : LF) (n f : Addr) : Env := PySem.W.envX L.qual L.scope n f (.ref L.c) L.cl
/-- the context of a lambda's body that captures nothing -/
def lamC (P : Program) (w : World) (K : PySem.W.Frag) (mg : Str → Option Value) (base : Heap) (A : Around) (outer : List Env) (s : Shared) (H : Hp) (E : XK) (L : LF) (f : Addr) : Cx where
  prog := P
  w := w
  K := K
  mg := mg
  base := base
  A := A.deeper (lamE L s.heap.objs.size f)
  N := []
  s_0 := s
  H_0 := H
  env := lamE L s.heap.objs.size f
  outer := outer
  stack := lamE L s.heap.objs.size f :: outer
  ex := []
  fn := fun _ => false
  calm := true
  pn := []
  xe := fun e s' => wpAny (model P w) (A.deeper (lamE L s.heap.objs.size f)) (leaving (lamE L s.heap.objs.size f) e) (fun _ s'' => L2.CX P w outer H s E e s'') (fun e' s'' => L2.CX P w outer H s E e' s'') s'
/-- a lambda that captures nothing: tl is what its body is worth -/
structure LamOk (P : Program) (w : World) (K : PySem.W.Frag) (mg : Str → Option Value) (base : Heap) (k : Nat) (L : LF) (tl : XK → Hp → VK → Prop) : Prop where
  kind : L.scope.kind = .function
  co : L.scope.isCoroutine = false
  gen : L.scope.isGenerator = false
  own : ∀ y ∈ L.scope.names, y.2 ≠ .local ∧ y.2 ≠ .cell ∧ y.2 ≠ .free
  cl : L.cl = []
  bind : ∀ pm ctv : Value, bindArgs (PySem.W.kla_fn "<lambda>" L.qual L.params L.body L.scope L.cl pm (.ref L.c) ctv) ⟨[], []⟩ = pure []
  body : ∀ (A : Around) (outer : List Env) (s : Shared) (H : Hp) (E : XK) (f : Addr), Room k (A.deeper (lamE L s.heap.objs.size f)) → PE (lamC P w K mg base A outer s H E L f) L.body (fun _ H' Q => tl E H' Q)

section
variable {P : Program} {w : World} {K : PySem.W.Frag} {mg : Str → Option Value} {base : Heap}
theorem lam_begin {A : Around} {outer : List Env} {s1 : Shared} {HZ : Hp} {E : XK} {L : LF} {f : Addr} {h₁ : Heap} {tk : Nat} (kind : L.scope.kind = .function) (own : ∀ y ∈ L.scope.names, y.2 ≠ .local ∧ y.2 ≠ .cell ∧ y.2 ≠ .free) (hcl : L.cl = []) (e0 : Env0 P w K mg base A outer s1 HZ) (hd : A.handled = none)
    (hns : h₁.Ns s1.heap.objs.size fun y => ([] : List (Str × Value)).reverse.lookup y) (kp : ∀ b o, s1.heap.get? b = some o → h₁.get? b = some o) :
    Inv (lamC P w K mg base A outer s1 HZ E L f) [] [] HZ { s1 with heap := h₁, toks := tk } := by
  have nocl : ∀ {y : Str} {c : Addr}, (lamE L s1.heap.objs.size f).cells.lookup y = some c → False := fun {y c} e => by
    have e : L.cl.lookup y = some c := e
    rw [hcl] at e
    cases e
  have noA : ∀ b : Addr, b ∉ (lamC P w K mg base A outer s1 HZ E L f).ex := fun b z => absurd (show b ∈ ([] : List Addr) from z) (by simp)
  refine ⟨⟨e0.mod, kind, rfl, rfl, Nat.le_refl _, fun y z c e1 e2 => (nocl e1).elim, fun y hy => ?_, fun y c z _ => ?_, fun _ => hd, Around.frames_deeper e0.frames, .inr ⟨rfl, rfl⟩, fun b z => absurd z (noA b), e0.bs, e0.bsz, fun b _ _ => noA b,
      fun b z => absurd z (noA b), e0.funs, e0.frf⟩,
    rfl, e0.bare, Un.kept kp, ⟨_, hns, fun i y v e1 e2 e3 => ?_⟩, fun y c e => (nocl e).elim, e0.hok.fresh (Nat.le_refl _), fun y c e => (nocl e).elim, fun q hq => absurd (show q ∈ ([] : List (Addr × Obj)) ++ [] from hq) (by simp), e0.hok.kept kp, rfl⟩
  · have hy : L.scope.names.lookup y = some .cell ∨ L.scope.names.lookup y = some .free := hy
    rcases hy with hy | hy
    · exact absurd rfl (own _ (PySem.mem_of_lookup hy)).2.1
    · exact absurd rfl (own _ (PySem.mem_of_lookup hy)).2.2
  · have z : false = true := z
    cases z
  · have e1 : ([] : List Str)[i]? = some y := e1
    simp at e1
end
/-- what()  -/
def tAct (P : Program) (w : World) (K : PySem.W.Frag) (mg : Str → Option Value) (base : Heap) (k i : Nat) (E : XK) : TE := fun σ H Q => ∃ f L tl, σ[i]? = some (some (.ref f)) ∧ H f = some (LamO f L) ∧ H L.c = some (CodeO L.c L.qual) ∧ LamOk P w K mg base k L tl ∧ tl E H Q
section
variable {Z : Cx}
theorem pe_act {k i : Nat} {a : Str} {E : XK} {p1 p2 : Pos} (hx : Passes (L2.CX Z.prog Z.w) Z E) (hr : Room (k + 1) Z.A) (hN : Z.N[i]? = some a) (hv : Vis Z.env.scope a) (hd : (a == ("__debug__" : Str)) = false := by decide) (hcd : (a == ("__classdict__" : Str)) = false := by decide) :
    PE Z (.Call (.Name a p1) [] [] p2) (tAct Z.prog Z.w Z.K Z.mg Z.base k i E) := by
  refine ⟨fun pinsZ sZ σZ HZ Q IZ h => ?_⟩
  obtain ⟨f, L, tl, hs, hf, hc, ok, ht⟩ := h
  refine wpAny_Call_Name_kw (thn ((pe_var (pos := p1) (i := i) hN hv hd hcd).run pinsZ sZ σZ HZ (fun v H1 => v = .ref f ∧ H1 = HZ) IZ ⟨.ref f, hs, rfl, rfl⟩) fun u s1 ⟨v, H1, I1, r1, ev, eH⟩ => ?_)
  subst ev
  rw [eH] at I1
  obtain rfl : u = Value.ref f := r1
  obtain ⟨pm, ctv, of1⟩ := lamO_at I1.hok hf
  refine PySem.W.callWith_F0 ⟨_, _, _, _, of1⟩ ?_
  obtain ⟨⟨oc, vs, t, hoc, hdc, hvc⟩, _, _⟩ := I1.hok L.c _ hc
  have rc : codeAny (model Z.prog Z.w) Z.A (.call (.ref f) ⟨[], []⟩) (CR (L2.CX Z.prog Z.w) Z.stack Z.prog Z.w HZ s1 Q E) s1 := by
    refine PySem.W.kla_callFunE hr.depth of1 rfl ok.co ok.gen rfl ⟨L.c, oc, vs, t, rfl, hoc, hdc, hvc⟩ ?_
    rw [ok.bind]
    refine wpAny_pure (wpAny_newFunctionEnv (fun y hy => (ok.own y hy).2.1) (fun y hy => absurd hy (by simp)) (fun h₁ hns hsb => ⟨I1.nolimit.fresh _ hsb, ?_⟩) ok.kind)
    have kp : ∀ b o, s1.heap.get? b = some o → h₁.get? b = some o := fun b o e => hsb.extBut b o (Nat.ne_of_lt (Heap.lt_size e)) (Heap.get?_push_of_some _ e)
    have J : Inv (lamC Z.prog Z.w Z.K Z.mg Z.base Z.A Z.stack s1 HZ E L f) [] [] HZ { s1 with heap := h₁, toks := s1.toks + ([] : List (Str × Value)).length } :=
      lam_begin ok.kind ok.own ok.cl I1.env0 hr.hd hns kp
    refine PySem.W.kla_codeExpr (wpAny_mono ((ok.body _ _ s1 HZ E f (hr.deeper _)).run [] _ _ HZ Q J ht) (fun v s' hq => ?_) fun e s' hq => hq)
    obtain ⟨w', H', J', rv, q⟩ := hq
    exact ⟨w', H', J'.os, J'.bare, J'.base, J'.hok, rv, q⟩
  refine wpAny_call (codeAny_mono rc fun r s' hq => ?_)
  cases r with
  | error e => exact hx pinsZ σZ HZ s1 e s' I1 hq
  | ok fl =>
    cases fl with
    | ret u => exact I1.after hq
    | next => exact False.elim hq
    | brk => exact False.elim hq
    | cont => exact False.elim hq
end
end LX

set_option maxRecDepth 100000
set_option maxHeartbeats 4000000
namespace XT
open PySem PySem.Spec PyProof.Rows L2
section
variable {X : Cx} {a b c d : Expr} {ta tb tc td : TE} {pos : Pos}
/-- a op1 b op2 c op3 d as a test -/
def tChain3 (r r' r'' : R2) (ta tb tc td : TE) : TT := fun σ H Q => ta σ H fun x H1 => tb σ H1 fun y H2 => r x y H2 fun z H3 => ∃ k, z = .bl k ∧
  (if k = true then tc σ H3 fun u H4 => r' y u H4 fun z' H5 => ∃ k', z' = .bl k' ∧ (if k' = true then td σ H5 fun w' H6 => r'' u w' H6 fun z'' H7 => ∃ k'', z'' = .bl k'' ∧ Q k'' H7 else Q false H5) else Q false H3)
theorem pt_chain3 {op op' op'' : CmpOp} {r r' r'' : R2} (ho : OpR X (compareOp op) r) (ho' : OpR X (compareOp op') r') (ho'' : OpR X (compareOp op'') r'') (ha : PE X a ta) (hb : PE X b tb) (hc : PE X c tc) (hd : PE X d td)
    (hm : lastMarks [op, op', op''] [b, c, d] = false := by with_unfolding_all rfl) : PT X (.Compare a [op, op', op''] [b, c, d] pos) (tChain3 r r' r'' ta tb tc td) := by
  refine ⟨fun pins s σ H Q I h => ?_⟩
  refine isTrue_chain (thn (ha.run pins s σ H _ I h) fun v s1 ⟨x, H1, I1, r1, q1⟩ => test_link (thn (hb.run pins s1 σ H1 _ I1 q1) fun u s2 ⟨y, H2, I2, r2, q2⟩ =>
    thn (ho pins s2 σ H2 x y v u _ I2 r1 r2 q2) fun e s3 ⟨z, H3, I3, r3, k, ez, q3⟩ => ?_)) hm
  subst ez
  cases r3
  refine wpAny_truthy_bool ?_
  cases k with
  | false => exact ite_ff ⟨H3, I3, q3⟩
  | true =>
    refine ite_tt (test_link (thn (hc.run pins s3 σ H3 _ I3 q3) fun u2 s4 ⟨y2, H4, I4, r4, q4⟩ => thn (ho' pins s4 σ H4 y y2 u u2 _ I4 r2 r4 q4) fun e2 s5 ⟨z2, H5, I5, r5, k2, ez2, q5⟩ => ?_))
    subst ez2
    cases r5
    refine wpAny_truthy_bool ?_
    cases k2 with
    | false => exact ite_ff ⟨H5, I5, q5⟩
    | true =>
      refine ite_tt (test_last (thn (hd.run pins s5 σ H5 _ I5 q5) fun u3 s6 ⟨y3, H6, I6, r6, q6⟩ => thn (ho'' pins s6 σ H6 y2 y3 u2 u3 _ I6 r4 r6 q6) fun e3 s7 ⟨z3, H7, I7, r7, k3, ez3, q7⟩ => ?_))
      subst ez3
      cases r7
      exact wpAny_truthy_bool ⟨H7, I7, q7⟩
end
end XT

set_option maxRecDepth 100000
set_option maxHeartbeats 4000000
namespace XT
open PySem PySem.Spec PyProof.Rows L2
/-- a small number -/
def Sm (i : Int) : Prop := -100000 ≤ i ∧ i ≤ 100000
theorem Sm.log {i : Int} (h : Sm i) : i.natAbs.log2 < 1920 := by
  have h1 : i.natAbs ≤ 100000 := by
    obtain ⟨a, b⟩ := h
    omega
  have h3 : i.natAbs < 2 ^ 20 := by omega
  by_cases h0 : i.natAbs = 0
  · rw [h0]
    decide
  · have := (Nat.log2_lt h0).mpr h3
    omega
theorem Sm.text {i : Int} (h : Sm i) : (Str.ofString (toString i)).length ≤ 1000 := by
  have h1 : i.natAbs < 10 ^ 7 := by
    obtain ⟨a, b⟩ := h
    omega
  have e := int_text_length_le10 (k := 7) (by decide) h1
  rw [PySem.ofString_length]
  omega
section
variable {X : Cx}
/-- a part of a message: written signs, or a small number's name -/
inductive MP (X : Cx) : Expr → TE → (L2.St → Prop) → Prop where
  | lit {x : Str} {j : Nat} {pos : Pos} (h : x.length ≤ 1000) : MP X (.Constant (.str x) j pos) (tC (.str x)) (fun _ => True)
  | var {e : Expr} {i : Nat} {pos : Pos} (h : PE X e (tVar i)) : MP X (.FormattedValue e (-1) none pos) (tFmt (tVar i)) (fun σ => ∃ z, σ[i]? = some (some (.int z)) ∧ Sm z)
  | txt {e : Expr} {i : Nat} {pos : Pos} (h : PE X e (tVar i)) : MP X (.FormattedValue e (-1) none pos) (tFmt (tVar i)) (fun σ => ∃ z, σ[i]? = some (some (.str z)) ∧ z.length ≤ 1000)
inductive MPs (X : Cx) : List Expr → List TE → (L2.St → Prop) → Prop where
  | nil : MPs X [] [] (fun _ => True)
  | cons {e : Expr} {t : TE} {c : L2.St → Prop} {es : List Expr} {ts : List TE} {cs : L2.St → Prop} (h : MP X e t c) (r : MPs X es ts cs) : MPs X (e :: es) (t :: ts) (fun σ => c σ ∧ cs σ)
theorem str_app_len (x y : Str) : (x ++ y).length = x.length + y.length := by
  first
    | rfl
    | exact Array.size_append
    | simp [Str.length]
theorem MP.pe {e : Expr} {t : TE} {c : L2.St → Prop} (h : MP X e t c) : PE X e t := by
  cases h with
  | lit h => exact pe_str
  | var h => exact pe_fmt h
  | txt h => exact pe_fmt h
theorem MPs.pj {es : List Expr} {ts : List TE} {cs : L2.St → Prop} (h : MPs X es ts cs) : PJ X es ts := by
  induction h with
  | nil => exact .nil
  | cons h r ih => exact .cons h.pe ih
theorem MP.go {e : Expr} {t : TE} {c : L2.St → Prop} (h : MP X e t c) {σ : L2.St} {H : Hp} {Q : V → Hp → Prop} (hc : c σ) (hQ : ∀ y : Str, y.length ≤ 1000 → Q (.str y) H) : t σ H Q := by
  cases h with
  | lit h => exact hQ _ h
  | var h =>
    obtain ⟨z, e, s⟩ := hc
    exact ⟨_, e, .inr ⟨z, rfl, s.log, hQ _ s.text⟩⟩
  | txt h =>
    obtain ⟨z, e, s⟩ := hc
    refine ⟨_, e, .inl ⟨z, rfl, ?_, hQ _ s⟩⟩
    rw [sizeLine_eq]
    omega
theorem MPs.go {es : List Expr} {ts : List TE} {cs : L2.St → Prop} (h : MPs X es ts cs) {σ : L2.St} {H : Hp} {Q : Str → Hp → Prop} : ∀ (acc : Str) (n : Nat), acc.length ≤ 1000 * n → n + es.length ≤ 100 → cs σ → (∀ out, Q out H) → tJs ts acc σ H Q := by
  induction h with
  | nil => intro acc n _ _ _ hQ; exact hQ acc
  | @cons e t c es ts cs h r ih =>
    intro acc n h1 h2 hc hQ
    obtain ⟨c1, c2⟩ := hc
    rw [List.length_cons] at h2
    refine h.go c1 fun y hy => ⟨y, rfl, ?_, ih _ (n + 1) ?_ (by omega) c2 hQ⟩
    · rw [str_app_len, sizeLine_eq]
      omega
    · rw [str_app_len]
      omega
/-- a message: its signs don't matter -/
theorem pe_msg {v1 v2 : Expr} {rest : List Expr} {ts : List TE} {cs : L2.St → Prop} {pos : Pos} (h : MPs X (v1 :: v2 :: rest) ts cs) (hl : (v1 :: v2 :: rest).length ≤ 100 := by decide) : PE X (.JoinedStr (v1 :: v2 :: rest) pos) (fun σ H Q => cs σ ∧ ∀ out : Str, Q (.str out) H) := by
  refine ⟨fun pins s σ H Q I q => ?_⟩
  obtain ⟨q1, q2⟩ := q
  exact (pe_joined h.pj).run pins s σ H Q I (h.go Str.empty 0 (Nat.zero_le _) (by omega) q1 fun out => q2 out)
end
end XT

set_option maxRecDepth 100000
set_option maxHeartbeats 4000000
namespace XT
open PySem PySem.Spec PyProof.Rows L2
open GX (LTurn QTurn STurn)
/-! ### turns that leave the heap as it is -/
theorem fm_succ {α : Type} (f : Nat → Option α) (i : Nat) : (List.range (i + 1)).filterMap f = (List.range i).filterMap f ++ (f i).toList := by
  rw [List.range_succ, List.filterMap_append]
  cases h : f i with
  | none => simp [h]
  | some y => simp [h]
theorem fm_len {α : Type} (f : Nat → Option α) (i : Nat) : ((List.range i).filterMap f).length ≤ i := by
  have := List.length_filterMap_le f (List.range i)
  rw [List.length_range] at this
  exact this
theorem lturn_pure {J : It} {gt : TG} {tt : TT} {te : TE} {σ0 : L2.St} {vs : List Nat} {cont : List V → Hp → Prop} {H2 : Hp} (n : Nat) (f : Nat → Option V) (hn : n ≤ sizeLine) (hgo : ∀ i, i < n → J.go i H2) (hstop : J.stop n H2)
    (hstep : ∀ i, i < n → ∀ x H', J.yld i H2 x H' → ∀ (ys : List V) (Nx : List V → Hp → Prop), ys.length < sizeLine → Nx (ys ++ (f i).toList) H2 →
      gt x (wipe σ0 vs) H' fun σ2 H3 => wipe σ2 vs = wipe σ0 vs ∧ tt σ2 H3 fun b H4 => if b = true then te σ2 H4 fun y H5 => ys.length < sizeLine ∧ Nx (ys ++ [y]) H5 else Nx ys H4)
    (hcont : cont ((List.range n).filterMap f) H2) : ∃ W : Nat → Nat → List V → Hp → Prop, (∃ m, W 0 m [] H2) ∧ LTurn J gt tt te σ0 vs cont W := by
  refine ⟨fun i m ys H => i + m = n ∧ H = H2 ∧ ys = (List.range i).filterMap f, ⟨n, Nat.zero_add n, rfl, rfl⟩, fun i m ys H hw => ?_⟩
  obtain ⟨e, rfl, rfl⟩ := hw
  by_cases hi : i < n
  · refine .inr ⟨hgo i hi, fun ys' H' => H' = H ∧ ys' = (List.range (i + 1)).filterMap f, fun ys' H' z => ⟨m - 1, by omega, by omega, z.1, z.2⟩, fun x H' hy => ?_⟩
    have hl : ((List.range i).filterMap f).length < sizeLine := Nat.lt_of_lt_of_le (Nat.lt_of_le_of_lt (fm_len f i) hi) hn
    exact hstep i hi x H' hy _ (fun ys' H' => H' = H ∧ ys' = (List.range (i + 1)).filterMap f) hl (by exact ⟨rfl, (fm_succ f i).symm⟩)
  · have ei : i = n := by omega
    subst ei
    exact .inl ⟨hstop, hcont⟩
theorem qturn_pure {t : Bool} {J : It} {gt : TG} {tt : TT} {te : TE} {σ0 : L2.St} {vs : List Nat} {Q : VK} {H2 : Hp} (n : Nat) (f : Nat → Bool) (hgo : ∀ i, i < n → J.go i H2) (hstop : J.stop n H2)
    (hstep : ∀ i, i < n → ∀ x H', J.yld i H2 x H' → ∀ Nx : Hp → Prop, (f i = t → Nx H2) → (f i ≠ t → Q (.bl (!t)) H2) →
      gt x (wipe σ0 vs) H' fun σ2 H3 => wipe σ2 vs = wipe σ0 vs ∧ tt σ2 H3 fun b H4 => if b = true then te σ2 H4 fun y H5 => ∃ k, y = .bl k ∧ (if k = t then Nx H5 else Q (.bl (!t)) H5) else Nx H4)
    (h1 : (∀ i, i < n → f i = t) → Q (.bl t) H2) (h2 : (∃ i, i < n ∧ f i ≠ t) → Q (.bl (!t)) H2) : ∃ W : Nat → Nat → Hp → Prop, (∃ m, W 0 m H2) ∧ QTurn t J gt tt te σ0 vs Q W := by
  refine ⟨fun i m H => i + m = n ∧ H = H2 ∧ ∀ j, j < i → f j = t, ⟨n, Nat.zero_add n, rfl, fun j hj => absurd hj (Nat.not_lt_zero j)⟩, fun i m H hw => ?_⟩
  obtain ⟨e, rfl, hf⟩ := hw
  by_cases hi : i < n
  · refine .inr ⟨hgo i hi, fun H' => H' = H ∧ f i = t, fun H' z => ⟨m - 1, by omega, by omega, z.1, fun j hj => ?_⟩, fun x H' hy => ?_⟩
    · by_cases hj2 : j < i
      · exact hf j hj2
      · have ej : j = i := by omega
        rw [ej]
        exact z.2
    · exact hstep i hi x H' hy (fun H' => H' = H ∧ f i = t) (fun z => by exact ⟨rfl, z⟩) fun z => h2 ⟨i, hi, z⟩
  · have ei : i = n := by omega
    subst ei
    exact .inl ⟨hstop, h1 hf⟩
def sumN (f : Nat → Int) : Nat → Int
  | 0 => 0
  | n + 1 => sumN f n + f n
theorem sturn_pure {J : It} {gt : TG} {tt : TT} {te : TE} {σ0 : L2.St} {vs : List Nat} {Q : VK} {H2 : Hp} (n : Nat) (f : Nat → Int) (hb : ∀ i, i < n → InLong (f i) ∧ InLong (sumN f i + f i)) (hgo : ∀ i, i < n → J.go i H2) (hstop : J.stop n H2)
    (hstep : ∀ i, i < n → ∀ x H', J.yld i H2 x H' → ∀ (t : Int) (Nx : Int → Hp → Prop), InLong (f i) → InLong (t + f i) → Nx (t + f i) H2 →
      gt x (wipe σ0 vs) H' fun σ2 H3 => wipe σ2 vs = wipe σ0 vs ∧ tt σ2 H3 fun b H4 => if b = true then te σ2 H4 fun y H5 => ∃ j, y = .int j ∧ InLong j ∧ InLong (t + j) ∧ Nx (t + j) H5 else Nx t H4)
    (hQ : Q (.int (sumN f n)) H2) : ∃ W : Nat → Nat → Int → Hp → Prop, (∃ m, W 0 m 0 H2) ∧ STurn J gt tt te σ0 vs Q W := by
  refine ⟨fun i m t H => i + m = n ∧ H = H2 ∧ t = sumN f i, ⟨n, Nat.zero_add n, rfl, rfl⟩, fun i m t H hw => ?_⟩
  obtain ⟨e, rfl, rfl⟩ := hw
  by_cases hi : i < n
  · refine .inr ⟨hgo i hi, fun t' H' => H' = H ∧ t' = sumN f (i + 1), fun t' H' z => ⟨m - 1, by omega, by omega, z.1, z.2⟩, fun x H' hy => ?_⟩
    exact hstep i hi x H' hy _ (fun t' H' => H' = H ∧ t' = sumN f (i + 1)) (hb i hi).1 (hb i hi).2 (by exact ⟨rfl, rfl⟩)
  · have ei : i = n := by omega
    subst ei
    exact .inl ⟨hstop, hQ⟩
/-- a comprehension whose turns leave the heap as it is but for the list -/
theorem lc_pure {J : It} {g : TG} {tt : TT} {te : TE} {vs : List Nat} {σ : L2.St} {H1 : Hp} {D : Addr} {Qd : Hp → Prop} (n : Nat) (f : Nat → Option V) (hn : n ≤ sizeLine) (hgo : ∀ i acc, i < n → J.go i (upd H1 D (.lst acc))) (hstop : ∀ acc, J.stop n (upd H1 D (.lst acc)))
    (hstep : ∀ i acc, i < n → ∀ x H', J.yld i (upd H1 D (.lst acc)) x H' → ∀ Nx : Hp → Prop, acc.length < sizeLine → Nx (upd H1 D (.lst (acc ++ (f i).toList))) →
      g x (wipe σ vs) H' fun σ2 H2 => wipe σ2 vs = wipe σ vs ∧ tt σ2 H2 fun b H3 => if b = true then te σ2 H3 fun y H4 => ∃ acc, H4 D = some (.lst acc) ∧ acc.length < sizeLine ∧ Nx (upd H4 D (.lst (acc ++ [y]))) else Nx H3)
    (hQ : Qd (upd H1 D (.lst ((List.range n).filterMap f)))) :
    ∃ W : Nat → Nat → Hp → Prop, (∃ m, W 0 m (upd H1 D (.lst []))) ∧ ∀ i m H, W i m H → (J.stop i H ∧ Qd H) ∨ (J.go i H ∧ ∃ Nx : Hp → Prop, (∀ H', Nx H' → ∃ m', m' < m ∧ W (i + 1) m' H') ∧ ∀ x H', J.yld i H x H' → g x (wipe σ vs) H' fun σ2 H2 => wipe σ2 vs = wipe σ vs ∧ tt σ2 H2 fun b H3 =>
      if b = true then te σ2 H3 fun y H4 => ∃ acc, H4 D = some (.lst acc) ∧ acc.length < sizeLine ∧ Nx (upd H4 D (.lst (acc ++ [y]))) else Nx H3) := by
  refine ⟨fun i m H => i + m = n ∧ H = upd H1 D (.lst ((List.range i).filterMap f)), ⟨n, Nat.zero_add n, rfl⟩, fun i m H hw => ?_⟩
  obtain ⟨e, rfl⟩ := hw
  by_cases hi : i < n
  · have hl : ((List.range i).filterMap f).length < sizeLine := Nat.lt_of_lt_of_le (Nat.lt_of_le_of_lt (fm_len f i) hi) hn
    refine .inr ⟨hgo i _ hi, fun H' => H' = upd H1 D (.lst ((List.range (i + 1)).filterMap f)), fun H' z => ⟨m - 1, by omega, by omega, z⟩, fun x H' hy => ?_⟩
    exact hstep i _ hi x H' hy (fun H' => H' = upd H1 D (.lst ((List.range (i + 1)).filterMap f))) hl (by rw [fm_succ])
  · have ei : i = n := by omega
    subst ei
    exact .inl ⟨hstop _, hQ⟩
/-- the walks over ranges, texts, tuples, lists that stand still -/
theorem fm_all {α β : Type} (xs : List α) (f : α → Option β) : (List.range xs.length).filterMap (fun (i : Nat) => (xs[i]?).bind f) = xs.filterMap f := by
  induction xs with
  | nil => rfl
  | cons x r ih =>
    rw [List.length_cons, List.range_succ_eq_map, List.filterMap_cons, List.filterMap_map, List.filterMap_cons]
    have e : ((fun i => ((x :: r)[i]?).bind f) ∘ Nat.succ) = fun (i : Nat) => (r[i]?).bind f := by
      funext i
      simp
    rw [e, ih]
    simp
theorem fm_map {α β : Type} (xs : List α) (f : α → β) : (List.range xs.length).filterMap (fun (i : Nat) => (xs[i]?).map f) = xs.map f := by
  have h := fm_all xs (fun x => some (f x))
  have e : (fun (i : Nat) => (xs[i]?).bind fun x => some (f x)) = fun (i : Nat) => (xs[i]?).map f := by
    funext i
    cases xs[i]? <;> rfl
  rw [e] at h
  rw [h]
  simp
theorem fm_some {β : Type} (n : Nat) (f : Nat → β) : (List.range n).filterMap (fun i => some (f i)) = (List.range n).map f := by simp
end XT

set_option maxRecDepth 100000
set_option maxHeartbeats 4000000
namespace LX
open PySem PySem.Spec PyProof.Rows L2
open LamX (CodeO TabS Tabs ExtN inv_table codeO_ne among_app LamS GivesTo lamCx lamEnv)
section
variable {X : Cx} {pins : List (Addr × Obj)} {σ : L2.St} {H : Hp} {s : Shared}
theorem lam_raw {T : List (Addr × Str)} {c P : Addr} {params : Arguments} {body : Expr} {scope : Scope} {pos : Pos} {E : Value → Shared → Prop} {Q : Value → Shared → Prop} (I : Inv X pins σ H s) (TB : LamX.TabB X.base X.mg c P) (hcode : X.env.code = .ref c)
    (hm : (P, X.env.qual ++ "<lambda>") ∈ T) (hu : ∀ p ∈ T, p.1 = P → p.2 = X.env.qual ++ "<lambda>") (hT : Tabs T H) (hdef : defaultsOf params X.env = ([], [])) (hfree : ∀ y ∈ scope.names, y.2 = .free → ∃ c, X.env.cells.lookup y.1 = some c)
    (h : ∀ (f c' : Addr) (pm ctv : Value) (H1 : Hp) (s' : Shared), Inv X pins σ H1 s' → ExtN H H1 → Tabs T H1 → s'.heap.get? f = some (PySem.W.kla_obj "<lambda>" (X.env.qual ++ "<lambda>") params body scope (cloFrom X.env.cells scope.names []) pm c' ctv) → H1 f = none → f ∉ frs X.stack → H1 c' = some (CodeO c' (X.env.qual ++ "<lambda>")) →
      (∀ b o, b ≠ P → H b = some o → H1 b = some o) → Q (.ref f) s') :
    wpAny (model X.prog X.w) X.A (eval (.Lambda params body scope pos) X.env) Q E s := by
  have nofr : ∀ f, s.heap.objs.size ≤ f → f ∉ frs X.stack := fun f hf z => (List.mem_cons.mp (I.stkSub _ z)).elim (fun e => by
    have q := I.lt
    rw [← e] at q
    exact absurd (Nat.lt_of_lt_of_le q hf) (Nat.lt_irrefl _)) fun e => I.nofs hf e
  obtain ⟨ps, hP, ht, ha⟩ := hT _ hm
  refine PySem.W.kla_eval hdef ?_
  have bP : s.heap.BuiltinsAt X.mg P := TB.bm.keeps I.bk
  have hP' : s.heap.get? P = some { cls := .none, data := .fields ps } := I.hok P _ hP
  have back : ∀ {H : Hp} {a b : Addr} {o : HO}, upd H a o b = none → H b = none := fun {H a b o} e => by
    unfold upd at e
    split at e
    · cases e
    · exact e
  cases hc : codeAmong pos ps.toList with
  | none =>
    refine PySem.W.kla_makeFunction (mg := X.mg) (c := c) (P := P) (ps := ps) (closure_ok hfree) I.ok.glob (I.mod.glob.keeps I.bk) hcode (TB.code.keeps I.bk) hP' ht hc TB.gP bP fun c' ctv h' tk hx hge hlt hrec htb => ?_
    obtain ⟨c2, oc, vs, t, e2, hoc, hd, hv⟩ := hrec
    cases e2
    have nC : H c' = none := I.hok.fresh hge
    have I1 := inv_table (t' := tk) (more := #[rawInt pos.line, rawInt pos.col, .ref c']) (h' := h') I hP (fun b o hb e => hx b o hb e) htb hge ⟨oc, vs, t, hoc, hd, hv⟩
    have eL : (ps ++ #[rawInt pos.line, rawInt pos.col, .ref c']).toList = ps.toList ++ [rawInt pos.line, rawInt pos.col, .ref c'] := by simp
    have hE : ExtN H (upd (upd H P (.tbl (ps ++ #[rawInt pos.line, rawInt pos.col, .ref c']))) c' (CodeO c' (X.env.qual ++ "<lambda>"))) := fun b o e n => by
      rw [upd_ne (ne_of_none e nC), upd_ne (fun z => n ps (Option.some.inj (e.symm.trans (by rw [z]; exact hP))))]
      exact e
    have T1 : Tabs T (upd (upd H P (.tbl (ps ++ #[rawInt pos.line, rawInt pos.col, .ref c']))) c' (CodeO c' (X.env.qual ++ "<lambda>"))) := fun p hp => by
      by_cases hb : p.1 = P
      · rw [hu p hp hb, hb]
        refine ⟨_, by rw [upd_ne (ne_of_none hP nC), upd_same], by rw [eL]; exact PySem.TriplesOk_snoc _ _ _ _ ht, fun p' cv hcv => ?_⟩
        rw [eL] at hcv
        rcases among_app _ ht hcv with z | z
        · obtain ⟨c0, e1, e2⟩ := ha p' cv z
          exact ⟨c0, e1, hE _ _ e2 codeO_ne⟩
        · exact ⟨c', z, upd_same⟩
      · obtain ⟨ps', a1, a2, a3⟩ := hT p hp
        refine ⟨ps', by rw [upd_ne (ne_of_none a1 nC), upd_ne hb]; exact a1, a2, fun p' cv hcv => ?_⟩
        obtain ⟨c0, e1, e2⟩ := a3 p' cv hcv
        exact ⟨c0, e1, hE _ _ e2 codeO_ne⟩
    have nF := I1.hok.fresh (Nat.le_refl _)
    refine h h'.objs.size c' ((X.mg "__name__").getD .none) ctv _ _ (I1.kept (t' := tk) fun b o e => Heap.get?_push_of_some _ e) hE T1 (Heap.get?_push_size _ rfl) nF (nofr _ (Nat.le_trans hge (Nat.le_of_lt hlt))) upd_same fun b o nb e => ?_
    rw [upd_ne (ne_of_none e nC), upd_ne nb]
    exact e
  | some cv =>
    obtain ⟨c', e, hco⟩ := ha pos cv hc
    subst e
    refine PySem.W.kla_makeFunctionHit (mg := X.mg) (c := c) (P := P) (ps := ps) (closure_ok hfree) I.ok.glob (I.mod.glob.keeps I.bk) hcode (TB.code.keeps I.bk) hP' ht hc bP fun ctv h' tk hx hsz => ?_
    have I1 : Inv X pins σ H { s with heap := h', toks := tk } := I.kept hx
    have nF : H h'.objs.size = none := I1.hok.fresh (Nat.le_refl _)
    exact h h'.objs.size c' ((X.mg "__name__").getD .none) ctv _ _ (I1.kept (t' := tk) fun b o e => Heap.get?_push_of_some _ e) (ExtN.refl H) hT (Heap.get?_push_size _ rfl) nF (nofr _ hsz) hco fun b o _ e => e

end
/-- x(lambda: ..): what the lambda is worth is told of the heap behind its making -/
def tLam3 (T : List (Addr × Str)) (P : Addr) (TT : (XK → Hp → VK → Prop) → Hp → VK → Prop) (t : XK → TE) : TE := fun σ H Q => Tabs T H ∧ ∀ H1, ExtN H H1 → Tabs T H1 → (∀ b o, b ≠ P → H b = some o → H1 b = some o) → TT (fun E H' Q' => t E σ H' Q') H1 Q
section
variable {X : Cx}
theorem pe_lamcall3 {T : List (Addr × Str)} {TT : (XK → Hp → VK → Prop) → Hp → VK → Prop} {x a : Str} {g c P : Addr} {k : Nat} {st : Stmt} {fd : FuncData} {Ng : List Str} {params : Arguments} {body : Expr} {scope : Scope} {t : XK → TE} {p lpos pos : Pos} (hg : Gl X x) (hm : X.mg x = some (.ref g)) (F : Fun X.K x x st g fd) (bd : L2.Binds X.K fd [a] []) (Sg : FnScope Ng [a] (defScope st)) (at0 : Ng[0]? = some a) (vis : Vis (defScope st) a)
    (gives : ∀ cdv, GivesTo X Ng x (defScope st) g cdv (defBody st) a (X.env.qual ++ "<lambda>") TT) (TB : LamX.TabB X.base X.mg c P) (isC : X.env.code = .ref c) (inT : (P, X.env.qual ++ "<lambda>") ∈ T) (only : ∀ p ∈ T, p.1 = P → p.2 = X.env.qual ++ "<lambda>") (room : Room (k + 2) X.A) (L : LamS X.env.scope scope) (nodef : defaultsOf params X.env = ([], []))
    (binds : ∀ (q : Str) (cl : List (Str × Addr)) (pm cv ctv : Value), bindArgs (PySem.W.kla_fn "<lambda>" q params body scope cl pm cv ctv) ⟨[], []⟩ = pure [])
    (worth : ∀ (A : Around) (outer : List Env) (s : Shared) (H : Hp) (E : XK) (f c' : Addr), Room k (A.deeper (lamEnv X scope s.heap.objs.size f c')) → PE (lamCx X A outer s H E scope f c') body (t E))
    (nb : (x == ("__debug__" : Str)) = false := by decide) (nb2 : (a == ("__debug__" : Str)) = false := by decide) (nb3 : (a == ("__classdict__" : Str)) = false := by decide) : PE X (.Call (.Name x p) [.Lambda params body scope lpos] [] pos) (tLam3 T P TT t) := by
  obtain ⟨oc, od, kV, doc, pm, an, cdv, ct, osl, rfl, lk, hcd⟩ := F.ex
  refine ⟨fun pins s σ H Q I h => ?_⟩
  obtain ⟨tabs, told⟩ := h
  refine wpAny_Call_Name_kw (ld_glob I hg hm (PySem.W.callWith_K (h₀ := X.base) I.ok.mod.kin F.kp ?_ (by rfl) (by rfl)) nb)
  show wpAny _ _ (spliced ((false, eval (.Lambda params body scope lpos) X.env) :: backTo pos (starEach [] X.env))) _ _ s
  refine Calls.spliced_cons (lam_raw I TB isC inT only tabs nodef (L.has I.ok) fun l c' pm' ctv G u J eN tabs1 hl ln lfr lco kp => Calls.spliced_nil ⟨J.kIn, ?_⟩)
  have run : codeAny (model X.prog X.w) X.A (.call (.ref g) ⟨[.ref l], []⟩) (CR C8.CX0 X.stack X.prog X.w G u Q C8.E0) u := by
    refine LamX.run_ofS (N := Ng) (ps := [a]) (us := [.ref l]) (vs := [.ref l]) lk hcd Sg room J.env0 (bd u [.ref l] J.kIn rfl) (.cons rfl .nil) rfl fun room' => ?_
    obtain ⟨t', ht', hq'⟩ := gives cdv l c' u G Q (fun E G' Q' => t E σ G' Q') (fun W pn xe E p1 p2 tk hW => LamX.pe_act (i := 0) J L hl ln lfr (binds _ _ _ _ _) tk hW room' (fun A outer s H r2 => worth A outer s H E l c' r2) at0 vis nb2 nb3) lco (told G eN tabs1 kp)
    exact ⟨t', ht'.nox, hq'⟩
  refine wpAny_call (codeAny_mono run fun r u2 hq => ?_)
  rcases r with e | fl
  · exact (show False from hq).elim
  cases fl with
  | ret u => exact J.after hq
  | _ => exact False.elim hq
end
end LX

set_option maxRecDepth 100000
set_option maxHeartbeats 4000000
/-! laying keys in a bare table of a set never fails -/
namespace SD
open PySem PySem.Spec PyProof.Rows L2
def nxt (m : Nat) (x : Nat × Nat) : Nat × Nat := ((x.1 * 5 + 1 + x.2 / 32) % (m + 1), x.2 / 32)
def pos (m : Nat) (x : Nat × Nat) : Nat → Nat × Nat
  | 0 => x
  | k + 1 => pos m (nxt m x) k
theorem free_none (owner : Array (Option Nat)) (m : Nat) : ∀ (fuel i p : Nat), SetTable.layClean.free m owner fuel i p = none → ∀ k < fuel, (owner.getD (pos m (i, p) k).1 (some 0)).isNone = false
  | 0, _, _, _, k, h => absurd h (Nat.not_lt_zero k)
  | fuel + 1, i, p, e, k, hk => by
    unfold SetTable.layClean.free at e
    split at e
    · cases e
    · rename_i hf
      have e : SetTable.layClean.free m owner fuel ((i * 5 + 1 + p / 32) % (m + 1)) (p / 32) = none := e
      cases k with
      | zero =>
        have h0 := List.find?_eq_none.mp hf 0 (List.mem_range.mpr (by unfold SetTable.runEnd; split <;> omega))
        show (owner.getD i (some 0)).isNone = false
        simp only [Nat.add_zero, Bool.not_eq_true] at h0
        exact h0
      | succ k => exact free_none owner m fuel _ _ e k (by omega)
theorem free_some (owner : Array (Option Nat)) (m : Nat) : ∀ (fuel i p r : Nat), SetTable.layClean.free m owner fuel i p = some r → (owner.getD r (some 0)).isNone = true
  | 0, _, _, _, e => by unfold SetTable.layClean.free at e; cases e
  | fuel + 1, i, p, r, e => by
    unfold SetTable.layClean.free at e
    split at e
    · rename_i k hf
      cases e
      have := List.find?_some hf
      exact this
    · have e : SetTable.layClean.free m owner fuel ((i * 5 + 1 + p / 32) % (m + 1)) (p / 32) = some r := e
      exact free_some owner m fuel _ _ r e
theorem pos_succ (m : Nat) : ∀ (k : Nat) (x : Nat × Nat), pos m x (k + 1) = nxt m (pos m x k)
  | 0, x => rfl
  | k + 1, x => pos_succ m k (nxt m x)
theorem pos_add (m : Nat) : ∀ (a b : Nat) (x : Nat × Nat), pos m x (a + b) = pos m (pos m x a) b
  | 0, b, x => by rw [Nat.zero_add]; rfl
  | a + 1, b, x => by rw [Nat.add_right_comm]; exact pos_add m a b (nxt m x)
theorem pos_snd (m : Nat) : ∀ (k : Nat) (x : Nat × Nat), (pos m x k).2 = x.2 / 32 ^ k
  | 0, x => by simp [pos]
  | k + 1, x => by
    rw [pos_succ]
    show (pos m x k).2 / 32 = _
    rw [pos_snd m k x, Nat.div_div_eq_div_mul, Nat.pow_succ]
theorem pos_fst (m : Nat) (k : Nat) (x : Nat × Nat) : (pos m x (k + 1)).1 ≤ m := by
  rw [pos_succ]
  exact Nat.le_of_lt_succ (Nat.mod_lt _ (Nat.succ_pos m))
/-- with no perturb left every slot is met -/
def Full (m : Nat) : Prop := ∀ i, i < m + 1 → ∀ j, j < m + 1 → ∃ k, k < m + 1 ∧ (pos m (i, 0) k).1 = j
theorem full7 : Full 7 := by unfold Full; decide +kernel
theorem full15 : Full 15 := by unfold Full; decide +kernel
theorem full31 : Full 31 := by unfold Full; decide +kernel
theorem free_is {m : Nat} (F : Full m) (owner : Array (Option Nat)) (h : Int) (j : Nat) (hj : j < m + 1) (e : owner.getD j (some 0) = none) :
    ∃ r, SetTable.layClean.free m owner (SetTable.turns m) (SetTable.bits h % (m + 1)) (SetTable.bits h) = some r ∧ owner.getD r (some 0) = none := by
  cases q : SetTable.layClean.free m owner (SetTable.turns m) (SetTable.bits h % (m + 1)) (SetTable.bits h) with
  | some r => exact ⟨r, rfl, by have := free_some _ _ _ _ _ _ q; simpa using this⟩
  | none =>
    exfalso
    have hb : SetTable.bits h < 2 ^ 64 := by
      unfold SetTable.bits
      have h1 := Int.emod_nonneg h (show (2 ^ 64 : Int) ≠ 0 by decide)
      have h2 := Int.emod_lt_of_pos h (show (0 : Int) < 2 ^ 64 by decide)
      omega
    have h13 : (pos m (SetTable.bits h % (m + 1), SetTable.bits h) 13).2 = 0 := by
      rw [pos_snd]
      exact Nat.div_eq_of_lt (Nat.lt_of_lt_of_le hb (by decide))
    have h14 : (pos m (SetTable.bits h % (m + 1), SetTable.bits h) 13).1 ≤ m := pos_fst m 12 (SetTable.bits h % (m + 1), SetTable.bits h)
    obtain ⟨k, hk, ek⟩ := F (pos m (SetTable.bits h % (m + 1), SetTable.bits h) 13).1 (by omega) j hj
    have h15 := free_none owner m _ _ _ q (13 + k) (by unfold SetTable.turns; omega)
    rw [pos_add] at h15
    have e2 : pos m (SetTable.bits h % (m + 1), SetTable.bits h) 13 = ((pos m (SetTable.bits h % (m + 1), SetTable.bits h) 13).1, 0) := by rw [← h13]
    rw [e2, ek, e] at h15
    cases h15
theorem fm_congr {f g : Nat → Option Nat} : ∀ l : List Nat, (∀ y ∈ l, g y = f y) → l.filterMap g = l.filterMap f
  | [], _ => rfl
  | x :: r, h => by
    have h1 := h x (List.mem_cons_self ..)
    have h2 := fm_congr (f := f) (g := g) r fun y hy => h y (List.mem_cons_of_mem _ hy)
    cases q : f x with
    | none => rw [List.filterMap_cons_none (h1.trans q), List.filterMap_cons_none q, h2]
    | some y => rw [List.filterMap_cons_some (h1.trans q), List.filterMap_cons_some q, h2]
theorem fm_set {f g : Nat → Option Nat} {j k : Nat} (hg : g j = some k) (hf : f j = none) (ho : ∀ x, x ≠ j → g x = f x) : ∀ l : List Nat, l.Nodup → j ∈ l → (l.filterMap g).Perm (k :: l.filterMap f)
  | [], _, h => by cases h
  | x :: r, nd, h => by
    obtain ⟨n1, n2⟩ := List.nodup_cons.mp nd
    by_cases e : x = j
    · subst e
      have er : r.filterMap g = r.filterMap f := fm_congr r fun y hy => ho y fun z => n1 (z ▸ hy)
      rw [List.filterMap_cons_some hg, List.filterMap_cons_none hf, er]
    · have ih := fm_set hg hf ho r n2 ((List.mem_cons.mp h).resolve_left fun z => e z.symm)
      have ex := ho x e
      cases q : f x with
      | none => rw [List.filterMap_cons_none (ex.trans q), List.filterMap_cons_none q]; exact ih
      | some y =>
        rw [List.filterMap_cons_some (ex.trans q), List.filterMap_cons_some q]
        exact (ih.cons y).trans (List.Perm.swap k y _)
theorem fm_full {f : Nat → Option Nat} : ∀ l : List Nat, (∀ x ∈ l, (f x).isSome) → (l.filterMap f).length = l.length
  | [], _ => rfl
  | x :: r, h => by
    obtain ⟨y, e⟩ := Option.isSome_iff_exists.mp (h x (List.mem_cons_self ..))
    rw [List.filterMap_cons_some e, List.length_cons, List.length_cons, fm_full r fun z hz => h z (List.mem_cons_of_mem _ hz)]
/-- k keys stand in the table -/
def Own (m k : Nat) (owner : Array (Option Nat)) : Prop := owner.size = m + 1 ∧ ((List.range (m + 1)).filterMap fun j => owner.getD j none).Perm (List.range k)
theorem own_step {m k r : Nat} {owner : Array (Option Nat)} (O : Own m k owner) (e : owner.getD r (some 0) = none) : Own m (k + 1) (owner.setIfInBounds r (some k)) := by
  obtain ⟨o1, o2⟩ := O
  have lr : r < owner.size := by
    rcases Nat.lt_or_ge r owner.size with h | h
    · exact h
    · rw [Array.getD_eq_getD_getElem?, Array.getElem?_eq_none h] at e
      cases e
  refine ⟨by rw [Array.size_setIfInBounds]; exact o1, ?_⟩
  have e0 : owner.getD r none = none := by
    rw [Array.getD_eq_getD_getElem?] at e ⊢
    rw [Array.getElem?_eq_getElem lr] at e ⊢
    exact e
  refine (fm_set (j := r) (k := k) (f := fun j => owner.getD j none) ?_ e0 (fun x hx => ?_) _ List.nodup_range (List.mem_range.mpr (by omega))).trans ?_
  · simp [Array.getD_eq_getD_getElem?, Array.getElem?_setIfInBounds, lr]
  · simp [Array.getD_eq_getD_getElem?, Array.getElem?_setIfInBounds, Ne.symm hx]
  · rw [show List.range (k + 1) = List.range k ++ [k] from List.range_succ]
    exact (o2.cons k).trans (List.perm_append_singleton k _).symm
theorem own_room {m k : Nat} {owner : Array (Option Nat)} (O : Own m k owner) (h : k < m + 1) : ∃ j, j < m + 1 ∧ owner.getD j (some 0) = none := by
  obtain ⟨o1, o2⟩ := O
  by_cases q : ∃ j, j < m + 1 ∧ owner.getD j (some 0) = none
  · exact q
  · exfalso
    have all : ∀ x ∈ List.range (m + 1), (owner.getD x none).isSome := fun x hx => by
      have hx := List.mem_range.mp hx
      cases e : owner.getD x none with
      | some y => rfl
      | none =>
        refine absurd ⟨x, hx, ?_⟩ q
        have lx : x < owner.size := by omega
        rw [Array.getD_eq_getD_getElem?] at e ⊢
        rw [Array.getElem?_eq_getElem lx] at e ⊢
        exact e
    have h1 := fm_full _ all
    have h2 := o2.length_eq
    rw [h1, List.length_range, List.length_range] at h2
    omega
theorem fold_is {m : Nat} (F : Full m) : ∀ (hs : List Int) (k : Nat) (owner : Array (Option Nat)), Own m k owner → k + hs.length ≤ m + 1 →
    ∃ o', hs.foldl (fun acc h => do
      let (owner, k) ← acc
      let j ← SetTable.layClean.free m owner (SetTable.turns m) (SetTable.bits h % (m + 1)) (SetTable.bits h)
      pure (owner.setIfInBounds j (some k), k + 1)) (some (owner, k)) = some (o', k + hs.length) ∧ Own m (k + hs.length) o'
  | [], k, owner, O, _ => ⟨owner, rfl, O⟩
  | h :: r, k, owner, O, hl => by
    rw [List.length_cons] at hl ⊢
    obtain ⟨j, hj, ej⟩ := own_room O (by omega)
    obtain ⟨p, hp, ep⟩ := free_is F owner h j hj ej
    obtain ⟨o', e1, e2⟩ := fold_is F r (k + 1) _ (own_step O ep) (by omega)
    refine ⟨o', ?_, ?_⟩
    · rw [List.foldl_cons]
      have eq : (do
        let (owner, k) ← some (owner, k)
        let j ← SetTable.layClean.free m owner (SetTable.turns m) (SetTable.bits h % (m + 1)) (SetTable.bits h)
        pure (owner.setIfInBounds j (some k), k + 1)) = some (owner.setIfInBounds p (some k), k + 1) := by
        show (SetTable.layClean.free m owner (SetTable.turns m) (SetTable.bits h % (m + 1)) (SetTable.bits h)).bind _ = _
        rw [hp]
        rfl
      rw [eq, e1]
      congr 2
      omega
    · rw [show k + (r.length + 1) = k + 1 + r.length by omega]
      exact e2
theorem own_zero (m : Nat) : Own m 0 (Array.replicate (m + 1) none) := by
  refine ⟨Array.size_replicate, ?_⟩
  have e : ((List.range (m + 1)).filterMap fun j => (Array.replicate (m + 1) (none : Option Nat)).getD j none) = [] := by
    rw [List.filterMap_eq_nil_iff]
    intro x hx
    have := List.mem_range.mp hx
    simp [Array.getD_eq_getD_getElem?, Array.getElem?_replicate, this]
  rw [e]
  exact List.Perm.refl _
theorem clean_is {m : Nat} (F : Full m) (hs : Array Int) (hl : hs.size ≤ m + 1) : ∃ o', SetTable.layClean m hs = some o' ∧ Own m hs.size o' := by
  obtain ⟨o', e, O⟩ := fold_is F hs.toList 0 _ (own_zero m) (by rw [Array.length_toList]; omega)
  refine ⟨o', ?_, by rw [Array.length_toList, Nat.zero_add] at O; exact O⟩
  unfold SetTable.layClean
  rw [← Array.foldl_toList, e]
  rfl
theorem laid_is {m : Nat} (F : Full m) (fi mv : Nat) (led plain : Bool) (hs : Array Int) (hl : hs.size ≤ m + 1) : ∃ t order, SetTable.laid m fi mv led plain hs = some (t, order) ∧ order.toList.Perm (List.range hs.size) ∧ t.mask = m ∧ t.place.size = hs.size ∧ t.dummies = #[] ∧ t.led = led ∧ t.plain = plain ∧ Ris t.place.toList := by
  obtain ⟨o', e, O⟩ := clean_is F hs hl
  have el : (((List.range (m + 1)).filterMap fun j => (o'.getD j none).map (j, ·)).map (·.2)) = (List.range (m + 1)).filterMap fun j => o'.getD j none := by
    rw [List.map_filterMap]
    congr 1
    funext j
    cases o'.getD j none <;> rfl
  refine ⟨_, _, by unfold SetTable.laid; rw [e]; rfl, ?_, rfl, ?_, rfl, rfl, rfl, ?_⟩
  · rw [el]
    exact O.2
  · have h1 := congrArg List.length el
    have h2 := O.2.length_eq
    rw [List.length_map] at h1
    rw [List.length_range] at h2
    simp only [List.size_toArray, List.length_map]
    omega
  · refine (ris_live (fun j => o'.getD j none) (List.range (m + 1)) ?_).1
    unfold Ris
    first | exact List.pairwise_lt_range | exact List.pairwise_lt_range _
end SD

set_option maxRecDepth 100000
set_option maxHeartbeats 4000000
/-! walking, copying and lessening sets of ints -/
namespace SD
open PySem PySem.Spec PyProof.Rows L2
section
variable {P : Program} {w : World} {A : Around} {E : Value → Shared → Prop} {s : Shared} {a : Addr} {o : Obj} {es : Array (Int × Value)} {ep : Nat} {t : SetTable}
theorem anySet {Q : Bool → Shared → Prop} (hT : s.TypeIs (.ref a) "set") (h : Q true s) : wpAny (model P w) A (Builtin.Frozenset.isAnySet (.ref a)) Q E s := by
  unfold Builtin.Frozenset.isAnySet orM
  refine wpAny_bind (wpAny_isInstance (b := true) hT sub_set_self ?_)
  exact wpAny_pure h
theorem setWalk_at {Q : Array (Int × Value) → Shared → Prop} (ho : s.heap.get? a = some o) (hd : o.data = .set es ep t) (hf : t.fits es.size = true) (hl : w.params.followText "set-order" = true ∨ t.led = true ∨ es.size ≤ 1) (hp : w.params.followText "set-order" = true ∨ t.plain = true ∨ es.size ≤ 1)
    (hQ : ∀ xs : Array (Int × Value), xs.toList.Perm es.toList → Q xs s) : wpAny (model P w) A (setWalk a) Q E s := by
  unfold setWalk
  refine wpAny_bind (wpAny_setState_of ho hd hf ?_)
  dsimp only
  refine wpAny_bind (wpAny_byText ?_)
  cases hb : w.params.followText "set-order" with
  | true =>
    refine wp_if_pos rfl ?_
    refine wpAny_bind (wpAny_askSetting ?_)
    exact wpAny_pure (hQ _ (pick_perm _ _))
  | false =>
    refine wp_if_neg (by simp) ?_
    rw [hb] at hl hp
    have hd1 : (!t.plain && decide (es.size > 1)) = false := by
      rcases hp with z | z | z
      · cases z
      · rw [z]; rfl
      · simp [Nat.not_lt.mpr z]
    refine wp_if_neg (show ¬ ((!t.plain && decide (es.size > 1)) = true) by rw [hd1]; simp) ?_
    show wpAny (model P w) A ((if (!t.led && decide (es.size > 1)) = true then unsupported "set:maker-not-led" else pure PUnit.unit) >>= fun _ => pure es) Q E s
    have hd2 : (!t.led && decide (es.size > 1)) = false := by
      rcases hl with z | z | z
      · cases z
      · rw [z]; rfl
      · simp [Nat.not_lt.mpr z]
    refine wpAny_bind ?_
    rw [hd2]
    refine wp_if_neg (by simp) ?_
    exact wpAny_pure (wpAny_pure (hQ es (List.Perm.refl _)))
theorem setsQuiet_at {Q : Bool → Shared → Prop} (h : Q true s) (l : List Addr) (hl : ∀ b ∈ l, ∃ o es ep t, s.heap.get? b = some o ∧ o.data = .set es ep t ∧ t.fits es.size = true ∧ ∀ e ∈ es.toList, GoodE e) : wpAny (model P w) A (setsQuiet l) Q E s := by
  unfold setsQuiet
  refine wpAny_bind (wpAny_forIn_list _ (fun rest b s' => b.1 = none ∧ s' = s ∧ ∀ x ∈ rest, x ∈ l) _ (fun x rest b s1 hI => ?_) (fun b s1 hI => ?_) l _ ⟨rfl, rfl, fun _ h => h⟩)
  · obtain ⟨hb, hs, hr⟩ := hI
    subst hs
    obtain ⟨o, es, ep, t, ho, hd, hf, hg⟩ := hl x (hr x (List.mem_cons_self ..))
    refine wpAny_bind (wpAny_setEntries_of ho hd hf ?_)
    refine wpAny_bind (wpAny_forIn_array' _ (fun l2 b2 s2 => b2 = (none, ()) ∧ s2 = s1 ∧ ∀ e ∈ l2, GoodE e) _ (fun e rest2 b2 s2 hI => ?_) (fun b2 s2 hI => ?_) es _ ⟨rfl, rfl, hg⟩)
    · obtain ⟨rfl, rfl, hr2⟩ := hI
      obtain ⟨k, tk, e1, _⟩ := hr2 e (List.mem_cons_self ..)
      obtain ⟨h0, v⟩ := e
      simp only at e1
      subst e1
      exact wpAny_pure ⟨rfl, rfl, fun e he => hr2 e (List.mem_cons_of_mem _ he)⟩
    · obtain ⟨rfl, rfl, _⟩ := hI
      exact wpAny_pure ⟨rfl, rfl, fun y hy => hr y (List.mem_cons_of_mem _ hy)⟩
  · obtain ⟨hb, hs, _⟩ := hI
    subst hs
    obtain ⟨b1, b2⟩ := b
    simp only at hb
    subst hb
    exact wpAny_pure h
/-- the elements of a set, in some order; what is filled stays what it was -/
theorem walkUnseen_none {Q : Array (Int × Value) → Shared → Prop} {others : List Addr} {S : Int → Bool} {n : Nat} (R : SetR w s.heap a S n) (hoth : ∀ b ∈ others, ∃ S n, SetR w s.heap b S n)
    (hQ : ∀ xs : Array (Int × Value), (∀ e ∈ xs.toList, GoodE e) → (xs.toList.map keyOf).Nodup → (∀ k, S k = true ↔ k ∈ xs.toList.map keyOf) → xs.size = n → Q xs s) : wpAny (model P w) A (setWalkUnseen a others none) Q E s := by
  obtain ⟨o, es, ep, t, ho, hex, hd, g, nd, hm, hb, hf, hn, hr, hl⟩ := id R
  have fin : ∀ xs : Array (Int × Value), xs.toList.Perm es.toList → Q xs s := fun xs pm => hQ xs (fun e he => g e (pm.mem_iff.mp he)) ((pm.map keyOf).nodup_iff.mpr nd) (fun k => (hm k).trans (pm.map keyOf).mem_iff.symm) (by rw [← Array.length_toList, pm.length_eq, Array.length_toList]; exact hn)
  unfold setWalkUnseen
  refine wpAny_bind (wpAny_setState_of ho hd hf ?_)
  dsimp only
  refine wpAny_bind (wpAny_byText ?_)
  by_cases c : (w.params.followText "set-order" || (t.led && t.plain) || decide (es.size ≤ 1)) = true
  · refine wp_if_pos c ?_
    refine setWalk_at ho hd hf ?_ ?_ fun xs pm => fin xs pm
    · simp only [Bool.or_eq_true, Bool.and_eq_true, decide_eq_true_eq] at c
      rcases c with (c | c) | c
      · exact .inl c
      · exact .inr (.inl c.1)
      · exact .inr (.inr c)
    · simp only [Bool.or_eq_true, Bool.and_eq_true, decide_eq_true_eq] at c
      rcases c with (c | c) | c
      · exact .inl c
      · exact .inr (.inl c.2)
      · exact .inr (.inr c)
  · refine wp_if_neg c ?_
    refine wpAny_bind (setsQuiet_at ?_ (a :: others) ?_)
    · refine wp_if_neg (by simp) ?_
      refine wpAny_bind (wpAny_rule ?_)
      exact wpAny_pure (fin es (List.Perm.refl _))
    · intro b hb2
      rcases List.mem_cons.mp hb2 with z | z
      · subst z
        exact ⟨o, es, ep, t, ho, hd, hf, g⟩
      · obtain ⟨S2, n2, o2, es2, ep2, t2, h1, _, h3, h4, _, _, _, h8, _⟩ := hoth b z
        exact ⟨o2, es2, ep2, t2, h1, h3, h8, h4⟩
theorem walkUnseen_some {Q : Array (Int × Value) → Shared → Prop} {others : List Addr} {S Sf : Int → Bool} {n nf : Nat} {f : Addr} (R : SetR w s.heap a S n) (Rf : SetR w s.heap f Sf nf) (hfa : f ≠ a) (hoth : ∀ b ∈ others, ∃ S n, SetR w s.heap b S n)
    (hQ : ∀ (xs : Array (Int × Value)) (h' : Heap), (∀ e ∈ xs.toList, GoodE e) → (xs.toList.map keyOf).Nodup → (∀ k, S k = true ↔ k ∈ xs.toList.map keyOf) → xs.size = n → Heap.SameBut f s.heap h' → SetR w h' f Sf nf → Q xs { s with heap := h' }) : wpAny (model P w) A (setWalkUnseen a others (some f)) Q E s := by
  obtain ⟨o, es, ep, t, ho, hex, hd, g, nd, hm, hb, hf, hn, hr, hl⟩ := id R
  obtain ⟨of, ef, epf, tf, hof, hexf, hdf, gf, ndf, hmf, hbf, hff, hnf, hrf, hlf⟩ := id Rf
  have fin : ∀ (xs : Array (Int × Value)) (h' : Heap), xs.toList.Perm es.toList → Heap.SameBut f s.heap h' → SetR w h' f Sf nf → Q xs { s with heap := h' } := fun xs h' pm => hQ xs h' (fun e he => g e (pm.mem_iff.mp he)) ((pm.map keyOf).nodup_iff.mpr nd) (fun k => (hm k).trans (pm.map keyOf).mem_iff.symm) (by rw [← Array.length_toList, pm.length_eq, Array.length_toList]; exact hn)
  unfold setWalkUnseen
  refine wpAny_bind (wpAny_setState_of ho hd hf ?_)
  dsimp only
  refine wpAny_bind (wpAny_byText ?_)
  by_cases c : (w.params.followText "set-order" || (t.led && t.plain) || decide (es.size ≤ 1)) = true
  · refine wp_if_pos c ?_
    refine setWalk_at ho hd hf ?_ ?_ fun xs pm => fin xs s.heap pm (Heap.SameBut.refl f s.heap) Rf
    · simp only [Bool.or_eq_true, Bool.and_eq_true, decide_eq_true_eq] at c
      rcases c with (c | c) | c
      · exact .inl c
      · exact .inr (.inl c.1)
      · exact .inr (.inr c)
    · simp only [Bool.or_eq_true, Bool.and_eq_true, decide_eq_true_eq] at c
      rcases c with (c | c) | c
      · exact .inl c
      · exact .inr (.inl c.2)
      · exact .inr (.inr c)
  · refine wp_if_neg c ?_
    have hbt : w.params.followText "set-order" = false := by
      cases q : w.params.followText "set-order" with
      | false => rfl
      | true => rw [q] at c; simp at c
    have hled : t.led = true := by
      rcases hl with z | z
      · rw [hbt] at z; cases z
      · exact z
    refine wpAny_bind (setsQuiet_at ?_ (a :: others) ?_)
    · refine wp_if_neg (by simp) ?_
      refine wpAny_bind (wpAny_rule ?_)
      refine wpAny_bind (wpAny_setState_of hof hdf hff ?_)
      dsimp only
      split
      · refine wpAny_bind (wpAny_storeSet_of hof hdf ?_ (Nat.le_trans (Nat.le_of_lt hbf) (by decide)))
        refine wpAny_pure (fin es _ (List.Perm.refl _) ?_ ⟨_, ef, _, _, store_at hof hdf, hexf, rfl, gf, ndf, hmf, hbf, ?_, hnf, hrf, ?_⟩)
        · exact Heap.SameBut.update _ f _
        · exact hff
        · exact hlf.imp id fun z => by
            show (tf.led && t.led) = true
            rw [z, hled]; rfl
      · exact wpAny_pure (fin es s.heap (List.Perm.refl _) (Heap.SameBut.refl f s.heap) Rf)
    · intro b hb2
      rcases List.mem_cons.mp hb2 with z | z
      · subst z
        exact ⟨o, es, ep, t, ho, hd, hf, g⟩
      · obtain ⟨S2, n2, o2, es2, ep2, t2, h1, _, h3, h4, _, _, _, h8, _⟩ := hoth b z
        exact ⟨o2, es2, ep2, t2, h1, h3, h8, h4⟩
end
end SD

set_option maxRecDepth 100000
set_option maxHeartbeats 4000000
namespace SD
open PySem PySem.Spec PyProof.Rows L2
section
variable {P : Program} {w : World} {A : Around} {E : Value → Shared → Prop} {s : Shared} {a : Addr} {o : Obj} {es : Array (Int × Value)} {ep : Nat} {t : SetTable}
/-- a set, with how many places were left -/
def SetQ (w : World) (h : Heap) (a : Addr) (S : Int → Bool) (n d : Nat) : Prop :=
  ∃ o es ep t, h.get? a = some o ∧ o.ExactSet ∧ o.data = .set es ep t ∧ (∀ e ∈ es.toList, GoodE e) ∧ (es.toList.map keyOf).Nodup ∧ (∀ k, S k = true ↔ k ∈ es.toList.map keyOf) ∧
    es.size < scanBound ∧ t.fits es.size = true ∧ es.size = n ∧ Ris t.place.toList ∧ (w.params.followText "set-order" = true ∨ t.led = true) ∧ t.dummies.size = d
theorem SetQ.setR {h : Heap} {S : Int → Bool} {n d : Nat} (R : SetQ w h a S n d) : SetR w h a S n := by
  obtain ⟨o, es, ep, t, h1, h2, h3, h4, h5, h6, h7, h8, h9, h10, h11, _⟩ := R
  exact ⟨o, es, ep, t, h1, h2, h3, h4, h5, h6, h7, h8, h9, h10, h11⟩
theorem SetQ.at {h h' : Heap} {S : Int → Bool} {n d : Nat} (R : SetQ w h a S n d) (k : ∀ o, h.get? a = some o → h'.get? a = some o) : SetQ w h' a S n d := by
  obtain ⟨o, es, ep, t, ho, r⟩ := R
  exact ⟨o, es, ep, t, k o ho, r⟩
theorem SetR.typeIs {S : Int → Bool} {n : Nat} (R : SetR w s.heap a S n) : s.TypeIs (.ref a) "set" := by
  obtain ⟨o, es, ep, t, ho, hx, _⟩ := R
  exact ⟨o, ho, hx.1⟩
abbrev bareO (w : World) : Obj := { cls := .type "set", dict := none, data := .set #[] 0 (.fresh 0 0 (!w.params.followText "set-order")) }
theorem newSet_at {Q : Value → Shared → Prop} (h : Q (.ref s.heap.objs.size) { s with heap := s.heap.push (bareO w) }) : wpAny (model P w) A (newSet (.type "set")) Q E s := by
  unfold newSet
  refine wpAny_bind (wpAny_byText ?_)
  dsimp only
  simp only [newObj]
  refine wpAny_bind (wpAny_alloc (wpAny_pure ?_))
  exact h
theorem baseOf_at {Q : Value → Shared → Prop} (hT : s.TypeIs (.ref a) "set") (h : Q (.type "set") s) : wpAny (model P w) A (Builtin.Frozenset.baseOf a) Q E s := by
  unfold Builtin.Frozenset.baseOf
  refine wpAny_bind (wpAny_isInstance (b := true) hT sub_set_self ?_)
  exact wpAny_pure h
theorem reord {es : Array (Int × Value)} {order : Array Nat} (pm : order.toList.Perm (List.range es.size)) : (order.filterMap (es[·]?)).toList.Perm es.toList ∧ (order.filterMap (es[·]?)).size = es.size := by
  have h1 : (order.filterMap (es[·]?)).toList.Perm es.toList := by
    rw [Array.toList_filterMap]
    exact (pm.filterMap _).trans (by rw [filterMap_getElem?_range])
  exact ⟨h1, by rw [← Array.length_toList, h1.length_eq, Array.length_toList]⟩
def Bare (w : World) (h : Heap) (r : Addr) (m : Nat) : Prop := ∃ o ep t, h.get? r = some o ∧ o.ExactSet ∧ o.data = .set #[] ep t ∧ t.mask = m ∧ t.place = #[] ∧ t.dummies = #[] ∧ (w.params.followText "set-order" = true ∨ t.led = true)
theorem relay_bare {r : Addr} {m wanted : Nat} {Q : Unit → Shared → Prop} {o : Obj} {ep : Nat} {t : SetTable} (hr : s.heap.get? r = some o) (hex : o.ExactSet) (hd : o.data = .set #[] ep t) (hp : t.place = #[]) (hdm : t.dummies = #[]) (hl : w.params.followText "set-order" = true ∨ t.led = true) (hw : SetTable.sizeAbove wanted = m + 1) (F : Full m) (hm : m ≤ 1000)
    (hQ : ∀ h', Heap.SameBut r s.heap h' → Bare w h' r m → Q () { s with heap := h' }) : wpAny (model P w) A (setRelay r wanted) Q E s := by
  have hf : t.fits (#[] : Array (Int × Value)).size = true := by unfold SetTable.fits SetTable.fill; rw [hp, hdm]; simp
  unfold setRelay
  refine wpAny_bind (wpAny_setState_of hr hd hf ?_)
  dsimp only
  refine wp_if_neg (by rw [hw]; have : 1001 ≤ sizeLine := by decide
                       omega) ?_
  obtain ⟨t2, order, e, pm, e1, e2, e3, e4, e5, e6⟩ := laid_is F t.finger (t.movedTo (SetTable.sizeAbove wanted - 1)) t.led t.plain (#[] : Array Int) (by simp)
  have er : t.relaid (Array.map (fun x => x.1) (#[] : Array (Int × Value))) wanted = some (t2, order) := by
    unfold SetTable.relaid
    rw [hw] at e ⊢
    rw [Array.map_empty]
    simp only [Nat.add_sub_cancel] at e ⊢
    exact e
  rw [er]
  obtain ⟨p1, p2⟩ := reord (es := (#[] : Array (Int × Value))) pm
  have hz : ((order.filterMap ((#[] : Array (Int × Value))[·]?)).size != (#[] : Array (Int × Value)).size) = false := by rw [p2]; rfl
  show wpAny (model P w) A ((if ((order.filterMap ((#[] : Array (Int × Value))[·]?)).size != (#[] : Array (Int × Value)).size) = true then _ else pure (order.filterMap ((#[] : Array (Int × Value))[·]?), t2)) >>= fun x => storeSet r x.1 x.2) Q E s
  rw [hz]
  refine wpAny_bind (wp_if_neg (by simp) (wpAny_pure ?_))
  have e0 : order.filterMap ((#[] : Array (Int × Value))[·]?) = #[] := Array.eq_empty_of_size_eq_zero p2
  dsimp only
  rw [e0]
  refine wpAny_storeSet_of hr hd ?_ (Nat.zero_le _)
  refine hQ _ (Heap.SameBut.update _ r _) ⟨_, _, t2, store_at hr hd, hex, rfl, e1, Array.eq_empty_of_size_eq_zero e2, e3, ?_⟩
  rw [e4]
  exact hl
theorem room_bare {r : Addr} {n : Nat} {Q : Unit → Shared → Prop} (hn : n ≤ 15) (hr : s.heap.get? r = some (bareO w))
    (hQ : ∀ h' m, Full m → n ≤ m → Heap.SameBut r s.heap h' → Bare w h' r m → Q () { s with heap := h' }) : wpAny (model P w) A (setRoomFor r n) Q E s := by
  have fr : (SetTable.fresh 0 0 (!w.params.followText "set-order")).fits (#[] : Array (Int × Value)).size = true := by rfl
  have hl : w.params.followText "set-order" = true ∨ (SetTable.fresh 0 0 (!w.params.followText "set-order")).led = true := by
    show _ ∨ (!w.params.followText "set-order") = true
    cases w.params.followText "set-order"
    · exact .inr rfl
    · exact .inl rfl
  unfold setRoomFor
  refine wpAny_bind (wpAny_setState_of hr rfl fr ?_)
  dsimp only
  by_cases c : n * 5 ≥ 21
  · have e : (SetTable.fresh 0 0 (!w.params.followText "set-order")).roomFor n = some (n * 2) := by
      unfold SetTable.roomFor
      rw [if_pos]
      · show some ((0 + n) * 2) = _
        rw [Nat.zero_add]
      · show (0 + n) * 5 ≥ 7 * 3
        omega
    rw [e]
    dsimp only
    have h5 : n = 5 ∨ n = 6 ∨ n = 7 ∨ n = 8 ∨ n = 9 ∨ n = 10 ∨ n = 11 ∨ n = 12 ∨ n = 13 ∨ n = 14 ∨ n = 15 := by omega
    by_cases c2 : n < 8
    · refine relay_bare (m := 15) hr ⟨rfl, rfl, rfl⟩ rfl rfl rfl hl ?_ full15 (by decide) fun h' sb B => hQ h' 15 full15 (by omega) sb B
      rcases h5 with e | e | e | e | e | e | e | e | e | e | e <;> subst e <;> first | decide | omega
    · refine relay_bare (m := 31) hr ⟨rfl, rfl, rfl⟩ rfl rfl rfl hl ?_ full31 (by decide) fun h' sb B => hQ h' 31 full31 (by omega) sb B
      rcases h5 with e | e | e | e | e | e | e | e | e | e | e <;> subst e <;> first | decide | omega
  · have e : (SetTable.fresh 0 0 (!w.params.followText "set-order")).roomFor n = none := by
      unfold SetTable.roomFor
      rw [if_neg]
      show ¬ (0 + n) * 5 ≥ 7 * 3
      omega
    rw [e]
    exact wpAny_pure (hQ s.heap 7 full7 (by omega) (Heap.SameBut.refl r _) ⟨_, _, _, hr, ⟨rfl, rfl, rfl⟩, rfl, rfl, rfl, rfl, hl⟩)
/-- all of a set comes in a bare one -/
theorem merge_at {r : Addr} {S : Int → Bool} {n : Nat} {Q : Unit → Shared → Prop} (R : SetR w s.heap a S n) (hn : n ≤ 15) (n0 : n ≠ 0) (hr : s.heap.get? r = some (bareO w)) (hra : r ≠ a)
    (hQ : ∀ h', Heap.SameBut r s.heap h' → SetQ w h' r S n 0 → Q () { s with heap := h' }) : wpAny (model P w) A (setMerge r a) Q E s := by
  obtain ⟨o, es, ep, t, ho, hex, hd, g, nd, hm, hb, hf, hz, hris, hl⟩ := id R
  unfold setMerge
  refine wp_if_neg (by simpa using hra) ?_
  refine wpAny_bind (wpAny_setState_of ho hd hf ?_)
  dsimp only
  refine wp_if_neg (by rw [Array.isEmpty_iff]; intro z; rw [z] at hz; exact n0 hz.symm) ?_
  refine wpAny_bind (room_bare (by rw [hz]; exact hn) hr fun h1 m F hnm sb B => ?_)
  obtain ⟨o1, ep1, t1, hr1, hex1, hd1, em, ep0, ed, hl1⟩ := B
  have hf1 : t1.fits (#[] : Array (Int × Value)).size = true := by unfold SetTable.fits SetTable.fill; rw [ep0, ed]; simp
  refine wpAny_bind (wpAny_setState_of hr1 hd1 hf1 ?_)
  have hfill : t1.fill = 0 := by unfold SetTable.fill; rw [ep0, ed]; rfl
  have led2 : w.params.followText "set-order" = true ∨ (t1.led && t.led) = true := by
    rcases hl with z | z
    · exact .inl z
    · rcases hl1 with y | y
      · exact .inl y
      · exact .inr (by rw [z, y]; rfl)
  by_cases c : (t1.mask == t.mask && t.dummies.isEmpty) = true
  · have er : t1.road t = .slotForSlot := by
      unfold SetTable.road
      rw [hfill]
      simp only [bne_self_eq_false, Bool.false_eq_true, if_false]
      rw [if_pos c]
    dsimp only
    rw [er]
    refine wpAny_storeSet_of hr1 hd1 ?_ (Nat.le_trans (Nat.le_of_lt hb) (by decide))
    have c2 : t.dummies = #[] := by
      rw [Bool.and_eq_true] at c
      exact Array.isEmpty_iff.mp c.2
    refine hQ _ (sb.trans (Heap.SameBut.update _ r _)) ⟨_, es, _, _, store_at hr1 hd1, hex1, rfl, g, nd, hm, hb, hf, hz, hris, led2, ?_⟩
    show t.dummies.size = 0
    rw [c2]; rfl
  · have er : t1.road t = .clean := by
      unfold SetTable.road
      rw [hfill]
      simp only [bne_self_eq_false, Bool.false_eq_true, if_false]
      rw [if_neg c]
    dsimp only
    rw [er]
    obtain ⟨t2, order, e, pm, e1, e2, e3, e4, e5, e6⟩ := laid_is (m := t1.mask) (by rw [em]; exact F) t1.finger t1.moves (t1.led && t.led) (t1.plain && t.plain) (es.map (·.1)) (by rw [Array.size_map, em]; omega)
    rw [Array.size_map] at pm e2
    obtain ⟨p1, p2⟩ := reord pm
    have hz2 : ((order.filterMap (es[·]?)).size != es.size) = false := by rw [p2]; simp
    dsimp only
    rw [e]
    show wpAny (model P w) A ((if ((order.filterMap (es[·]?)).size != es.size) = true then _ else pure (order.filterMap (es[·]?), t2)) >>= fun x => storeSet r x.1 x.2) Q E _
    rw [hz2]
    refine wpAny_bind (wp_if_neg (by simp) (wpAny_pure ?_))
    dsimp only
    refine wpAny_storeSet_of hr1 hd1 ?_ (by rw [p2]; exact Nat.le_trans (Nat.le_of_lt hb) (by decide))
    refine hQ _ (sb.trans (Heap.SameBut.update _ r _)) ⟨_, _, _, t2, store_at hr1 hd1, hex1, rfl, fun e he => g e (p1.mem_iff.mp he), (p1.map keyOf).nodup_iff.mpr nd, fun k => (hm k).trans (p1.map keyOf).mem_iff.symm, by rw [p2]; exact hb, ?_, by rw [p2]; exact hz, e6, by rw [e4]; exact led2, by rw [e3]; rfl⟩
    unfold SetTable.fits SetTable.fill
    rw [p2, e2, e3, e1, em]
    simp
    omega
theorem copy_at {S : Int → Bool} {n : Nat} {Q : Value → Shared → Prop} (R : SetR w s.heap a S n) (hn : n ≤ 15) (n0 : n ≠ 0)
    (hQ : ∀ h' : Heap, (∀ b u, s.heap.get? b = some u → h'.get? b = some u) → h'.objs.size = s.heap.objs.size + 1 → SetQ w h' s.heap.objs.size S n 0 → Q (.ref s.heap.objs.size) { s with heap := h' }) : wpAny (model P w) A (Builtin.Frozenset.copyOf a) Q E s := by
  have ra : s.heap.objs.size ≠ a := Nat.ne_of_gt R.lt
  unfold Builtin.Frozenset.copyOf
  refine wpAny_bind (baseOf_at (SetR.typeIs R) ?_)
  refine wpAny_bind (newSet_at ?_)
  unfold Builtin.Frozenset.addrOf
  refine wpAny_bind (wpAny_pure ?_)
  refine wpAny_bind (merge_at (R.at fun o e => Heap.get?_push_of_some _ e) hn n0 (Heap.get?_push_size _ rfl) ra fun h' sb R2 => ?_)
  refine wpAny_pure (hQ h' (fun b u e => ?_) ?_ R2)
  · have lt := Heap.lt_size e
    rw [sb.2 b (Nat.ne_of_lt lt)]
    exact Heap.get?_push_of_some _ e
  · rw [sb.1]
    exact Heap.size_push _ _
end
end SD

set_option maxRecDepth 100000
set_option maxHeartbeats 4000000
namespace SD
open PySem PySem.Spec PyProof.Rows L2
section
variable {P : Program} {w : World} {A : Around} {E : Value → Shared → Prop} {s : Shared} {a : Addr}
theorem eraseAt_list {α : Type} (xs : Array α) (i : Nat) : (SetTable.eraseAt xs i).toList = xs.toList.eraseIdx i := by
  unfold SetTable.eraseAt
  rw [Array.toList_append, Array.toList_extract, Array.toList_extract, List.eraseIdx_eq_take_drop_succ]
  simp [List.extract_eq_drop_take]
  try (rw [List.take_of_length_le]; simp)
theorem insertAt_size {α : Type} (xs : Array α) (p : Nat) (x : α) : (SetTable.insertAt xs p x).size = xs.size + 1 := by
  have := (SetTable.insertAt_perm xs p x).length_eq
  rw [Array.length_toList, Array.length_toList, Array.size_push] at this
  exact this
theorem discard_at {k : Int} {tk : Tok} {S : Int → Bool} {n d : Nat} {Q : Bool → Shared → Prop} (R : SetQ w s.heap a S n d)
    (h0 : S k = false → Q false s) (h1 : S k = true → ∀ h' m, n = m + 1 → Heap.SameBut a s.heap h' → SetQ w h' a (fun j => S j && !decide (j = k)) m (d + 1) → Q true { s with heap := h' }) :
    wpAny (model P w) A (setDiscardHashed a (.int k tk) (hashInt k)) Q E s := by
  obtain ⟨o, es, ep, t, ho, hex, hd, g, nd, hm, hb, hf, hn, hr, hl, hdm⟩ := R
  have hkey : (intKind P w).is k (.int k tk) = true := intKind_is P w k tk
  have hsc : (Value.int k tk).scannable = true := rfl
  have hel : ElemsOf (intKind P w) es.toList := good_elems g
  unfold setDiscardHashed
  refine wpAny_bind ?_
  show wpAny (model P w) A (setFind a (.int k tk) ((intKind P w).hash k)) _ E s
  unfold setFind setFindIn
  refine wpAny_bind (wpAny_setState_of ho hd hf ?_)
  dsimp only
  rw [byScan_of hsc hb hel]
  simp only [↓reduceIte]
  refine wpAny_bind (wpAny_rule ?_)
  refine wpAny_bind (wpAny_setScan_of hkey ho hd hf hel ?_)
  cases hfi : List.findIdx? (fun e => (intKind P w).is k e.2) es.toList with
  | none =>
    dsimp only
    have hSk : S k = false := by
      cases q : S k with
      | false => rfl
      | true =>
        obtain ⟨e, he, z⟩ := (good_mem (P := P) (w := w) g k).1 ((hm k).1 q)
        have c := List.findIdx?_eq_none_iff.mp hfi e he
        rw [z] at c
        cases c
    exact wpAny_pure (wpAny_pure (h0 hSk))
  | some j =>
    dsimp only
    obtain ⟨hj, pj, _⟩ := List.findIdx?_eq_some_iff_getElem.mp hfi
    have ej : keyOf es.toList[j] = k := (good_is (P := P) (w := w) (g _ (List.getElem_mem hj)) k).1 pj
    have hSk : S k = true := (hm k).2 (List.mem_map.mpr ⟨_, List.getElem_mem hj, ej⟩)
    refine wpAny_pure ?_
    rw [Nat.zero_add]
    refine wpAny_bind (wpAny_setState_of ho hd hf ?_)
    dsimp only
    have pm := erase_perm es.toList j _ (List.getElem?_eq_getElem hj)
    have pk := pm.map keyOf
    rw [List.map_cons, ej] at pk
    have nd2 : (k :: (es.toList.eraseIdx j).map keyOf).Nodup := pk.nodup_iff.mpr nd
    obtain ⟨nk, nd3⟩ := List.nodup_cons.mp nd2
    have hl2 : (es.toList.eraseIdx j).length + 1 = n := by
      have := pm.length_eq
      rw [List.length_cons] at this
      have h2 : es.toList.length = es.size := Array.length_toList
      omega
    have sz : (SetTable.eraseAt es j).size + 1 = n := by rw [← Array.length_toList, eraseAt_list]; exact hl2
    have fz : t.place.size = es.size ∧ t.fill ≤ t.mask := by
      unfold SetTable.fits at hf
      simpa [Bool.and_eq_true] using hf
    have hjp : j < t.place.size := by rw [fz.1]; rw [Array.length_toList] at hj; exact hj
    have ed : t.drop j = { t with place := SetTable.eraseAt t.place j, dummies := SetTable.insertAt t.dummies (SetTable.below t.dummies t.place[j]) t.place[j] } := by
      unfold SetTable.drop
      rw [Array.getElem?_eq_getElem hjp]
    have pz : (SetTable.eraseAt t.place j).size + 1 = t.place.size := by
      rw [← Array.length_toList, eraseAt_list, List.length_eraseIdx, if_pos (by rw [Array.length_toList]; exact hjp), Array.length_toList]
      omega
    rw [ed]
    refine wpAny_bind (wpAny_storeSet_of ho hd ?_ (Nat.le_trans (show (SetTable.eraseAt es j).size ≤ scanBound by omega) (by decide)))
    refine wpAny_bind (wpAny_point ?_)
    refine wpAny_pure (h1 hSk _ ((SetTable.eraseAt es j).size) (by omega) (Heap.SameBut.update _ a _) ⟨_, _, _, _, store_at ho hd, hex, rfl, ?_, ?_, ?_, ?_, ?_, rfl, ?_, hl, ?_⟩)
    · intro e he
      rw [eraseAt_list] at he
      exact g e (List.mem_of_mem_eraseIdx he)
    · rw [eraseAt_list]; exact nd3
    · intro i
      rw [eraseAt_list]
      rw [Bool.and_eq_true, hm i, ← pk.mem_iff, List.mem_cons]
      constructor
      · rintro ⟨z | z, y⟩
        · rw [z] at y; simp at y
        · exact z
      · intro z
        refine ⟨.inr z, ?_⟩
        have : i ≠ k := fun e => nk (e ▸ z)
        simp [this]
    · omega
    · unfold SetTable.fits SetTable.fill
      rw [insertAt_size]
      have f1 := fz.1
      have f2 := fz.2
      unfold SetTable.fill at f2
      simp only [Bool.and_eq_true, beq_iff_eq, decide_eq_true_eq]
      omega
    · show Ris (SetTable.eraseAt t.place j).toList
      rw [eraseAt_list]
      exact List.Pairwise.sublist (List.eraseIdx_sublist ..) hr
    · show (SetTable.insertAt t.dummies _ _).size = d + 1
      rw [insertAt_size, hdm]
theorem unch {nm : String} {ep : Nat} {o : Obj} {es : Array (Int × Value)} {t : SetTable} {Q : Unit → Shared → Prop} (ho : s.heap.get? a = some o) (hd : o.data = .set es ep t) (hf : t.fits es.size = true) (h : Q () s) : wpAny (model P w) A (Builtin.Frozenset.unchanged nm a ep) Q E s := by
  unfold Builtin.Frozenset.unchanged
  refine wpAny_bind (wpAny_setEpoch_of ho hd hf ?_)
  rw [if_neg (by simp)]
  exact wpAny_pure h
theorem sizeOf_at {S : Int → Bool} {n : Nat} {Q : Nat → Shared → Prop} (R : SetR w s.heap a S n) (h : Q n s) : wpAny (model P w) A (Builtin.Frozenset.sizeOf a) Q E s := by
  obtain ⟨o, es, ep, t, ho, hex, hd, g, nd, hm, hb, hf, hz, hris, hl⟩ := R
  unfold Builtin.Frozenset.sizeOf
  refine wpAny_bind (wpAny_setEntries_of ho hd hf ?_)
  exact wpAny_pure (by rw [hz]; exact h)
theorem same_set {h h' : Heap} {r b : Addr} (sb : Heap.SameBut r h h') (n : b ≠ r) {u : Obj} (e : h.get? b = some u) : h'.get? b = some u := (sb.2 b n).trans e
/-- a set is lessened by another, a quarter of it at most -/
theorem lessen_at {nm : String} {b : Addr} {S T : Int → Bool} {n m : Nat} {Q : Unit → Shared → Prop} (R : SetQ w s.heap a S n 0) (R2 : SetR w s.heap b T m) (hab : b ≠ a) (hm : m ≤ n / 4)
    (hQ : ∀ h' n', n' ≤ n → Heap.SameBut a s.heap h' → SetR w h' a (fun j => S j && !T j) n' → Q () { s with heap := h' }) : wpAny (model P w) A (Builtin.Frozenset.differenceUpdate nm a (.ref b)) Q E s := by
  obtain ⟨ob, eb, epb, tb, hob, hexb, hdb, gb, ndb, hmb, hbb, hfb, hnb, hrb, hlb⟩ := id R2
  unfold Builtin.Frozenset.differenceUpdate
  refine wp_if_neg (by simpa using hab) ?_
  refine wpAny_bind (anySet (SetR.typeIs R2) ?_)
  dsimp only
  refine wp_if_pos rfl ?_
  unfold Builtin.Frozenset.addrOf
  refine wpAny_bind (wpAny_pure ?_)
  refine wpAny_bind (sizeOf_at R2 ?_)
  refine wpAny_bind (sizeOf_at R.setR ?_)
  refine wp_if_neg (by omega) ?_
  refine wpAny_bind (wpAny_setEpoch_of hob hdb hfb ?_)
  refine wpAny_bind (wpAny_holding ?_)
  refine wpAny_bind (walkUnseen_none R2 (fun c hc => by rw [List.mem_singleton.mp hc]; exact ⟨_, _, R.setR⟩) fun xs g nd hx hz => ?_)
  have hT : ∀ e ∈ xs.toList, T (keyOf e) = true := fun e he => (hx _).2 (List.mem_map.mpr ⟨e, he, rfl⟩)
  refine wpAny_bind (wpAny_forIn_array' _ (fun rest _ s' => ∃ h' S' n' d', s' = { s with heap := h' } ∧ Heap.SameBut a s.heap h' ∧ SetQ w h' a S' n' d' ∧ n' + d' = n ∧ d' + rest.length ≤ m ∧ (∀ e ∈ rest, GoodE e) ∧ (rest.map keyOf).Nodup ∧ (∀ e ∈ rest, T (keyOf e) = true) ∧ ∀ k, S' k = true ↔ S k = true ∧ ¬ (T k = true ∧ k ∉ rest.map keyOf)) _ (fun e rest u s1 hI => ?_) (fun u s1 hI => ?_) xs _ ⟨s.heap, S, n, 0, rfl, Heap.SameBut.refl a _, R, rfl, by rw [Array.length_toList, hz]; omega, g, nd, hT, fun k => ⟨fun z => ⟨z, fun y => y.2 ((hx k).1 y.1)⟩, fun z => z.1⟩⟩)
  · obtain ⟨h1, S', n', d', rfl, sb, R1, e1, e2, g1, nd1, t1, i1⟩ := hI
    obtain ⟨k, tk, k1, k2⟩ := g1 e (List.mem_cons_self ..)
    obtain ⟨hh, v⟩ := e
    simp only at k1 k2
    subst k1 k2
    rw [List.map_cons] at nd1
    obtain ⟨nk, nd2⟩ := List.nodup_cons.mp nd1
    have tk0 : T k = true := t1 _ (List.mem_cons_self ..)
    have nk : k ∉ rest.map keyOf := nk
    rw [List.length_cons] at e2
    have step : ∀ j, ((S' j && !decide (j = k)) = true) ↔ S j = true ∧ ¬ (T j = true ∧ j ∉ rest.map keyOf) := fun j => by
      rw [Bool.and_eq_true, i1 j]
      simp only [List.map_cons, List.mem_cons, Bool.not_eq_true', decide_eq_false_iff_not]
      by_cases c : j = k
      · subst c
        constructor
        · rintro ⟨_, z⟩; exact absurd rfl z
        · rintro ⟨_, z⟩; exact absurd ⟨tk0, nk⟩ z
      · have : keyOf (hashInt k, Value.int k tk) = k := rfl
        rw [this]
        constructor
        · rintro ⟨⟨z1, z2⟩, _⟩
          exact ⟨z1, fun y => z2 ⟨y.1, fun q => q.elim c y.2⟩⟩
        · rintro ⟨z1, z2⟩
          exact ⟨⟨z1, fun y => z2 ⟨y.1, fun q => y.2 (.inr q)⟩⟩, c⟩
    dsimp only
    refine wpAny_bind (wpAny_holding (discard_at R1 (fun hs => ?_) fun hs h2 m2 em sb2 R3 => ?_))
    · refine wpAny_bind (unch (same_set sb hab hob) hdb hfb (wpAny_pure ⟨h1, S', n', d', rfl, sb, R1, e1, by omega, fun e he => g1 e (List.mem_cons_of_mem _ he), nd2, fun e he => t1 e (List.mem_cons_of_mem _ he), fun j => ?_⟩))
      rw [← step j]
      by_cases c : j = k
      · subst c; rw [hs]; simp
      · simp [c]
    · refine wpAny_bind (unch (same_set sb2 hab (same_set sb hab hob)) hdb hfb (wpAny_pure ⟨h2, _, m2, d' + 1, rfl, sb.trans sb2, R3, by omega, by omega, fun e he => g1 e (List.mem_cons_of_mem _ he), nd2, fun e he => t1 e (List.mem_cons_of_mem _ he), step⟩))
  · obtain ⟨h1, S', n', d', rfl, sb, R1, e1, e2, _, _, _, i1⟩ := hI
    refine wpAny_pure ?_
    obtain ⟨o, es, ep, t, ho, hex, hd, g2, nd2, hm2, hb2, hf2, hz2, hr2, hl2, hdm2⟩ := id R1
    unfold setTidy
    refine wpAny_bind (wpAny_setState_of ho hd hf2 ?_)
    dsimp only
    have fz : t.place.size = es.size ∧ t.fill ≤ t.mask := by
      have := hf2
      unfold SetTable.fits at this
      simpa [Bool.and_eq_true] using this
    have few : t.tooManyDummies = false := by
      unfold SetTable.tooManyDummies
      have f1 := fz.1
      have f2 := fz.2
      unfold SetTable.fill at f2
      rw [List.length_nil] at e2
      simp only [decide_eq_false_iff_not]
      omega
    rw [few]
    refine wp_if_neg (by simp) (wpAny_pure (hQ h1 n' (by omega) sb (R1.setR.congr fun j => ?_)))
    have q := i1 j
    simp only [List.map_nil, List.not_mem_nil, not_false_eq_true, and_true] at q
    cases c1 : S j <;> cases c2 : T j <;> cases c3 : S' j <;> simp_all
end
end SD

set_option maxRecDepth 100000
set_option maxHeartbeats 4000000
namespace SD
open PySem PySem.Spec PyProof.Rows L2
section
variable {P : Program} {w : World} {A : Around} {E : Value → Shared → Prop} {s : Shared} {a : Addr}
theorem find_at {k : Int} {tk : Tok} {S : Int → Bool} {n : Nat} {Q : Option Nat → Shared → Prop} (R : SetR w s.heap a S n) (h : ∀ r : Option Nat, r.isSome = S k → Q r s) : wpAny (model P w) A (setFind a (.int k tk) (hashInt k)) Q E s :=
  wpAny_setFind_of (knd := intKind P w) (intKind_is P w k tk) rfl R.setOf h
/-- one set without the other's -/
theorem diff_at {nm : String} {b : Addr} {S T : Int → Bool} {n m : Nat} {Q : Value → Shared → Prop} (R : SetR w s.heap a S n) (R2 : SetR w s.heap b T m) (hn : n ≤ 15)
    (hQ : ∀ (h' : Heap) (n' : Nat), n' ≤ n → (∀ c u, s.heap.get? c = some u → h'.get? c = some u) → SetR w h' s.heap.objs.size (fun j => S j && !T j) n' → Q (.ref s.heap.objs.size) { s with heap := h' }) :
    wpAny (model P w) A (Builtin.Frozenset.difference nm a (.ref b)) Q E s := by
  have la := R.lt
  have lb := R2.lt
  unfold Builtin.Frozenset.difference
  refine wpAny_bind (anySet (SetR.typeIs R2) ?_)
  refine wp_if_neg (by simp) ?_
  unfold Builtin.Frozenset.addrOf
  refine wpAny_bind (wpAny_pure ?_)
  refine wp_if_neg (by simp) ?_
  dsimp only
  refine wp_if_pos rfl ?_
  refine wpAny_bind (sizeOf_at R2 ?_)
  refine wpAny_bind (sizeOf_at R ?_)
  by_cases c : n / 4 > m
  · refine wp_if_pos c ?_
    refine wpAny_bind (wpAny_rule ?_)
    refine wpAny_bind (copy_at R hn (by omega) fun h1 k1 z1 R1 => ?_)
    refine wpAny_bind (wpAny_pure ?_)
    refine wpAny_bind (wpAny_holding (lessen_at R1 (R2.at fun o e => k1 b o e) (Nat.ne_of_lt lb) (by omega) fun h2 n2 ln sb R3 => ?_))
    refine wpAny_pure (hQ h2 n2 ln (fun x u e => ?_) R3)
    rw [sb.2 x (Nat.ne_of_lt (Heap.lt_size e))]
    exact k1 x u e
  · refine wp_if_neg c ?_
    refine wpAny_bind (baseOf_at (SetR.typeIs R) ?_)
    refine wpAny_bind (newSet_at ?_)
    refine wpAny_bind (wpAny_pure ?_)
    have kp : ∀ x u, s.heap.get? x = some u → (s.heap.push (bareO w)).get? x = some u := fun x u e => Heap.get?_push_of_some _ e
    have Ra := R.at (h' := s.heap.push (bareO w)) fun o e => kp a o e
    have Rb := R2.at (h' := s.heap.push (bareO w)) fun o e => kp b o e
    have R0 : SetR w (s.heap.push (bareO w)) s.heap.objs.size (fun _ => false) 0 := setR_fresh w
    obtain ⟨o, es, ep, t, ho, hex, hd, g, nd, hm, hb, hf, hz, hris, hl⟩ := id Ra
    refine wpAny_bind (wpAny_setEpoch_of ho hd hf ?_)
    refine wpAny_bind (wpAny_holding ?_)
    refine wpAny_bind ?_
    refine wp_if_pos rfl ?_
    have nra : s.heap.objs.size ≠ a := Nat.ne_of_gt la
    have nrb : s.heap.objs.size ≠ b := Nat.ne_of_gt lb
    refine walkUnseen_some Ra R0 nra (fun x hx => ?_) fun xs h1 g1 nd1 hx1 hz1 sb1 R1 => ?_
    · rcases List.mem_cons.mp hx with z | z
      · rw [z]; exact ⟨_, _, Rb⟩
      · rw [List.mem_singleton.mp z]; exact ⟨_, _, R0⟩
    refine wpAny_bind (wpAny_forIn_array' _ (fun rest _ s' => ∃ h' S' n', s' = { s with heap := h' } ∧ Heap.SameBut s.heap.objs.size (s.heap.push (bareO w)) h' ∧ SetR w h' s.heap.objs.size S' n' ∧ n' + rest.length ≤ n ∧ (∀ e ∈ rest, GoodE e) ∧ (∀ e ∈ rest, S (keyOf e) = true) ∧ ∀ k, ((S k && !T k) = true) ↔ S' k = true ∨ ((S k && !T k) = true ∧ k ∈ rest.map keyOf)) _ (fun e rest u s1 hI => ?_) (fun u s1 hI => ?_) xs _ ⟨h1, fun _ => false, 0, rfl, sb1, R1, by rw [Array.length_toList, hz1]; omega, g1, fun e he => (hx1 _).2 (List.mem_map.mpr ⟨e, he, rfl⟩), fun k => ⟨fun z => .inr ⟨z, (hx1 k).1 (by rw [Bool.and_eq_true] at z; exact z.1)⟩, fun z => z.elim (fun q => by cases q) fun q => q.1⟩⟩)
    · obtain ⟨h2, S', n', rfl, sb, R3, e2, g2, t2, i2⟩ := hI
      obtain ⟨k, tk, k1, k2⟩ := g2 e (List.mem_cons_self ..)
      obtain ⟨hh, v⟩ := e
      simp only at k1 k2
      subst k1 k2
      have tk0 : S k = true := t2 _ (List.mem_cons_self ..)
      rw [List.length_cons] at e2
      have Rb2 := Rb.at (h' := h2) fun o e => same_set sb nrb.symm e
      dsimp only
      refine wpAny_bind (wpAny_holding ?_)
      refine wp_if_pos rfl ?_
      refine wpAny_bind (find_at Rb2 fun r hr => ?_)
      refine wpAny_bind (wpAny_pure ?_)
      rw [hr]
      cases hT : T k with
      | true =>
        refine wp_if_neg (by simp) (wpAny_pure ?_)
        refine wpAny_bind (unch (same_set sb nra.symm ho) hd hf (wpAny_pure ⟨h2, S', n', rfl, sb, R3, by omega, fun e he => g2 e (List.mem_cons_of_mem _ he), fun e he => t2 e (List.mem_cons_of_mem _ he), fun j => ?_⟩))
        refine (i2 j).trans ?_
        simp only [List.map_cons, List.mem_cons]
        have kk : keyOf (hashInt k, Value.int k tk) = k := rfl
        rw [kk]
        constructor
        · rintro (z | ⟨z, y | y⟩)
          · exact .inl z
          · subst y; rw [hT] at z; simp at z
          · exact .inr ⟨z, y⟩
        · rintro (z | ⟨z, y⟩)
          · exact .inl z
          · exact .inr ⟨z, .inr y⟩
      | false =>
        refine wp_if_pos rfl ?_
        refine wpAny_bind (setR_add_hashed R3 (by have : 16 < scanBound := by decide
                                                  omega) fun h3 sb3 R4 => ?_)
        refine wpAny_pure ?_
        refine wpAny_bind (unch (same_set sb3 nra.symm (same_set sb nra.symm ho)) hd hf (wpAny_pure ⟨h3, _, _, rfl, sb.trans sb3, R4, by split <;> omega, fun e he => g2 e (List.mem_cons_of_mem _ he), fun e he => t2 e (List.mem_cons_of_mem _ he), fun j => ?_⟩))
        refine (i2 j).trans ?_
        simp only [List.map_cons, List.mem_cons, Bool.or_eq_true, decide_eq_true_eq]
        have kk : keyOf (hashInt k, Value.int k tk) = k := rfl
        rw [kk]
        constructor
        · rintro (z | ⟨z, y | y⟩)
          · exact .inl (.inl z)
          · exact .inl (.inr y)
          · exact .inr ⟨z, y⟩
        · rintro ((z | z) | ⟨z, y⟩)
          · exact .inl z
          · subst z
            exact .inr ⟨by rw [tk0, hT]; rfl, .inl rfl⟩
          · exact .inr ⟨z, .inr y⟩
    · obtain ⟨h2, S', n', rfl, sb, R3, e2, _, _, i2⟩ := hI
      refine wpAny_pure (wpAny_pure ?_)
      refine hQ h2 n' (by omega) (fun x u e => ?_) (R3.congr fun k => ?_)
      · rw [sb.2 x (Nat.ne_of_lt (Heap.lt_size e))]
        exact kp x u e
      · have q := i2 k
        simp only [List.map_nil, List.not_mem_nil, and_false, or_false] at q
        cases c1 : (S k && !T k) <;> cases c2 : S' k <;> simp_all
theorem entry_set_sub : entryFor table "set.__sub__" = some Builtin.«frozenset.__sub__» := entryFor_alias (id' := "frozenset.__sub__") (by kernel_rfl) rfl (by decide +kernel) (by kernel_rfl)
theorem sub_at {b : Addr} {S T : Int → Bool} {n m : Nat} {Q : Value → Shared → Prop} (R : SetR w s.heap a S n) (R2 : SetR w s.heap b T m) (hn : n ≤ 15)
    (hQ : ∀ (h' : Heap) (n' : Nat), n' ≤ n → (∀ c u, s.heap.get? c = some u → h'.get? c = some u) → SetR w h' s.heap.objs.size (fun j => S j && !T j) n' → Q (.ref s.heap.objs.size) { s with heap := h' }) :
    wpAny (model P w) A (binaryOp .Sub (.ref a) (.ref b)) Q E s := by
  refine wpAny_binaryOp_same (T := "set") (id := "set.__sub__") (SetR.typeIs R) (SetR.typeIs R2) PySem.F.fills_set_sub PySem.F.slot_set_sub ?_
  refine wpAny_call_entry PySem.F.slot_set_sub (SetR.typeIs R) entry_set_sub ?_ (PySem.F.args_set_sub_2 _ _)
  have go : wpAny (model P w) A.in1 (do
      let c ← (Builtin.Frozenset.isAnySet (.ref a) <&&> Builtin.Frozenset.isAnySet (.ref b))
      if (!c) = true then
        rule "frozenset.__sub__.declined"
        ret .notImplemented
      else
        let l ← Builtin.Frozenset.addrOf (.ref a)
        let v ← Builtin.Frozenset.difference "frozenset.__sub__" l (.ref b)
        ret v) (fun fin s' => ∃ v, fin = Fin.done (Flow.ret v) ∧ v ≠ Value.notImplemented ∧ Q v s') E s := by
    refine wpAny_bind ?_
    unfold andM
    refine wpAny_bind (anySet (SetR.typeIs R) ?_)
    refine anySet (SetR.typeIs R2) ?_
    refine wp_if_neg (by simp) ?_
    unfold Builtin.Frozenset.addrOf
    refine wpAny_bind (wpAny_pure ?_)
    refine wpAny_bind (diff_at R R2 hn fun h' n' ln kp R3 => ?_)
    exact wpAny_pure ⟨_, rfl, (fun z => by cases z), hQ h' n' ln kp R3⟩
  exact go
variable {X : Cx}
/-- set(ints) - set(ints) -/
def rSSub (w : World) : R2 := fun x y H Q => ∃ (a b : Addr) (S T : Int → Bool) (n m : Nat), x = V.ref a ∧ y = V.ref b ∧ H a = some (SetO w a S n) ∧ H b = some (SetO w b T m) ∧ n ≤ 15 ∧ ∀ p n', n' ≤ n → H p = none → Q (.ref p) (upd H p (SetO w p (fun j => S j && !T j) n'))
theorem or_ssub : OpR X (binaryOp .Sub) (rSSub X.w) := by
  intro pins s σ H x y v u Q I rx ry h
  obtain ⟨a, b, S, T, n, m, rfl, rfl, ha, hb, hn, q⟩ := h
  cases rx
  cases ry
  refine sub_at (setO_get I ha) (setO_get I hb) hn fun h' n' ln kp R3 => ?_
  refine ⟨.ref _, upd H s.heap.objs.size (SetO X.w s.heap.objs.size (fun j => S j && !T j) n'), I.laid (t' := s.toks) kp (Nat.le_refl _) (setO_new R3), rfl, q _ n' ln (I.hok.fresh (Nat.le_refl _))⟩
end
end SD

set_option maxRecDepth 100000
set_option maxHeartbeats 4000000
/-! set(ints), a list or a tuple -/
namespace SD
open PySem PySem.Spec PyProof.Rows L2
section
variable {prog : Program} {w : World} {A : Around} {E : Value → Shared → Prop} {s : Shared}
theorem set_listI {l : Addr} {its : Array Value} {Q : Value → Shared → Prop} (ns : List Int) (calm : A.handled = none) (isl : s.heap.IsList l its) (areI : IntsAre its.toList ns) (room : ns.length + 1 < scanBound)
    (h : ∀ (h' : Heap) (tk c : Nat), SetR w h' s.heap.objs.size (fun j => decide (j ∈ ns)) c → c ≤ its.size → (∀ b o, b < s.heap.objs.size → s.heap.get? b = some o → h'.get? b = some o) → Q (.ref s.heap.objs.size) { s with heap := h', toks := tk }) :
    wpAny (model prog w) A (call (.type "set") [.ref l]) Q E s := by
  have nsz : its.size = ns.length := by
    have q := IntsAre.length areI
    rw [Array.length_toList] at q
    exact q
  obtain ⟨_, _, hmro⟩ := PySem.F.called_set.mro
  have f1 := PySem.F.called_set.made
  have f2 := PySem.F.called_set.sub
  have f3 := PySem.F.called_set.notType
  have f4 := PySem.F.called_set.canCreate
  have f5 := PySem.F.typeCall_set_1 (.ref l)
  refine wpAny_call (codeAny_of_tree (?_ : wpAny _ _ (callAny (.type "set") _) _ _ _))
  refine wpAny_pure ⟨Code.quiet_builtin _ (by decide +kernel), codeAny_builtin PySem.F.entry_type_call ?_⟩
  rw [Around.under_plain (weight_type_call_type "set" [.ref l] []) rfl]
  repeat (any_goals (first | assumption | wp_step))
  generalize eD : s.heap.objs.size = D at *
  refine codeAny_mono (code_set_led1 (.ref l) (E := E) (Q₁ := fun v t => v = .ref D ∧ t = { s with heap := s.heap.push (bareO w) }) ⟨by rw [eD], rfl⟩) fun r t hr => ?_
  rcases r with e | fl
  · exact hr
  cases fl with
  | ret v =>
    obtain ⟨rfl, rfl⟩ := hr
    have atD : (s.heap.push (bareO w)).get? D = some (bareO w) := by
      rw [← eD]
      exact Heap.get?_push_size _ rfl
    have isS : Shared.TypeIs { s with heap := s.heap.push (bareO w) } (.ref D) "set" := ⟨_, atD, rfl⟩
    have f6 := PySem.F.called_set.init.lookup
    have f7 := PySem.F.called_set.init.bind (.ref D)
    repeat (any_goals (first | assumption | wp_step))
    refine codeAny_mono (codeAny_call_builtin (R := wants (fun r t => r = .none ∧ ∃ h' tk c, t = { s with heap := h', toks := tk } ∧ SetR w h' D (fun j => decide (j ∈ ns)) c ∧ c ≤ its.size ∧ (∀ b o, b < D → s.heap.get? b = some o → h'.get? b = some o)) E)
      PySem.F.called_set.init.plain PySem.F.entry_set_init (check_set_init_1 isS ?_)) fun r2 t2 hr2 => ?_
    · have isl1 : (s.heap.push (bareO w)).IsList l its := isl.push _
      obtain ⟨ob, hob, hc, nl, hd⟩ := isl1
      have ltl : l < D := by
        obtain ⟨o, ho, _⟩ := isl
        rw [← eD]
        exact Heap.lt_size ho
      obtain ⟨ocls, odict, odata, oslots⟩ := ob
      simp only at hc hd
      subst hc hd
      have g1 := PySem.F.sub_list_set
      have g2 := PySem.F.sub_list_frozenset
      have g3 : (Value.type "list" == Value.type "dict") = false := by decide
      have isl2 : (s.heap.push (bareO w)).IsList l its := ⟨_, hob, rfl, nl, rfl⟩
      unfold Builtin.«set.__init__» noKeywords Builtin.Frozenset.updateFrom
      generalize hPI : pyIter = PI
      wp_walk
      subst hPI
      refine wpAny_pyIter_list isl2 (wpAny_bind (wpAny_runValue ?_))
      have calm3 : A.in1.in1.in1.handled = none := by simp [calm]
      have sz : (s.heap.push (bareO w)).objs.size = D + 1 := by rw [Heap.size_push, eD]
      have nI : l ≠ (s.heap.push (bareO w)).objs.size := by
        rw [sz]
        exact Nat.ne_of_lt (Nat.lt_succ_of_lt ltl)
      have nf : D ∉ [(s.heap.push (bareO w)).objs.size, l] := by
        rw [sz]
        intro z
        rcases List.mem_cons.mp z with z | z
        · omega
        · exact absurd (List.mem_singleton.mp z) (Nat.ne_of_gt ltl)
      have hval : ∀ (i : Nat) (v : Value), its[i]? = some v → ∃ k t, ns[i]? = some k ∧ v = .int k t := fun i v hv => by
        have hi : i < ns.length := by rw [← nsz]; exact (Array.getElem?_eq_some_iff.mp hv).1
        obtain ⟨t, e⟩ := PyProof.Rows.IntsAre.int_at areI i v (by rw [Array.getElem?_toList]; exact hv)
        exact ⟨ns[i], t, List.getElem?_eq_getElem hi, by rw [e, List.getD_eq_getElem?_getD, List.getElem?_eq_getElem hi]; rfl⟩
      refine set_update_ints ((Walks.list calm3 _ l nI its).toS) D nf ns nsz room hval (its.size - 0) 0 _ (by omega) (Nat.zero_le _) ⟨⟨_, Heap.get?_push_size _ rfl, rfl, rfl⟩, isl2.push _⟩ ⟨0, Nat.le_refl _, setR_new_at (Heap.get?_push_of_some _ atD)⟩ ?_
      intro t1 c mv lc so
      obtain ⟨h', g', d', tk', os'⟩ := t1
      obtain rfl : g' = s.gens := mv.gens
      obtain rfl : d' = s.drawn := mv.drawn
      obtain rfl : os' = s.os := mv.os
      show wpAny _ _ _ _ _ _
      refine wpAny_pure ?_
      show wpAny _ _ (ret Value.none) _ _ _
      refine wpAny_pure ⟨rfl, h', tk', c, rfl, so, lc, fun b o lb e => mv.heap b o (fun z => ?_) (Heap.get?_push_of_some _ (Heap.get?_push_of_some _ e))⟩
      rcases List.mem_cons.mp z with z | z
      · exact absurd z (Nat.ne_of_lt lb)
      · have e2 := List.mem_singleton.mp z
        rw [sz] at e2
        exact absurd e2 (Nat.ne_of_lt (Nat.lt_succ_of_lt lb))
    · rcases r2 with e | fl2
      · exact hr2
      cases fl2 with
      | ret r =>
        obtain ⟨rfl, h', tk, c, rfl, so, lc, kp⟩ := hr2
        repeat (any_goals (first | assumption | wp_step))
        exact h _ _ c so lc kp
      | _ => exact hr2.elim
  | _ => exact hr.elim
end
section
variable {X : Cx}
def rSetI (K : PySem.W.Frag) (w : World) : List V → Hp → VK → Prop := fun vs H Q => ∃ (l : Addr) (ns : List Int), vs = [V.ref l] ∧ (SqL K H l (ns.map V.int) ∨ SqT K H l (ns.map V.int)) ∧ ns.length ≤ 1000 ∧
  ∀ (p : Addr) (c : Nat), H p = none → c ≤ ns.length → Q (.ref p) (upd H p (SetO w p (fun j => decide (j ∈ ns)) c))
theorem cr_setI (hc : X.calm = true) : CallR X (.type "set") (rSetI X.K X.w) := by
  intro pins s σ H vs us Q I r h
  obtain ⟨l, ns, rfl, hl, ln, q⟩ := h
  rw [Vals.ref1 r]
  have hn : H s.heap.objs.size = none := I.hok.fresh (Nat.le_refl _)
  rcases hl with hl | hl
  · obtain ⟨its, rv, pl, hz⟩ := I.list hl
    have hlen : its.length = ns.length := by
      have := rv.length
      rw [List.length_map] at this
      exact this.symm
    refine set_listI ns (I.ok.hd hc) pl.isList (show IntsAre its.toArray.toList ns from intsAre_of rv) (by unfold scanBound; omega) fun h' tk c so lc kp => ?_
    exact ⟨.ref s.heap.objs.size, upd H s.heap.objs.size (SetO X.w s.heap.objs.size _ c), I.laid (t' := tk) (fun b o e => kp b o (Heap.lt_size e) e) (Nat.le_refl _) (setO_new so), rfl, q _ _ hn (by rw [← hlen]; simpa using lc)⟩
  · obtain ⟨its, rv, pt, hz⟩ := I.tuple hl
    refine call_set_tupI ns (I.ok.hd hc) (show s.heap.IsTuple l its.toArray from pt) (intsAre_of rv) (by unfold scanBound; omega) fun h' tk c so lc kp => ?_
    exact ⟨.ref s.heap.objs.size, upd H s.heap.objs.size (SetO X.w s.heap.objs.size _ c), I.laid (t' := tk) kp (Nat.le_refl _) (setO_new so), rfl, q _ _ hn lc⟩
end
end SD

set_option maxRecDepth 100000
set_option maxHeartbeats 4000000
/-! sums, greatest and least of tuples, with a default, of four; a tuple of ints in a message -/
namespace RU
open PySem PySem.Spec PyProof.Rows L2
section
variable {prog : Program} {w : World} {A : Around} {E : Value → Shared → Prop} {s : Shared} {l : Addr} {its : List Value} {ns : List Int} {Q : Value → Shared → Prop}
theorem walk_tupI {xs : Array (Int × Tok)} (hl : s.heap.IsTuple l (intItems xs)) {Q : Value → Shared → Prop}
    (h : (∀ b ∈ [s.heap.objs.size, l], b < (s.heap.push { cls := .type "tuple_iterator", data := .fields #[.ref l, .int 0 0] }).objs.size) → l ≠ s.heap.objs.size → (s.heap.push { cls := .type "tuple_iterator", data := .fields #[.ref l, .int 0 0] }).IsTuple l (intItems xs) → Q (.ref s.heap.objs.size) { s with heap := s.heap.push { cls := .type "tuple_iterator", data := .fields #[.ref l, .int 0 0] } }) :
    wpAny (model prog w) A (pyIter (.ref l)) Q E s := by
  have hlt : l < s.heap.objs.size := by
    obtain ⟨o, ho, _⟩ := hl
    exact Heap.lt_size ho
  refine wpAny_pyIter_tuple hl (h (fun b hb => ?_) (Nat.ne_of_lt hlt) (hl.push _))
  rw [Heap.size_push]
  rcases List.mem_cons.mp hb with z | z
  · omega
  · rw [List.mem_singleton.mp z]; exact Nat.lt_succ_of_lt hlt
theorem old_of {h h' : Heap} {o : Obj} (hk : ∀ b u, b ∉ [h.objs.size] → (h.push o).get? b = some u → h'.get? b = some u) : ∀ b u, h.get? b = some u → h'.get? b = some u := fun b u e =>
  hk b u (fun z => absurd (Heap.lt_size e) (by rw [List.mem_singleton.mp z]; exact Nat.lt_irrefl _)) (Heap.get?_push_of_some _ e)
theorem sum_tupI (hh : A.handled = none) (hl : s.heap.IsTuple l its.toArray) (hi : IntsAre its ns)
    (h : ∀ h' tk t', (∀ b o, s.heap.get? b = some o → h'.get? b = some o) → Q (.int ns.sum t') { s with heap := h', toks := tk }) : wpAny (model prog w) A (call (.builtin "sum") [.ref l]) Q E s := by
  obtain ⟨xs, e⟩ := hi.allInts.items
  have hn : numsOf (intItems xs).toList = ns := by rw [← e]; exact hi.numsOf
  rw [nums_intItems] at hn
  rw [e] at hl
  refine call_sum_walkG (walk_tupI hl fun hfp hlI hl2 => ?_)
  refine ⟨_, _, _, _, _, _, numAt xs, rfl, Walks.tuple (A := A.in1) hh _ l hlI (intItems xs), ⟨⟨_, Heap.get?_push_size _ rfl, rfl, rfl⟩, hl2⟩, hfp, (fun _ _ => intItems_at), fun h' tk t' hk => ?_⟩
  have := h h' tk t' (old_of hk)
  have hz : (intItems xs).size = xs.size := by simp [intItems]
  rw [hz, preSum_eq, List.take_of_length_le (by simp), hn]
  exact this
theorem max_tupI (hh : A.handled = none) (hl : s.heap.IsTuple l its.toArray) (hi : IntsAre its ns) (hne : 0 < ns.length)
    (h : ∀ h' tk M t', (∀ b o, s.heap.get? b = some o → h'.get? b = some o) → M ∈ ns → (∀ a, a ∈ ns → a ≤ M) → Q (.int M t') { s with heap := h', toks := tk }) : wpAny (model prog w) A (call (.builtin "max") [.ref l]) Q E s := by
  obtain ⟨xs, e⟩ := hi.allInts.items
  have hn : numsOf (intItems xs).toList = ns := by rw [← e]; exact hi.numsOf
  rw [nums_intItems] at hn
  subst hn
  rw [e] at hl
  have hsz : 0 < xs.size := by simpa using hne
  refine call_max_walk (walk_tupI hl fun hfp hlI hl2 => ?_)
  refine ⟨_, _, _, _, _, _, _, rfl, Walks.tuple (A := A.in1) hh _ l hlI (intItems xs), ⟨⟨_, Heap.get?_push_size _ rfl, rfl, rfl⟩, hl2⟩, hfp, by simpa [intItems] using hsz, CmpOf.ints_gt (numAt xs) (fun _ _ => intItems_at), fun v h' tk hP hk => ?_⟩
  have hv : (intItems xs)[argBest (fun i j => decide (numAt xs i > numAt xs j)) (xs.size - 1)]? = some v := by simpa [intItems] using hP
  obtain ⟨t, rfl⟩ := intItems_at hv
  obtain ⟨h1, h2⟩ := argBest_gt (numAt xs) (xs.size - 1)
  refine h h' tk _ t (old_of hk) ?_ fun a ha => ?_
  · rw [numAt_eq]; exact PySem.getD_mem (by rw [List.length_map, Array.length_toList]; omega)
  · obtain ⟨j, hj, rfl⟩ := mem_getD ha
    rw [List.length_map, Array.length_toList] at hj
    rw [← numAt_eq]; exact h2 j (by omega)
theorem args_min4 (a b c d : Value) : argsOk "min" ⟨[a, b, c, d], []⟩ := by unfold argsOk; kernel_rfl
theorem min_four {a b c d : Int} {ta tb tc td : Tok} (hh : A.handled = none)
    (h : ∀ h' tk M t', (∀ b o, s.heap.get? b = some o → h'.get? b = some o) → M ∈ [a, b, c, d] → (∀ x, x ∈ [a, b, c, d] → M ≤ x) → Q (.int M t') { s with heap := h', toks := tk }) :
    wpAny (model prog w) A (call (.builtin "min") [.int a ta, .int b tb, .int c tc, .int d td]) Q E s := by
  have hname : (toString "min" ++ toString ".loop" : String) = "min.loop" := by decide
  refine call_function_tree F.kind_min F.plain_min F.entry_min (args_min4 _ _ _ _) ?_
  show wpAny _ A.in1 (Builtin.Builtins.bindParams "min" ["key", "default"] 0 ⟨[], []⟩ >>= _) _ _ s
  refine wpAny_bind (wpAny_of_eq (show Builtin.Builtins.bindParams "min" ["key", "default"] 0 ⟨[], []⟩ = pure [none, none] from rfl) ?_)
  show wpAny _ A.in1 (newTuple [.int a ta, .int b tb, .int c tc, .int d td] >>= _) _ _ s
  refine wpAny_bind (wpAny_newObj_type ?_)
  generalize hxs : (#[(a, ta), (b, tb), (c, tc), (d, td)] : Array (Int × Tok)) = xs
  have e4 : intItems xs = #[.int a ta, .int b tb, .int c tc, .int d td] := by rw [← hxs]; simp [intItems]
  have hT : (s.heap.push { cls := .type "tuple", data := .seq [Value.int a ta, .int b tb, .int c tc, .int d td].toArray }).IsTuple s.heap.objs.size (intItems xs) := ⟨_, Heap.get?_push_size _ rfl, rfl, 0, by rw [e4]⟩
  refine wpAny_bind (walk_tupI (s := { s with heap := s.heap.push { cls := .type "tuple", data := .seq [Value.int a ta, .int b tb, .int c tc, .int d td].toArray } }) hT fun hfp hlI hl2 => ?_)
  refine wpAny_bind (wpAny_newObj_type ?_)
  rw [hname]
  have W := Walks.tuple (prog := prog) (w := w) (A := A.in1) hh (s.heap.push { cls := .type "tuple", data := .seq [Value.int a ta, .int b tb, .int c tc, .int d td].toArray }).objs.size s.heap.objs.size hlI (intItems xs)
  generalize hH : (s.heap.push { cls := .type "tuple", data := .seq [Value.int a ta, .int b tb, .int c tc, .int d td].toArray }) = H1 at *
  have hz1 : H1.objs.size = s.heap.objs.size + 1 := by rw [← hH]; exact Heap.size_push _ _
  have hz2 : (H1.push { cls := .type "tuple_iterator", data := .fields #[.ref s.heap.objs.size, .int 0 0] }).objs.size = H1.objs.size + 1 := Heap.size_push _ _
  have hSf : (H1.push { cls := .type "tuple_iterator", data := .fields #[.ref s.heap.objs.size, .int 0 0] }).objs.size ∉ [H1.objs.size, s.heap.objs.size] := fun hm => Nat.lt_irrefl _ (hfp _ hm)
  refine wpAny_pure ⟨plainId_quiet F.plain_min_loop _, codeAny_min_loop_first W (fun i j => decide (numAt xs i < numAt xs j)) (CmpOf.ints_lt (numAt xs) (fun _ _ => intItems_at)) _ hSf (by rw [e4]; simp) (W.frame _ _ _ ⟨⟨_, Heap.get?_push_size _ rfl, rfl, rfl⟩, hl2⟩ fun b _ o e => Heap.get?_push_of_some _ e) (Heap.get?_push_size _ rfl) fun v h' tk hP hk => ?_⟩
  have hsz : xs.size = 4 := by rw [← hxs]; rfl
  have hv : (intItems xs)[argBest (fun i j => decide (numAt xs i < numAt xs j)) (xs.size - 1)]? = some v := by
    have : (intItems xs).size = xs.size := by simp [intItems]
    rw [this] at hP
    exact hP
  obtain ⟨t, rfl⟩ := intItems_at hv
  obtain ⟨h1, h2⟩ := argBest_lt (numAt xs) (xs.size - 1)
  have en : [a, b, c, d] = xs.toList.map (·.1) := by rw [← hxs]; rfl
  refine h h' tk _ t (fun x o e => ?_) ?_ fun y hy => ?_
  · have lt := Heap.lt_size e
    refine hk x o (fun z => ?_) (fun z => ?_) (Heap.get?_push_of_some _ (Heap.get?_push_of_some _ ?_))
    · have z2 : x = H1.objs.size := List.mem_singleton.mp z
      rw [z2, hz1] at lt
      exact Nat.lt_irrefl _ (Nat.lt_of_succ_lt lt)
    · have z2 : x = (H1.push { cls := .type "tuple_iterator", data := .fields #[.ref s.heap.objs.size, .int 0 0] }).objs.size := z
      rw [z2, hz2, hz1] at lt
      exact Nat.lt_irrefl _ (Nat.lt_of_succ_lt (Nat.lt_of_succ_lt lt))
    · rw [← hH]; exact Heap.get?_push_of_some _ e
  · rw [en, numAt_eq]; exact PySem.getD_mem (by rw [List.length_map, Array.length_toList]; omega)
  · rw [en] at hy
    obtain ⟨j, hj, rfl⟩ := mem_getD hy
    rw [List.length_map, Array.length_toList] at hj
    rw [← numAt_eq]; exact h2 j (by omega)
end
section
variable {X : Cx}
/-- sum(t), t of ints -/
def rSumT (K : PySem.W.Frag) : List V → Hp → VK → Prop := fun vs H Q => ∃ (a : Addr) (ns : List Int), vs = [V.ref a] ∧ SqT K H a (ns.map V.int) ∧ Q (.int ns.sum) H
theorem cr_sumT (hc : X.calm = true) : CallR X (.builtin "sum") (rSumT X.K) := by
  intro pins s σ H vs us Q I r h
  obtain ⟨a, ns, rfl, hs, q⟩ := h
  obtain ⟨its, rv, hl, _⟩ := I.tuple hs
  rw [Vals.ref1 r]
  exact sum_tupI (I.ok.hd hc) hl rv.ints fun h' tk t' hk => ⟨.int _, H, I.kept hk, ⟨_, rfl⟩, q⟩
def rMaxT (K : PySem.W.Frag) : List V → Hp → VK → Prop := fun vs H Q => ∃ (a : Addr) (ns : List Int), vs = [V.ref a] ∧ SqT K H a (ns.map V.int) ∧ 0 < ns.length ∧ ∀ m, m ∈ ns → (∀ y, y ∈ ns → y ≤ m) → Q (.int m) H
theorem cr_maxT (hc : X.calm = true) : CallR X (.builtin "max") (rMaxT X.K) := by
  intro pins s σ H vs us Q I r h
  obtain ⟨a, ns, rfl, hs, hne, q⟩ := h
  obtain ⟨its, rv, hl, _⟩ := I.tuple hs
  rw [Vals.ref1 r]
  exact max_tupI (I.ok.hd hc) hl rv.ints hne fun h' tk m t' hk h1 h2 => ⟨.int _, H, I.kept hk, ⟨_, rfl⟩, q m h1 h2⟩
/-- min(a, b, c, d) -/
def rMin4 : List V → Hp → VK → Prop := fun vs H Q => ∃ a b c d : Int, vs = [.int a, .int b, .int c, .int d] ∧ ∀ m, m ∈ [a, b, c, d] → (∀ y, y ∈ [a, b, c, d] → m ≤ y) → Q (.int m) H
theorem cr_min4 (hc : X.calm = true) : CallR X (.builtin "min") rMin4 := by
  intro pins s σ H vs us Q I r h
  obtain ⟨a, b, c, d, rfl, q⟩ := h
  cases r with
  | cons r1 r => cases r with
    | cons r2 r => cases r with
      | cons r3 r => cases r with
        | cons r4 r =>
          cases r
          obtain ⟨_, rfl⟩ := r1
          obtain ⟨_, rfl⟩ := r2
          obtain ⟨_, rfl⟩ := r3
          obtain ⟨_, rfl⟩ := r4
          exact min_four (I.ok.hd hc) fun h' tk m t' hk h1 h2 => ⟨.int _, H, I.kept hk, ⟨_, rfl⟩, q m h1 h2⟩
/-- max(xs, default=d), xs of ints -/
def rMaxDf (K : PySem.W.Frag) : List V → List V → Hp → VK → Prop := fun vs zs H Q => ∃ (a : Addr) (ns : List Int) (d : Int), vs = [V.ref a] ∧ zs = [.int d] ∧ SqL K H a (ns.map V.int) ∧ (ns = [] → Q (.int d) H) ∧ ∀ m, m ∈ ns → (∀ y, y ∈ ns → y ≤ m) → Q (.int m) H
theorem maxOf_is (x : Int) (xs : List Int) : PySem.W.maxOf x xs ∈ x :: xs ∧ ∀ y ∈ x :: xs, y ≤ PySem.W.maxOf x xs := by
  induction xs generalizing x with
  | nil =>
    refine ⟨List.mem_cons_self .., fun y hy => ?_⟩
    rw [List.mem_singleton.mp hy]
    exact Int.le_refl _
  | cons z r ih =>
    have e : PySem.W.maxOf x (z :: r) = PySem.W.maxOf (if decide (x < z) = true then z else x) r := rfl
    rw [e]
    obtain ⟨h1, h2⟩ := ih (if decide (x < z) = true then z else x)
    have h3 := h2 _ (List.mem_cons_self ..)
    refine ⟨?_, fun y hy => ?_⟩
    · rcases List.mem_cons.mp h1 with q | q
      · rw [q]
        split
        · exact List.mem_cons_of_mem _ (List.mem_cons_self ..)
        · exact List.mem_cons_self ..
      · exact List.mem_cons_of_mem _ (List.mem_cons_of_mem _ q)
    · have hx : x ≤ PySem.W.maxOf (if decide (x < z) = true then z else x) r ∧ z ≤ PySem.W.maxOf (if decide (x < z) = true then z else x) r := by
        by_cases c : x < z
        · rw [if_pos (by simpa using c)] at h3 ⊢
          omega
        · rw [if_neg (by simpa using c)] at h3 ⊢
          omega
      rcases List.mem_cons.mp hy with q | q
      · rw [q]; exact hx.1
      · rcases List.mem_cons.mp q with q | q
        · rw [q]; exact hx.2
        · exact h2 y (List.mem_cons_of_mem _ q)
theorem cr_maxDf (hc : X.calm = true) (hu : X.A.units + 64 < cLine) : CallRK X (.builtin "max") [Str.ofString "default"] (rMaxDf X.K) := by
  intro pins s σ H vs zs us ws Q I r rz h
  obtain ⟨a, ns, d, rfl, rfl, hs, q0, q1⟩ := h
  obtain ⟨its, rv, hl, _⟩ := I.list hs
  rw [Vals.ref1 r]
  cases rz with
  | cons r1 rr =>
    cases rr
    obtain ⟨td, rfl⟩ := r1
    show wpAny _ _ (call (.builtin "max") [.ref a] [(Str.ofString "default", .int d td)]) _ _ _
    refine PySem.W.max_list_datum_default (α := Int) (xs := ns) (I.ok.hd hc) hl.isList (PySem.W.HoldAll.of_ints (by simpa using rv.ints)) (by show X.A.units + 1 + 0 < cLine; omega) (fun e h' tk hk => ⟨.int d, H, I.kept hk, ⟨_, rfl⟩, q0 e⟩) fun y ys i v h' tk e hi hv hk => ?_
    have hi2 : its[i]? = some v := by simpa using hi
    obtain ⟨x, hx, rx⟩ : ∃ x, (ns.map V.int)[i]? = some x ∧ RelV x v := by
      have hlen := rv.length
      have hlt : i < (ns.map V.int).length := by
        rw [hlen]
        exact (List.getElem?_eq_some_iff.mp hi2).1
      obtain ⟨u, hu2, ru⟩ := rv.get (List.getElem?_eq_getElem hlt)
      rw [hi2] at hu2
      cases hu2
      exact ⟨_, List.getElem?_eq_getElem hlt, ru⟩
    rw [List.getElem?_map] at hx
    obtain ⟨m, hm, rfl⟩ := Option.map_eq_some_iff.mp hx
    obtain ⟨tm, rfl⟩ := rx
    obtain ⟨as, hr⟩ := hv
    have em : m = PySem.W.maxOf y ys := by
      have hr : Reads h' (.int m tm) (.int (PySem.W.maxOf y ys)) as := hr
      cases hr
      rfl
    obtain ⟨m1, m2⟩ := maxOf_is y ys
    rw [← em, ← e] at m1
    refine ⟨.int m, H, I.kept hk, ⟨_, rfl⟩, q1 m m1 fun z hz => ?_⟩
    rw [em]
    rw [e] at hz
    exact m2 z hz
/-- {t} of a tuple of ints: some text -/
def tFmtTI (K : PySem.W.Frag) (te : TE) : TE := fun σ H Q => te σ H fun x H1 => ∃ (a : Addr) (l : List Int), x = .ref a ∧ SqT K H1 a (l.map V.int) ∧ l.length ≤ 10 ∧ (∀ i ∈ l, XT.Sm i) ∧ ∀ m : Str, m.length ≤ 20000 → Q (.str m) H1
theorem repr_ints {prog : Program} {w : World} : ∀ {l : List Int} {its : List Value}, Vals (l.map V.int) its → (∀ i ∈ l, XT.Sm i) → ReprAll prog w its (l.map fun i => (toString i : Str))
  | [], _, r, _ => by
    cases r
    exact .nil
  | y :: l, _, r, h => by
    cases r with
    | cons r1 r2 =>
      obtain ⟨t, rfl⟩ := r1
      exact .cons (ReprIs.int t (h y (List.mem_cons_self ..)).log) (repr_ints r2 fun z hz => h z (List.mem_cons_of_mem _ hz))
theorem piled_ints : ∀ l : List Int, (∀ i ∈ l, XT.Sm i) → piled (l.map fun i => (toString i : Str)) ≤ 1010 * l.length
  | [], _ => Nat.zero_le _
  | y :: r, h => by
    rw [List.map_cons, piled_cons, List.length_cons]
    have h1 : (toString y : Str).length ≤ 1000 := (h y (List.mem_cons_self ..)).text
    have h2 := piled_ints r fun z hz => h z (List.mem_cons_of_mem _ hz)
    omega
theorem pe_fmtTI {e : Expr} {te : TE} {pos : Pos} {k : Nat} (hr : Room k X.A) (he : PE X e te) : PE X (.FormattedValue e (-1) none pos) (tFmtTI X.K te) := by
  refine ⟨fun pins s σ H Q I h => ?_⟩
  refine wpAny_FormattedValue_plain (thn (he.run pins s σ H _ I h) fun v s1 hv => ?_)
  obtain ⟨x, H1, I1, r1, a, l, rfl, ht, hl, hb, q⟩ := hv
  cases r1
  obtain ⟨its, rv, ⟨o, ho, hcl, n, hd⟩, _⟩ := I1.tuple ht
  have hu := hr.units
  have hp := piled_ints l hb
  have htx := fmt_text (l.map fun i => (toString i : Str))
  have big : 20000 ≤ sizeLine := by decide
  refine fmt_tuple (ts := l.map fun i => (toString i : Str)) (by omega) ho hcl hd (repr_ints rv hb) (by omega) fun m u tk hm => ⟨.str m, H1, I1.tok _, ⟨u, rfl⟩, q m (by omega)⟩
end
end RU

set_option maxRecDepth 100000
set_option maxHeartbeats 4000000
/-! for pair in zip(tuple, tuple): the pairs are kept by a name -/
namespace RU
open PySem PySem.Spec PyProof.Rows L2 RZ
section
variable {prog : Program} {w : World} {A : Around} {E : Value → Shared → Prop} {s : Shared}
theorem pair_next {g u1 u2 T j1 j2 a b : Addr} {f : Bool} {oT : Obj} {n1 n2 : Nat} {us vs : Array Value} {x y : Value} {Q : Value → Shared → Prop} (D : ZipApart g u1 u2 j1 j2 a b)
    (ig : IsZipHeld s.heap g u1 u2 T f) (iT : s.heap.get? T = some oT) (iu : IsPair s.heap u1 (.ref j1) (.ref j2)) (i1 : s.heap.IsTupleIter j1 a n1) (i2 : s.heap.IsTupleIter j2 b n2) (ia : s.heap.IsTuple a us) (ib : s.heap.IsTuple b vs) (ex : us[n1]? = some x) (ey : vs[n2]? = some y)
    (k : ∀ h', IsZipHeld h' g u1 u2 T true → h'.IsTupleIter j1 a (n1 + 1) → h'.IsTupleIter j2 b (n2 + 1) → IsPair h' s.heap.objs.size x y → (∀ c o, c ≠ g → c ≠ j1 → c ≠ j2 → s.heap.get? c = some o → h'.get? c = some o) → Q (.ref s.heap.objs.size) { s with heap := h' }) :
    wpAny (model prog w) A (Builtin.«zip.__next__» ⟨[.ref g], []⟩) (fun fin t => ∃ v, fin = .done (.ret v) ∧ Q v t) E s := by
  show wpAny _ _ (field (.ref g) 2 >>= _) _ _ _
  refine wpAny_bind (wpAny_field ig rfl (x := .bool false) rfl ?_)
  show wpAny _ _ (field (.ref g) 3 >>= _) _ _ _
  refine wpAny_bind (wpAny_field ig rfl (x := .ref u1) rfl ?_)
  refine wpAny_bind (wpAny_seqItems iu rfl ?_)
  show wpAny _ _ (Builtin.SmallTypes.ownedTupleIsFree (.ref g) >>= _) _ _ _
  refine wpAny_bind (wpAny_tupleHeld_zip ig iT fun m1 ig1 b1 => ?_)
  simp only [if_false, Bool.false_eq_true]
  refine wpAny_bind ?_
  rw [← Array.forIn_toList]
  simp only [List.forIn_nil, List.forIn_cons]
  refine wpAny_bind (wpAny_bind (wpAny_holding ?_))
  show wpAny _ _ (Builtin.SmallTypes.nextOf (.ref j1) >>= _) _ _ _
  refine wpAny_bind (nextOf_tuple_item (s := { s with heap := m1 }) (i1.extBut b1.extBut D.i1z) (ia.extBut b1.extBut D.l1z) ex fun m2 i1' b2 => wpAny_pure ?_)
  refine wpAny_pure ?_
  refine wpAny_bind (wpAny_bind (wpAny_holding ?_))
  show wpAny _ _ (Builtin.SmallTypes.nextOf (.ref j2) >>= _) _ _ _
  refine wpAny_bind (nextOf_tuple_item (s := { s with heap := m2 }) ((i2.extBut b1.extBut D.i2z).extBut b2.extBut D.i12.symm) ((ib.extBut b1.extBut D.l2z).extBut b2.extBut D.l2i1) ey fun m3 i2' b3 => wpAny_pure ?_)
  refine wpAny_pure (wpAny_pure ?_)
  show wpAny _ _ (newTuple [x, y] >>= _) _ _ _
  refine wpAny_bind (wpAny_newTuple ?_)
  have z3 : m3.objs.size = s.heap.objs.size := by rw [b3.1, b2.1, b1.1]
  have ig3 : IsZipHeld m3 g u1 u2 T true := b3.extBut _ _ D.i2z.symm (b2.extBut _ _ D.i1z.symm ig1)
  have i13 : m3.IsTupleIter j1 a (n1 + 1) := i1'.extBut b3.extBut D.i12
  refine wpAny_pure ⟨_, rfl, ?_⟩
  show Q (.ref m3.objs.size) _
  have pr : IsPair (m3.push { cls := .type "tuple", data := .seq #[x, y] }) m3.objs.size x y := Heap.get?_push_size _ rfl
  rw [z3] at pr ⊢
  exact k _ (Heap.get?_push_of_some _ ig3) (i13.at fun _ e => Heap.get?_push_of_some _ e) (i2'.at fun _ e => Heap.get?_push_of_some _ e) pr fun c o c1 c2 c3 e => Heap.get?_push_of_some _ (b3.extBut _ _ c3 (b2.extBut _ _ c2 (b1.extBut _ _ c1 e)))
theorem pair_end {g u1 u2 T j1 j2 a b : Addr} {f : Bool} {oT : Obj} {n1 n2 : Nat} {us vs : Array Value} {Q : Fin → Shared → Prop} (hh : A.handled = none) (D : ZipApart g u1 u2 j1 j2 a b)
    (ig : IsZipHeld s.heap g u1 u2 T f) (iT : s.heap.get? T = some oT) (iu : IsPair s.heap u1 (.ref j1) (.ref j2)) (i1 : s.heap.IsTupleIter j1 a n1) (i2 : s.heap.IsTupleIter j2 b n2) (ia : s.heap.IsTuple a us) (ib : s.heap.IsTuple b vs) (stop : us[n1]? = none ∨ vs[n2]? = none)
    (k : ∀ h' e, (∀ c o, c ≠ g → c ≠ j1 → c ≠ j2 → s.heap.get? c = some o → h'.get? c = some o) → (∃ o, h'.get? e = some o ∧ o.cls = .type "StopIteration") → E (.ref e) { s with heap := h' }) :
    wpAny (model prog w) A (Builtin.«zip.__next__» ⟨[.ref g], []⟩) Q E s := by
  show wpAny _ _ (field (.ref g) 2 >>= _) _ _ _
  refine wpAny_bind (wpAny_field ig rfl (x := .bool false) rfl ?_)
  show wpAny _ _ (field (.ref g) 3 >>= _) _ _ _
  refine wpAny_bind (wpAny_field ig rfl (x := .ref u1) rfl ?_)
  refine wpAny_bind (wpAny_seqItems iu rfl ?_)
  show wpAny _ _ (Builtin.SmallTypes.ownedTupleIsFree (.ref g) >>= _) _ _ _
  refine wpAny_bind (wpAny_tupleHeld_zip ig iT fun m1 ig1 b1 => ?_)
  simp only [if_false, Bool.false_eq_true]
  refine wpAny_bind ?_
  rw [← Array.forIn_toList]
  simp only [List.forIn_nil, List.forIn_cons]
  refine wpAny_bind (wpAny_bind (wpAny_holding ?_))
  show wpAny _ _ (Builtin.SmallTypes.nextOf (.ref j1) >>= _) _ _ _
  cases ex : us[n1]? with
  | none => exact wpAny_bind (nextOf_tuple_end (s := { s with heap := m1 }) hh (i1.extBut b1.extBut D.i1z) (ia.extBut b1.extBut D.l1z) ex fun m2 e b2 he => k m2 e (fun c o c1 c2 _ q => b2 _ _ c2 (b1.extBut _ _ c1 q)) he)
  | some x =>
    have ey : vs[n2]? = none := stop.elim (fun q => by rw [ex] at q; cases q) id
    refine wpAny_bind (nextOf_tuple_item (s := { s with heap := m1 }) (i1.extBut b1.extBut D.i1z) (ia.extBut b1.extBut D.l1z) ex fun m2 i1' b2 => wpAny_pure ?_)
    refine wpAny_pure ?_
    refine wpAny_bind (wpAny_bind (wpAny_holding ?_))
    show wpAny _ _ (Builtin.SmallTypes.nextOf (.ref j2) >>= _) _ _ _
    exact wpAny_bind (nextOf_tuple_end (s := { s with heap := m2 }) hh ((i2.extBut b1.extBut D.i2z).extBut b2.extBut D.i12.symm) ((ib.extBut b1.extBut D.l2z).extBut b2.extBut D.l2i1) ey fun m3 e b3 he => k m3 e (fun c o c1 c2 c3 q => b3 _ _ c3 (b2.extBut _ _ c2 (b1.extBut _ _ c1 q))) he)
/-- the zip g: what it keeps in its first two fields -/
abbrev ZipF (h : Heap) (g u1 u2 : Addr) (f0 : Value) (f : Bool) : Prop := h.get? g = some { cls := .type "zip", dict := none, data := .fields #[f0, .bool f, .bool false, .ref u1, .ref u2], slots := #[] }
def Free0 (h : Heap) (f0 : Value) : Prop := f0 = .none ∨ ∃ T : Addr, f0 = rawInt T ∧ h.get? T = none
theorem free_at {g u1 u2 : Addr} {f0 : Value} {f : Bool} {Q : Bool → Shared → Prop} (ig : ZipF s.heap g u1 u2 f0 f) (fr : Free0 s.heap f0) (k : Q true s) : wpAny (model prog w) A (Builtin.SmallTypes.ownedTupleIsFree (.ref g)) Q E s := by
  unfold Builtin.SmallTypes.ownedTupleIsFree
  refine wpAny_bind (wpAny_field ig rfl (x := f0) rfl ?_)
  rcases fr with rfl | ⟨T, rfl, dead⟩
  · exact wpAny_pure k
  · show wpAny _ _ (loadIfAlive ((T : Int).toNat) >>= _) _ _ _
    rw [Int.toNat_natCast]
    have al : ∀ {R : Option Obj → Shared → Prop}, R none s → wpAny (model prog w) A (loadIfAlive T) R E s := fun q Γ p _ => by
      unfold loadIfAlive
      rw [Sem.wp_loadIfAlive, dead]
      exact q
    exact wpAny_bind (al (wpAny_pure k))
theorem free_next {g u1 u2 j1 j2 a b : Addr} {f0 p q : Value} {f : Bool} {n1 n2 : Nat} {us vs : Array Value} {x y : Value} {Q : Value → Shared → Prop} (D : ZipApart g u1 u2 j1 j2 a b)
    (ig : ZipF s.heap g u1 u2 f0 f) (fr : Free0 s.heap f0) (iu : IsPair s.heap u1 (.ref j1) (.ref j2)) (iw : IsPair s.heap u2 p q) (i1 : s.heap.IsTupleIter j1 a n1) (i2 : s.heap.IsTupleIter j2 b n2) (ia : s.heap.IsTuple a us) (ib : s.heap.IsTuple b vs) (ex : us[n1]? = some x) (ey : vs[n2]? = some y)
    (k : ∀ h', ZipF h' g u1 u2 (rawInt s.heap.objs.size) false → IsPair h' u2 x y → h'.IsTupleIter j1 a (n1 + 1) → h'.IsTupleIter j2 b (n2 + 1) → IsPair h' s.heap.objs.size x y → (∀ c o, c ≠ g → c ≠ u2 → c ≠ j1 → c ≠ j2 → s.heap.get? c = some o → h'.get? c = some o) → Q (.ref s.heap.objs.size) { s with heap := h' }) :
    wpAny (model prog w) A (Builtin.«zip.__next__» ⟨[.ref g], []⟩) (fun fin t => ∃ v, fin = .done (.ret v) ∧ Q v t) E s := by
  show wpAny _ _ (field (.ref g) 2 >>= _) _ _ _
  refine wpAny_bind (wpAny_field ig rfl (x := .bool false) rfl ?_)
  show wpAny _ _ (field (.ref g) 3 >>= _) _ _ _
  refine wpAny_bind (wpAny_field ig rfl (x := .ref u1) rfl ?_)
  refine wpAny_bind (wpAny_seqItems iu rfl ?_)
  show wpAny _ _ (Builtin.SmallTypes.ownedTupleIsFree (.ref g) >>= _) _ _ _
  refine wpAny_bind (free_at ig fr ?_)
  simp only [if_true]
  refine wpAny_bind (wpAny_rule ?_)
  refine wpAny_bind (wpAny_field ig rfl (x := .ref u2) rfl ?_)
  refine wpAny_bind (wpAny_setField_rec ig (by simp) fun m1 ig1 b1 => ?_)
  replace ig1 : ZipF m1 g u1 u2 .ellipsis f := ig1
  refine wpAny_bind ?_
  simp only [List.forIn_cons, List.forIn_nil, List.zipIdx_cons, List.zipIdx_nil]
  refine wpAny_bind (wpAny_bind (wpAny_onRaise ?_))
  show wpAny _ _ (Builtin.SmallTypes.nextOf (.ref j1) >>= _) _ _ _
  refine wpAny_bind (nextOf_tuple_item (i1.extBut b1.extBut D.i1z) (ia.extBut b1.extBut D.l1z) ex fun m2 i1' b2 => wpAny_pure ?_)
  have iw2 : IsPair m2 u2 p q := b2.extBut _ _ D.TOi1 (b1.extBut _ _ D.TOz iw)
  refine wpAny_bind (wpAny_seqItems iw2 rfl ?_)
  refine wpAny_bind (wpAny_updateSeq_pair iw2 fun m3 iw3 b3 => ?_)
  replace iw3 : IsPair m3 u2 x q := iw3
  refine wpAny_bind (wpAny_letGo (wpAny_pure ?_))
  refine wpAny_bind (wpAny_bind (wpAny_onRaise ?_))
  show wpAny _ _ (Builtin.SmallTypes.nextOf (.ref j2) >>= _) _ _ _
  refine wpAny_bind (nextOf_tuple_item (((i2.extBut b1.extBut D.i2z).extBut b2.extBut D.i12.symm).extBut b3.extBut D.TOi2.symm) (((ib.extBut b1.extBut D.l2z).extBut b2.extBut D.l2i1).extBut b3.extBut D.l2TO) ey fun m4 i2' b4 => wpAny_pure ?_)
  have iw4 : IsPair m4 u2 x q := b4.extBut _ _ D.TOi2 iw3
  refine wpAny_bind (wpAny_seqItems iw4 rfl ?_)
  refine wpAny_bind (wpAny_updateSeq_pair iw4 fun m5 iw5 b5 => ?_)
  replace iw5 : IsPair m5 u2 x y := iw5
  refine wpAny_bind (wpAny_letGo (wpAny_pure (wpAny_pure ?_)))
  refine wpAny_bind (wpAny_seqItems iw5 rfl ?_)
  refine wpAny_bind (wpAny_newTuple ?_)
  have z5 : m5.objs.size = s.heap.objs.size := by rw [b5.1, b4.1, b3.1, b2.1, b1.1]
  have ig5 : ZipF m5 g u1 u2 .ellipsis f := b5.extBut _ _ D.TOz.symm (b4.extBut _ _ D.i2z.symm (b3.extBut _ _ D.TOz.symm (b2.extBut _ _ D.i1z.symm ig1)))
  have k5 : ∀ c o, c ≠ g → c ≠ u2 → c ≠ j1 → c ≠ j2 → s.heap.get? c = some o → m5.get? c = some o := fun c o c1 c2 c3 c4 e => b5.extBut _ _ c2 (b4.extBut _ _ c4 (b3.extBut _ _ c2 (b2.extBut _ _ c3 (b1.extBut _ _ c1 e))))
  have i15 : m5.IsTupleIter j1 a (n1 + 1) := ((i1'.extBut b3.extBut D.TOi1.symm).extBut b4.extBut D.i12).extBut b5.extBut D.TOi1.symm
  have i25 : m5.IsTupleIter j2 b (n2 + 1) := i2'.extBut b5.extBut D.TOi2.symm
  have lg : g < m5.objs.size := Heap.lt_size ig5
  show wpAny _ _ (Builtin.SmallTypes.ownedTupleHandOut (.ref g) (.ref m5.objs.size) >>= _) _ _ _
  refine wpAny_bind ?_
  unfold Builtin.SmallTypes.ownedTupleHandOut
  have ig6 : ZipF (m5.push { cls := .type "tuple", data := .seq #[x, y] }) g u1 u2 .ellipsis f := Heap.get?_push_of_some _ ig5
  refine wpAny_bind (wpAny_setField_rec ig6 (by simp) fun m7 ig7 b7 => ?_)
  replace ig7 : ZipF m7 g u1 u2 (rawInt m5.objs.size) f := ig7
  refine wpAny_setField_rec ig7 (by simp) fun m8 ig8 b8 => ?_
  replace ig8 : ZipF m8 g u1 u2 (rawInt m5.objs.size) false := ig8
  have up : ∀ c o, c ≠ g → m5.get? c = some o → m8.get? c = some o := fun c o c1 e => b8.extBut _ _ c1 (b7.extBut _ _ c1 (Heap.get?_push_of_some _ e))
  have pr : IsPair m8 m5.objs.size x y := b8.extBut _ _ (Nat.ne_of_gt lg) (b7.extBut _ _ (Nat.ne_of_gt lg) (Heap.get?_push_size _ rfl))
  rw [z5] at ig8 pr
  refine wpAny_pure ⟨_, rfl, ?_⟩
  show Q (.ref m5.objs.size) _
  rw [z5]
  exact k m8 ig8 (up _ _ D.TOz iw5) (i15.at fun o e => up _ o D.i1z e) (i25.at fun o e => up _ o D.i2z e) pr fun c o c1 c2 c3 c4 e => up c o c1 (k5 c o c1 c2 c3 c4 e)
theorem free_end {g u1 u2 j1 j2 a b : Addr} {f0 p q : Value} {f : Bool} {n1 n2 : Nat} {us vs : Array Value} {Q : Fin → Shared → Prop} (hh : A.handled = none) (D : ZipApart g u1 u2 j1 j2 a b)
    (ig : ZipF s.heap g u1 u2 f0 f) (fr : Free0 s.heap f0) (iu : IsPair s.heap u1 (.ref j1) (.ref j2)) (iw : IsPair s.heap u2 p q) (i1 : s.heap.IsTupleIter j1 a n1) (i2 : s.heap.IsTupleIter j2 b n2) (ia : s.heap.IsTuple a us) (ib : s.heap.IsTuple b vs) (stop : us[n1]? = none ∨ vs[n2]? = none)
    (k : ∀ h' e, (∀ c o, c ≠ g → c ≠ u2 → c ≠ j1 → c ≠ j2 → s.heap.get? c = some o → h'.get? c = some o) → (∃ o, h'.get? e = some o ∧ o.cls = .type "StopIteration") → E (.ref e) { s with heap := h' }) :
    wpAny (model prog w) A (Builtin.«zip.__next__» ⟨[.ref g], []⟩) Q E s := by
  show wpAny _ _ (field (.ref g) 2 >>= _) _ _ _
  refine wpAny_bind (wpAny_field ig rfl (x := .bool false) rfl ?_)
  show wpAny _ _ (field (.ref g) 3 >>= _) _ _ _
  refine wpAny_bind (wpAny_field ig rfl (x := .ref u1) rfl ?_)
  refine wpAny_bind (wpAny_seqItems iu rfl ?_)
  show wpAny _ _ (Builtin.SmallTypes.ownedTupleIsFree (.ref g) >>= _) _ _ _
  refine wpAny_bind (free_at ig fr ?_)
  simp only [if_true]
  refine wpAny_bind (wpAny_rule ?_)
  refine wpAny_bind (wpAny_field ig rfl (x := .ref u2) rfl ?_)
  refine wpAny_bind (wpAny_setField_rec ig (by simp) fun m1 ig1 b1 => ?_)
  replace ig1 : ZipF m1 g u1 u2 .ellipsis f := ig1
  refine wpAny_bind ?_
  simp only [List.forIn_cons, List.forIn_nil, List.zipIdx_cons, List.zipIdx_nil]
  refine wpAny_bind (wpAny_bind (wpAny_onRaise ?_))
  show wpAny _ _ (Builtin.SmallTypes.nextOf (.ref j1) >>= _) _ _ _
  cases ex : us[n1]? with
  | none =>
    refine wpAny_bind (nextOf_tuple_end hh (i1.extBut b1.extBut D.i1z) (ia.extBut b1.extBut D.l1z) ex fun m2 e b2 he => ?_)
    obtain ⟨oe, h1, h2⟩ := he
    have ig2 : ZipF m2 g u1 u2 .ellipsis f := b2 _ _ D.i1z.symm ig1
    have ne : e ≠ g := fun z => by
      subst z
      rw [ig2] at h1
      cases h1
      simp at h2
    exact wpAny_setField_rec ig2 (by simp) fun m3 _ b3 => k m3 e (fun c o c1 _ c3 _ z => b3.extBut _ _ c1 (b2 _ _ c3 (b1.extBut _ _ c1 z))) ⟨oe, b3.extBut _ _ ne h1, h2⟩
  | some x =>
    have ey : vs[n2]? = none := stop.elim (fun q => by rw [ex] at q; cases q) id
    refine wpAny_bind (nextOf_tuple_item (i1.extBut b1.extBut D.i1z) (ia.extBut b1.extBut D.l1z) ex fun m2 i1' b2 => wpAny_pure ?_)
    have iw2 : IsPair m2 u2 p q := b2.extBut _ _ D.TOi1 (b1.extBut _ _ D.TOz iw)
    refine wpAny_bind (wpAny_seqItems iw2 rfl ?_)
    refine wpAny_bind (wpAny_updateSeq_pair iw2 fun m3 iw3 b3 => ?_)
    refine wpAny_bind (wpAny_letGo (wpAny_pure ?_))
    refine wpAny_bind (wpAny_bind (wpAny_onRaise ?_))
    show wpAny _ _ (Builtin.SmallTypes.nextOf (.ref j2) >>= _) _ _ _
    refine wpAny_bind (nextOf_tuple_end hh (((i2.extBut b1.extBut D.i2z).extBut b2.extBut D.i12.symm).extBut b3.extBut D.TOi2.symm) (((ib.extBut b1.extBut D.l2z).extBut b2.extBut D.l2i1).extBut b3.extBut D.l2TO) ey fun m4 e b4 he => ?_)
    obtain ⟨oe, h1, h2⟩ := he
    have ig4 : ZipF m4 g u1 u2 .ellipsis f := b4 _ _ D.i2z.symm (b3.extBut _ _ D.TOz.symm (b2.extBut _ _ D.i1z.symm ig1))
    have ne : e ≠ g := fun z => by
      subst z
      rw [ig4] at h1
      cases h1
      simp at h2
    exact wpAny_setField_rec ig4 (by simp) fun m5 _ b5 => k m5 e (fun c o c1 c2 c3 c4 z => b5.extBut _ _ c1 (b4 _ _ c4 (b3.extBut _ _ c2 (b2.extBut _ _ c3 (b1.extBut _ _ c1 z))))) ⟨oe, b5.extBut _ _ ne h1, h2⟩
/-- where the zip of two tuples stands -/
def ZSt (g u1 u2 j1 j2 a b : Addr) (i : Nat) (h : Heap) : Prop := IsPair h u1 (.ref j1) (.ref j2) ∧ (∃ x y, IsPair h u2 x y) ∧ h.IsTupleIter j1 a i ∧ h.IsTupleIter j2 b i ∧ ∃ f0 f, ZipF h g u1 u2 f0 f ∧ (f0 = .none ∨ ∃ T : Addr, f0 = rawInt T)
theorem zst_next {g u1 u2 j1 j2 a b : Addr} {i : Nat} {us vs : Array Value} {x y : Value} {Q : Option Value → Shared → Prop} (D : ZipApart g u1 u2 j1 j2 a b) (st : ZSt g u1 u2 j1 j2 a b i s.heap) (ia : s.heap.IsTuple a us) (ib : s.heap.IsTuple b vs) (ex : us[i]? = some x) (ey : vs[i]? = some y)
    (k : ∀ h', ZSt g u1 u2 j1 j2 a b (i + 1) h' → IsPair h' s.heap.objs.size x y → (∀ c o, c ≠ g → c ≠ u2 → c ≠ j1 → c ≠ j2 → s.heap.get? c = some o → h'.get? c = some o) → Q (some (.ref s.heap.objs.size)) { s with heap := h' }) : wpAny (model prog w) A (pyNext (.ref g)) Q E s := by
  obtain ⟨iu, ⟨p, q, iw⟩, i1, i2, f0, f, ig, fr⟩ := st
  have ty : s.TypeIs (.ref g) "zip" := ⟨_, ig, rfl⟩
  have dec : Free0 s.heap f0 ∨ ∃ (T : Addr) (oT : Obj), f0 = rawInt T ∧ s.heap.get? T = some oT := by
    rcases fr with z | ⟨T, z⟩
    · exact .inl (.inl z)
    · cases e : s.heap.get? T with
      | none => exact .inl (.inr ⟨T, z, e⟩)
      | some oT => exact .inr ⟨T, oT, z, e⟩
  unfold pyNext
  refine wpAny_bind (wpAny_attempt (wpAny_callSpecial?_slot (name := Str.ofString "__next__") ty PySem.F.slot_zip_next (wpAny_call_entry PySem.F.slot_zip_next ty PySem.F.entry_zip_next ?_ (PySem.F.args_zip_next_1 _))))
  rcases dec with fr | ⟨T, oT, rfl, iT⟩
  · exact free_next D ig fr iu iw i1 i2 ia ib ex ey fun h' a1 a2 a3 a4 a5 a6 => wpAny_pure (k h' ⟨a6 _ _ D.TIz D.TITO D.TIi1 D.TIi2 iu, ⟨_, _, a2⟩, a3, a4, _, _, a1, .inr ⟨_, rfl⟩⟩ a5 a6)
  · exact pair_next D ig iT iu i1 i2 ia ib ex ey fun h' a1 a2 a3 a4 a5 => wpAny_pure (k h' ⟨a5 _ _ D.TIz D.TIi1 D.TIi2 iu, ⟨_, _, a5 _ _ D.TOz D.TOi1 D.TOi2 iw⟩, a2, a3, _, _, a1, .inr ⟨_, rfl⟩⟩ a4 fun c o c1 _ c3 c4 e => a5 c o c1 c3 c4 e)
theorem zst_end {g u1 u2 j1 j2 a b : Addr} {i : Nat} {us vs : Array Value} {Q : Option Value → Shared → Prop} (hh : A.handled = none) (D : ZipApart g u1 u2 j1 j2 a b) (st : ZSt g u1 u2 j1 j2 a b i s.heap) (ia : s.heap.IsTuple a us) (ib : s.heap.IsTuple b vs) (stop : us[i]? = none ∨ vs[i]? = none)
    (k : ∀ h', (∀ c o, c ≠ g → c ≠ u2 → c ≠ j1 → c ≠ j2 → s.heap.get? c = some o → h'.get? c = some o) → Q none { s with heap := h' }) : wpAny (model prog w) A (pyNext (.ref g)) Q E s := by
  obtain ⟨iu, ⟨p, q, iw⟩, i1, i2, f0, f, ig, fr⟩ := st
  have ty : s.TypeIs (.ref g) "zip" := ⟨_, ig, rfl⟩
  have dec : Free0 s.heap f0 ∨ ∃ (T : Addr) (oT : Obj), f0 = rawInt T ∧ s.heap.get? T = some oT := by
    rcases fr with z | ⟨T, z⟩
    · exact .inl (.inl z)
    · cases e : s.heap.get? T with
      | none => exact .inl (.inr ⟨T, z, e⟩)
      | some oT => exact .inr ⟨T, oT, z, e⟩
  unfold pyNext
  rcases dec with fr | ⟨T, oT, rfl, iT⟩
  · refine wpAny_bind (wpAny_attempt (wpAny_callSpecial?_slot (name := Str.ofString "__next__") ty PySem.F.slot_zip_next (wpAny_call_entry PySem.F.slot_zip_next ty PySem.F.entry_zip_next
      (free_end hh D ig fr iu iw i1 i2 ia ib stop fun h' e kp he => ?_) (PySem.F.args_zip_next_1 _))))
    obtain ⟨o, ho, hc⟩ := he
    exact wpAny_bind (wpAny_isInstance (T := "StopIteration") (b := true) ⟨o, ho, hc⟩ isSubtype_stop (wpAny_pure (k _ kp)))
  · refine wpAny_bind (wpAny_attempt (wpAny_callSpecial?_slot (name := Str.ofString "__next__") ty PySem.F.slot_zip_next (wpAny_call_entry PySem.F.slot_zip_next ty PySem.F.entry_zip_next
      (pair_end hh D ig iT iu i1 i2 ia ib stop fun h' e kp he => ?_) (PySem.F.args_zip_next_1 _))))
    obtain ⟨o, ho, hc⟩ := he
    exact wpAny_bind (wpAny_isInstance (T := "StopIteration") (b := true) ⟨o, ho, hc⟩ isSubtype_stop (wpAny_pure (k _ fun c o c1 _ c3 c4 e => kp c o c1 c3 c4 e)))
end
theorem turn_pairs {P : Program} {w : World} {K : PySem.W.Frag} {nm : Str} {npos : Pos} {a b g u1 u2 j1 j2 : Addr} (D : ZipApart g u1 u2 j1 j2 a b) : Turn P w K (.Name nm npos) (ItzT K a b) [g, u1, u2, j1, j2] g (ZSt g u1 u2 j1 j2 a b) where
  mem := by simp
  obj := fun i h st c hc => by
    obtain ⟨iu, ⟨p, q, iw⟩, ⟨o1, e1, _, d1⟩, ⟨o2, e2, _, d2⟩, f0, f, ig, _⟩ := st
    have cs : c = g ∨ c = u1 ∨ c = u2 ∨ c = j1 ∨ c = j2 := by simpa using hc
    rcases cs with z | z | z | z | z
    · rw [z]; exact ⟨_, ig, fun v y => nomatch y⟩
    · rw [z]; exact ⟨_, iu, fun v y => nomatch y⟩
    · rw [z]; exact ⟨_, iw, fun v y => nomatch y⟩
    · rw [z]; exact ⟨o1, e1, fun v y => by rw [d1] at y; cases y⟩
    · rw [z]; exact ⟨o2, e2, fun v y => by rw [d2] at y; cases y⟩
  keep := fun i h h' st k => by
    obtain ⟨iu, ⟨p, q, iw⟩, i1, i2, f0, f, ig, fr⟩ := st
    exact ⟨k u1 (by simp) _ iu, ⟨p, q, k u2 (by simp) _ iw⟩, i1.at fun o z => k j1 (by simp) o z, i2.at fun o z => k j2 (by simp) o z, f0, f, k g (by simp) _ ig, fr⟩
  item := by
    intro X hP hw hK hc i pins s σ H E I hf st hg
    subst hP hw hK
    obtain ⟨xs, ys, x, y, qx, qy, ex, ey⟩ := hg
    obtain ⟨its, rv, pa, _⟩ := I.tuple qx
    obtain ⟨its2, rv2, pb, _⟩ := I.tuple qy
    obtain ⟨v1, hv1, r1⟩ := rv.get ex
    obtain ⟨v2, hv2, r2⟩ := rv2.get ey
    have st0 := st
    obtain ⟨iu, ⟨p, q, iw⟩, i1, i2, f0, f, ig, fr⟩ := st
    refine zst_next D st0 pa pb (x := v1) (y := v2) (by simpa using hv1) (by simpa using hv2) fun h' st' pr kp => ?_
    refine ⟨_, rfl, ?_⟩
    unfold letOwnedTupleGo
    refine wpAny_pure ?_
    have new : ObjOk X.prog X.w (upd H s.heap.objs.size (.tup [x, y])) h' s.heap.objs.size (.tup [x, y]) := ⟨by show 2 ≤ sizeLine; decide, [v1, v2], .cons r1 (.cons r2 .nil), ⟨_, pr, rfl, _, rfl⟩⟩
    have I1 : Inv X pins σ (upd H s.heap.objs.size (.tup [x, y])) { s with heap := h' } :=
      I.turnedNew (t' := s.toks) (ch := [g, u1, u2, j1, j2]) (fun c o hb z => kp c o (fun e => hb (by simp [e])) (fun e => hb (by simp [e])) (fun e => hb (by simp [e])) (fun e => hb (by simp [e])) z) hf (Nat.le_refl _) new
    refine ⟨.ref s.heap.objs.size, _, I1, rfl, ⟨_, x, y, rfl, I.hok.fresh (Nat.le_refl _), rfl, fun l hl => by rw [I.tuple_inj hl qx]; exact ex, fun l hl => by rw [I.tuple_inj hl qy]; exact ey⟩, st', fun c hcm => ?_⟩
    have lt : c < s.heap.objs.size := by
      have cs : c = g ∨ c = u1 ∨ c = u2 ∨ c = j1 ∨ c = j2 := by simpa using hcm
      rcases cs with z | z | z | z | z
      · rw [z]; exact Heap.lt_size ig
      · rw [z]; exact Heap.lt_size iu
      · rw [z]; exact Heap.lt_size iw
      · rw [z]; obtain ⟨_, e1, _⟩ := i1; exact Heap.lt_size e1
      · rw [z]; obtain ⟨_, e2, _⟩ := i2; exact Heap.lt_size e2
    rw [upd_ne (Nat.ne_of_lt lt)]
    exact (hf c hcm).1
  done := by
    intro X hP hw hK hc i pins s σ H E I hf st hg
    subst hP hw hK
    obtain ⟨xs, ys, qx, qy, stop⟩ := hg
    obtain ⟨its, rv, pa, _⟩ := I.tuple qx
    obtain ⟨its2, rv2, pb, _⟩ := I.tuple qy
    have l1 := rv.length
    have l2 := rv2.length
    have he : its.toArray[i]? = none ∨ its2.toArray[i]? = none := stop.imp (fun z => by simp; omega) fun z => by simp; omega
    exact zst_end (I.ok.hd hc) D st pa pb he fun h' kp => ⟨rfl, I.turnedL (t' := s.toks) (ch := [g, u1, u2, j1, j2]) (fun c o hb z => kp c o (fun e => hb (by simp [e])) (fun e => hb (by simp [e])) (fun e => hb (by simp [e])) (fun e => hb (by simp [e])) z) hf⟩
  self := fun A i s Q E st h => by
    obtain ⟨_, _, _, _, f0, f, ig, _⟩ := st
    have ty : s.TypeIs (.ref g) "zip" := ⟨_, ig, rfl⟩
    refine wpAny_pyIter_slot ty PySem.F.slot_zip_iter (wpAny_call_entry PySem.F.slot_zip_iter ty PySem.F.entry_zip_iter ?_ (PySem.F.args_zip_iter_1 _))
    show wpAny _ _ (ret (.ref g)) _ _ s
    exact wpAny_pure ⟨_, rfl, "zip", _, ty, PySem.F.slot_zip_next.lookup, h⟩
def iZipP (K : PySem.W.Frag) (ta : TA) : TI := fun σ H R => ta σ H fun vs H1 => ∃ a b xs ys, vs = [.ref a, .ref b] ∧ SqT K H1 a xs ∧ SqT K H1 b ys ∧ R (ItzT K a b) H1
theorem pi_zipP {X : Cx} {e e2 : Expr} {ta : TA} {p pos npos : Pos} {nm : Str} (hg : Gl X "zip") (hm : X.mg "zip" = none) (ha : PA X [e, e2] ta)
    (hs : starEach [e, e2] X.env = (false, eval e X.env) :: starEach [e2] X.env := by rfl) (hpl : (backTo pos (starEach [e2] X.env)).any (·.1) = false := by rfl) :
    PI X (.Name nm npos) (.Call (.Name "zip" p) [e, e2] [] pos) (iZipP X.K ta) := by
  refine ⟨fun pins s σ H R I h => ?_⟩
  refine Call_ (ld_blt I hg hm PyProof.Rows.boot_zip (PyProof.Rows.callWith_type1 (thn (ha.run pos pins s σ H _ I h) fun us s1 ⟨vs, H1, I1, r1, q1⟩ => ?_) hs hpl))
  obtain ⟨a, b, xs, ys, rfl, qx, qy, q⟩ := q1
  cases r1 with
  | cons r rr => cases rr with
    | cons r' rr =>
      cases rr
      cases r
      cases r'
      obtain ⟨its, rv, pa, _⟩ := I1.tuple qx
      obtain ⟨its2, rv2, pb, _⟩ := I1.tuple qy
      have la : a < s1.heap.objs.size := by
        obtain ⟨o, ho, _⟩ := pa
        exact Heap.lt_size ho
      have lb : b < s1.heap.objs.size := by
        obtain ⟨o, ho, _⟩ := pb
        exact Heap.lt_size ho
      refine call_zipT (show s1.heap.IsTuple a its.toArray from pa) (show s1.heap.IsTuple b its2.toArray from pb) fun h' ig iu iw i1 i2 hz kp => wpAny_pyIter_zip ig ?_
      have I2 : Inv X pins σ H1 { s1 with heap := h' } := I1.kept (t' := s1.toks) kp
      refine ⟨_, [s1.heap.objs.size + 4, s1.heap.objs.size + 2, s1.heap.objs.size + 3, s1.heap.objs.size, s1.heap.objs.size + 1], _, _, H1, rfl, I2, turn_pairs (PySem.W.ktu_apart s1.heap.objs.size a b la lb), ⟨iu, ⟨_, _, iw⟩, i1, i2, _, _, ig, .inl rfl⟩, fun c hc => ?_, q⟩
      have le : s1.heap.objs.size ≤ c := by
        have cs : c = s1.heap.objs.size + 4 ∨ c = s1.heap.objs.size + 2 ∨ c = s1.heap.objs.size + 3 ∨ c = s1.heap.objs.size ∨ c = s1.heap.objs.size + 1 := by simpa using hc
        rcases cs with z | z | z | z | z <;> rw [z] <;> first | exact Nat.le_add_right _ _ | exact Nat.le_refl _
      exact I1.fpOk le (I1.hok.fresh le)
end RU

set_option maxRecDepth 100000
set_option maxHeartbeats 4000000
/-! list(d.values()); for i, x in enumerate(tuple, start=k) -/
namespace RU
open PySem PySem.Spec PyProof.Rows L2
section
variable {X : Cx} {o e : Expr} {p pos apos mpos tpos : Pos} {td : TE} {ta tk : TA}
/-- list(o.values()) -/
def tListVals (td : TE) : TE := fun σ H Q => td σ H fun x H1 => ∃ (a : Addr) (kvs : List (Key × V)), x = V.ref a ∧ H1 a = some (.dK kvs) ∧ ∀ q, H1 q = none → Q (.ref q) (upd H1 q (.lst (kvs.map (·.2))))
theorem pe_listVals (calm : X.calm = true) (hg : Gl X "list") (hm : X.mg "list" = none) (hv : bootBuiltins "list" = some (.type "list")) (he : PE X o td) (hbase : attributeBase o "values" X.env (eval o X.env) = eval o X.env := by rfl) (hline : (apos.endLine == mpos.line) = true := by rfl)
    (one : starEach [Expr.Call (.Attribute o "values" apos) [] [] mpos] X.env = (false, eval (Expr.Call (.Attribute o "values" apos) [] [] mpos) X.env) :: starEach [] X.env := by rfl) : PE X (.Call (.Name "list" p) [.Call (.Attribute o "values" apos) [] [] mpos] [] pos) (tListVals td) := by
  refine ⟨fun pins s σ H Q I h => ?_⟩
  refine wpAny_Call_Name_kw (ld_blt I hg hm hv ?_)
  refine PyProof.Rows.callWith_type1 ?_ one rfl
  rw [one]
  show wpAny _ _ (spliced ((false, eval (.Call (.Attribute o "values" apos) [] [] mpos) X.env) :: backTo pos (starEach [] X.env))) _ _ s
  refine Calls.spliced_cons ?_
  refine wpAny_Call_method (T := "dict") (id := "dict.values") hbase rfl hline PySem.F.plainAttrs_dict PySem.F.slot_dict_values PySem.F.type_dict_values (thn (he.run pins s σ H _ I h) fun v t ⟨x, G, J, r1, a, kvs, ex, ha, q⟩ => ?_)
  subst ex
  obtain rfl : v = Value.ref a := r1
  obtain ⟨hz, nsys, vs, rel, dof⟩ := J.hok a _ ha
  obtain ⟨ep, dat⟩ := dof.dictAt
  have len : kvs.length = vs.length := Paired.length rel
  have J2 : Inv X pins σ G { t with heap := t.heap.push { cls := .type "dict_values", data := .fields #[.ref a] } } := J.kept (t' := t.toks) fun _ _ z => Heap.get?_push_of_some _ z
  refine ⟨dof.typeIs, dof.mapOf.noDict, ?_⟩
  show wpAny _ _ (callWith mpos (.builtin "dict.values") [.ref a] [] []) _ X.xe t
  refine method_meetsIn PySem.F.slot_dict_values PySem.F.entry_dict_values rfl (PySem.evalArgs_none ⟨rfl, dof.typeIs, PySem.F.args_dict_values_1 _, _, meets_dict_values (mixKind X.prog X.w) a nsys, ⟨vs, dof⟩, ?_⟩)
  refine Calls.spliced_nil ?_
  refine PySem.W.kdl_call (PySem.W.kdl_values (knd := mixKind X.prog X.w) (kvs := vs) (ep := ep)) (J.ok.hd calm) ⟨⟨_, Heap.get?_push_size _ rfl, rfl, rfl⟩, dat.push _⟩ (by omega) fun h' tk acc c kp at_ items => ?_
  have new : Vals (kvs.map (·.2)) acc.toList := by
    refine vals_of_idx _ _ (by rw [Array.length_toList, items.1, List.length_map, len]) fun j u hj => ?_
    obtain ⟨k, hk⟩ := items.2 j u (by rw [← Array.getElem?_toList]; exact hj)
    obtain ⟨y, h1, h2⟩ := KV.at' rel hk
    exact ⟨y, by rw [List.getElem?_map, h1]; rfl, h2⟩
  have hz2 : (kvs.map (·.2)).length ≤ sizeLine := by rw [List.length_map]; exact hz
  exact ⟨.ref _, _, J2.laid (o := .lst (kvs.map (·.2))) (t' := tk) kp (Nat.le_refl _) ⟨hz2, acc.toList, c, new, by simpa using at_⟩, rfl, q _ (J2.hok.fresh (Nat.le_refl _))⟩
/-- the tuple at a as it stands at each turn, each item in a new pair behind its number from k0 on -/
def Itn1 (K : PySem.W.Frag) (a : Addr) (k0 : Int) : It :=
  ⟨fun i H => ∃ (xs : List V) (x : V), SqT K H a xs ∧ xs[i]? = some x, fun i H v H' => ∃ T x, v = .ref T ∧ H T = none ∧ H' = upd H T (.tup [.int (k0 + (i : Nat)), x]) ∧ ∀ xs, SqT K H a xs → xs[i]? = some x, fun i H => ∃ xs : List V, SqT K H a xs ∧ xs.length ≤ i⟩
theorem turn_num {P : Program} {w : World} {K : PySem.W.Frag} {elts : List Expr} {kk : Nat} {tpos : Pos} (a c it : Addr) (k0 : Int) :
    Turn P w K (.Tuple elts kk tpos) (Itn1 K a k0) [c, it] c (fun i h => (∃ old, IsEnum h c it (k0 + (i : Nat)) old) ∧ h.IsTupleIter it a i ∧ c ≠ it ∧ a ≠ it ∧ a ≠ c) where
  mem := by simp
  obj := fun i h st b hb => by
    obtain ⟨⟨old, he⟩, ⟨o, ho, hc, hd⟩, _⟩ := st
    have cs : b = c ∨ b = it := by simpa using hb
    rcases cs with z | z
    · rw [z]; exact ⟨_, he, fun v q => nomatch q⟩
    · rw [z]; exact ⟨o, ho, fun v q => by rw [hd] at q; cases q⟩
  keep := fun i h h' st k => by
    obtain ⟨⟨old, he⟩, hi, n1⟩ := st
    exact ⟨⟨old, k c (by simp) _ he⟩, hi.at fun o q => k it (by simp) o q, n1⟩
  item := by
    intro X hP hw hK hc i pins s σ H E I hf st hg
    subst hP hw hK
    obtain ⟨⟨old, he⟩, hit, n1, n2, n3⟩ := st
    obtain ⟨xs, x, hq, hx⟩ := hg
    obtain ⟨its, rv, pt, hz⟩ := I.tuple hq
    obtain ⟨u, hu, ru⟩ := rv.get hx
    have lc : c < s.heap.objs.size := Heap.lt_size he
    have li : it < s.heap.objs.size := by
      obtain ⟨_, q, _⟩ := hit
      exact Heap.lt_size q
    have li2 : i < its.toArray.size := by
      rw [List.size_toArray]
      exact (List.getElem?_eq_some_iff.mp hu).1
    refine wpAny_pyNext_enum_itemC (Draws.tuple (prog := X.prog) (w := X.w) (A := X.A.in1) (by simpa using I.ok.hd hc) it a n2 its.toArray) he ⟨hit, pt⟩ li2 n1 (by simp [n1, Ne.symm n3]) fun y h' tk hy ho st' hT hsz kp => ?_
    have ey : y = u := by
      have : its[i]? = some y := by simpa using hy
      rw [hu] at this
      exact (Option.some.inj this).symm
    subst ey
    refine ⟨_, rfl, wpAny_letOwnedTupleGo_enum (s := { s with heap := h', toks := tk + 1 }) ho fun h2 he' sb => ?_⟩
    have hT2 : h2.get? s.heap.objs.size = some { cls := .type "tuple", data := .seq #[.int (k0 + (i : Nat)) tk, y] } := (sb.2 _ (Nat.ne_of_gt lc)).trans hT
    have new : ObjOk X.prog X.w (upd H s.heap.objs.size (.tup [.int (k0 + (i : Nat)), x])) h2 s.heap.objs.size (.tup [.int (k0 + (i : Nat)), x]) := ⟨by show 2 ≤ sizeLine; decide, [.int (k0 + (i : Nat)) tk, y], .cons ⟨_, rfl⟩ (.cons ru .nil), ⟨_, hT2, rfl, _, rfl⟩⟩
    have I1 : Inv X pins σ (upd H s.heap.objs.size (.tup [.int (k0 + (i : Nat)), x])) { s with heap := h2, toks := tk + 1 } :=
      I.turnedNew (ch := [c, it]) (fun b ob hb q => (sb.2 b (fun z => hb (by simp [z]))).trans (kp b ob (fun z => hb (by simp [z])) (fun z => hb (by simp [z])) q)) hf (Nat.le_refl _) new
    refine ⟨.ref s.heap.objs.size, _, I1, rfl, ⟨_, x, rfl, I.hok.fresh (Nat.le_refl _), rfl, fun ys hy => by rw [I.tuple_inj hy hq]; exact hx⟩, ⟨⟨y, ?_⟩, st'.1.at fun o q => (sb.2 it (Ne.symm n1)).trans q, n1, n2, n3⟩, fun b hb => ?_⟩
    · have e1 : k0 + ((i + 1 : Nat) : Int) = k0 + (i : Int) + 1 := by omega
      rw [e1]; exact he'
    · have lt : b < s.heap.objs.size := by
        have cs : b = c ∨ b = it := by simpa using hb
        rcases cs with z | z
        · rw [z]; exact lc
        · rw [z]; exact li
      rw [upd_ne (Nat.ne_of_lt lt)]
      exact (hf b hb).1
  done := by
    intro X hP hw hK hc i pins s σ H E I hf st hg
    subst hP hw hK
    obtain ⟨⟨old, he⟩, hit, n1, n2, n3⟩ := st
    obtain ⟨xs, hq, hx⟩ := hg
    obtain ⟨its, rv, pt, hz⟩ := I.tuple hq
    obtain ⟨f0, f1, f2, f3, f4, f5⟩ := hf it (by simp)
    have hl := rv.length
    unfold pyNext
    have ty : s.TypeIs (.ref c) "enumerate" := ⟨_, he, rfl⟩
    refine wpAny_bind (wpAny_attempt (wpAny_callSpecial?_slot (name := Str.ofString "__next__") ty PySem.F.slot_enumerate_next (wpAny_call_entry PySem.F.slot_enumerate_next ty PySem.F.entry_enumerate_next ?_ (PySem.F.args_enumerate_next_1 _))))
    show wpAny _ _ (field (.ref c) 2 >>= _) _ _ _
    refine wpAny_bind (wpAny_field he rfl (x := .ref it) rfl ?_)
    refine wpAny_bind (RZ.nextOf_tuple_end (items := its.toArray) (by simpa using I.ok.hd hc) hit pt (by simp; omega) fun h' y eb hy => ?_)
    obtain ⟨oy, hoy, hcy⟩ := hy
    refine wpAny_bind (wpAny_isInstance (T := "StopIteration") (b := true) ⟨oy, hoy, hcy⟩ isSubtype_stop ?_)
    exact wpAny_pure ⟨rfl, I.turned (t' := s.toks) (fun b o hb q => eb b o hb q) f0 f1 f3 f4 f5⟩
  self := fun A i s Q E st h => by
    obtain ⟨⟨old, he⟩, _⟩ := st
    exact wpAny_pyIter_enum he h
theorem callWith_typeK {M : Model} {A : Around} {E : Value → Shared → Prop} {s : Shared} {env : Env} {T : String} {e : Expr} {rest : List Expr} {kws : List Keyword} {Q : Value → Shared → Prop}
    (h : wpAny M A (spliced (backTo pos (starEach (e :: rest) env))) (fun vs s1 => wpAny M A (evalAll ((backToKw pos (keywordEach kws env)).map (·.2))) (fun kvs s2 => wpAny M A (call (.type T) vs (((backToKw pos (keywordEach kws env)).filterMap (·.1)).zip kvs)) Q E s2) E s1) E s)
    (he : backTo pos (starEach (e :: rest) env) = (false, eval e env) :: backTo pos (starEach rest env) := by rfl) (hplain : (backTo pos (starEach (e :: rest) env)).any (·.1) = false := by rfl)
    (hall : (backToKw pos (keywordEach kws env)).all (·.1.isSome) = true := by rfl) (hkw : (backToKw pos (keywordEach kws env)).any (·.1.isNone) = false := by rfl) : wpAny M A (callWith pos (.type T) [] (backTo pos (starEach (e :: rest) env)) (backToKw pos (keywordEach kws env))) Q E s := by
  have h2 : wpAny M A (evalArgs (.type T) true (backTo pos (starEach (e :: rest) env)) (backToKw pos (keywordEach kws env))) (fun a s1 => wpAny M A (call (.type T) ([] ++ a.pos) a.kw) Q E s1) E s := by
    rw [he] at h ⊢
    exact evalArgs_kwB hall h
  unfold callWith
  refine wpAny_bind (wpAny_holding (wpAny_mono h2 (fun a s1 h1 => wpAny_bind (wpAny_standAt ?_)) fun _ _ x => x))
  simp only [hplain, hkw, Bool.or_false]
  refine wpAny_bind (wpAny_pure ?_)
  exact wpAny_bind (wpAny_mono h1 (fun r s2 hr => wpAny_bind (wpAny_holding (wpAny_point (wpAny_pure hr)))) fun _ _ x => x)
def iNum (K : PySem.W.Frag) (ta tk : TA) : TI := fun σ H R => ta σ H fun vs H1 => tk σ H1 fun zs H2 => ∃ (a : Addr) (xs : List V) (k0 : Int), vs = [.ref a] ∧ zs = [.int k0] ∧ (-(2 ^ 62) ≤ k0 ∧ k0 < 2 ^ 62) ∧ SqT K H2 a xs ∧ R (Itn1 K a k0) H2
theorem pi_num {elts : List Expr} {kk : Nat} {kws : List Keyword} (hg : Gl X "enumerate") (hm : X.mg "enumerate" = none) (ha : PA X [e] ta) (hk : PK X kws tk)
    (hs : backTo pos (starEach [e] X.env) = (false, eval e X.env) :: backTo pos (starEach [] X.env) := by rfl) (hpl : (backTo pos (starEach [e] X.env)).any (·.1) = false := by rfl)
    (hall : (backToKw pos (keywordEach kws X.env)).all (·.1.isSome) = true := by rfl) (hnone : (backToKw pos (keywordEach kws X.env)).any (·.1.isNone) = false := by rfl) (hks : (backToKw pos (keywordEach kws X.env)).filterMap (·.1) = [Str.ofString "start"] := by rfl) :
    PI X (.Tuple elts kk tpos) (.Call (.Name "enumerate" p) [e] kws pos) (iNum X.K ta tk) := by
  refine ⟨fun pins s σ H R I h => ?_⟩
  refine wpAny_Call_Name_kw (ld_blt I hg hm boot_enumerate ?_)
  refine callWith_typeK (thn (ha.run pos pins s σ H _ I h) fun us s1 ⟨vs, H1, I1, r1, q1⟩ => thn (hk.run pos pins s1 σ H1 _ I1 q1) fun ws s2 ⟨zs, H2, I2, r2, q2⟩ => ?_) hs hpl hall hnone
  rw [hks]
  obtain ⟨a, xs, k0, rfl, rfl, kb, hq, q⟩ := q2
  rw [Vals.ref1 r1]
  cases r2 with
  | cons r rr =>
    cases rr
    obtain ⟨tk0, rfl⟩ := r
    obtain ⟨its, rv, pt, hz⟩ := I2.tuple hq
    have la : a < s2.heap.objs.size := by
      obtain ⟨o, ho, _⟩ := pt
      exact Heap.lt_size ho
    show wpAny _ _ (call (.type "enumerate") [.ref a] [(Str.ofString "start", .int k0 tk0)]) _ _ _
    refine enum_begins_start (begins_tuple a its.toArray) pt (by omega) (by omega) fun h' he hi hsz kp => wpAny_pyIter_enum he ?_
    have I3 : Inv X pins σ H2 { s2 with heap := h' } := I2.kept (t' := s2.toks) kp
    refine ⟨_, [s2.heap.objs.size + 1, s2.heap.objs.size], _, _, H2, rfl, I3, turn_num a (s2.heap.objs.size + 1) s2.heap.objs.size k0, ⟨⟨.none, by simpa using he⟩, ⟨_, hi, rfl, rfl⟩, Nat.succ_ne_self _, Nat.ne_of_lt la, Nat.ne_of_lt (Nat.lt_succ_of_lt la)⟩, fun b hb => ?_, q⟩
    have cs : b = s2.heap.objs.size + 1 ∨ b = s2.heap.objs.size := by simpa using hb
    have le : s2.heap.objs.size ≤ b := by
      rcases cs with z | z
      · rw [z]; exact Nat.le_add_right _ _
      · rw [z]; exact Nat.le_refl _
    exact I2.fpOk le (I2.hok.fresh le)
end
end RU

set_option maxHeartbeats 4000000
/-! what stays: the mathematics -/
namespace K8
/-- strictly rising -/
def SS (l : List Int) : Prop := l.Pairwise (· < ·)
theorem SS.nodup {l : List Int} (h : SS l) : l.Nodup := List.Pairwise.imp (fun {a b} (h : a < b) => (fun z => by omega : a ≠ b)) h
theorem ss_ext : ∀ {a b : List Int}, SS a → SS b → (∀ x, x ∈ a ↔ x ∈ b) → a = b
  | [], [], _, _, _ => rfl
  | [], y :: b, _, _, h => absurd ((h y).2 (List.mem_cons_self ..)) List.not_mem_nil
  | x :: a, [], _, _, h => absurd ((h x).1 (List.mem_cons_self ..)) List.not_mem_nil
  | x :: a, y :: b, ha, hb, h => by
    obtain ⟨a1, a2⟩ := List.pairwise_cons.mp ha
    obtain ⟨b1, b2⟩ := List.pairwise_cons.mp hb
    have e : x = y := by
      rcases List.mem_cons.mp ((h x).1 (List.mem_cons_self ..)) with z | z
      · exact z
      · rcases List.mem_cons.mp ((h y).2 (List.mem_cons_self ..)) with w | w
        · exact w.symm
        · have := a1 y w
          have := b1 x z
          omega
    subst e
    rw [ss_ext a2 b2 fun z => ?_]
    constructor
    · intro hz
      rcases List.mem_cons.mp ((h z).1 (List.mem_cons_of_mem _ hz)) with w | w
      · subst w; exact absurd (a1 z hz) (by omega)
      · exact w
    · intro hz
      rcases List.mem_cons.mp ((h z).2 (List.mem_cons_of_mem _ hz)) with w | w
      · subst w; exact absurd (b1 z hz) (by omega)
      · exact w
def lastN {α : Type} (n : Nat) (l : List α) : List α := l.drop (l.length - n)
theorem lastN_sub {α : Type} {n : Nat} {l : List α} {x : α} (h : x ∈ lastN n l) : x ∈ l := List.mem_of_mem_drop h
theorem lastN_map {α β : Type} (f : α → β) (n : Nat) (l : List α) : lastN n (l.map f) = (lastN n l).map f := by
  unfold lastN
  rw [List.length_map, List.map_drop]
theorem lastN_len {α : Type} (n : Nat) (l : List α) : (lastN n l).length ≤ n := by
  unfold lastN
  rw [List.length_drop]
  omega
theorem lastN_ss {n : Nat} {l : List Int} (h : SS l) : SS (lastN n l) := List.Pairwise.sublist (List.drop_sublist _ _) h
/-- how many of a list are greater -/
def above (l : List Int) (x : Int) : Nat := l.countP fun u => decide (x < u)
theorem above_cons (y : Int) (l : List Int) (x : Int) : above (y :: l) x = above l x + if x < y then 1 else 0 := by
  unfold above
  rw [List.countP_cons]
  simp only [decide_eq_true_eq]
theorem mem_lastN : ∀ {l : List Int}, SS l → ∀ (n : Nat) (x : Int), x ∈ lastN n l ↔ x ∈ l ∧ above l x < n
  | [], _, n, x => by simp [lastN]
  | y :: l, h, n, x => by
    obtain ⟨h1, h2⟩ := List.pairwise_cons.mp h
    have ih := mem_lastN h2 n x
    have hall : above l y = l.length := by
      unfold above
      rw [List.countP_eq_length]
      intro a ha
      simpa using h1 a ha
    rw [above_cons, List.mem_cons]
    by_cases c : (y :: l).length ≤ n
    · have e : lastN n (y :: l) = y :: l := by
        unfold lastN
        rw [Nat.sub_eq_zero_of_le c]
        rfl
      rw [e, List.mem_cons]
      rw [List.length_cons] at c
      have hle : above l x ≤ l.length := List.countP_le_length
      constructor
      · rintro (rfl | z)
        · exact ⟨.inl rfl, by rw [if_neg (by omega)]; omega⟩
        · have := h1 x z
          exact ⟨.inr z, by rw [if_neg (by omega)]; omega⟩
      · rintro ⟨z, _⟩; exact z
    · have e : lastN n (y :: l) = lastN n l := by
        unfold lastN
        rw [List.length_cons] at c ⊢
        have : l.length + 1 - n = (l.length - n) + 1 := by omega
        rw [this]
        rfl
      rw [e, ih]
      rw [List.length_cons] at c
      constructor
      · rintro ⟨z, k⟩
        have := h1 x z
        exact ⟨.inr z, by rw [if_neg (by omega)]; omega⟩
      · rintro ⟨z, k⟩
        rcases z with rfl | z
        · rw [hall, if_neg (by omega)] at k
          omega
        · have := h1 x z
          rw [if_neg (by omega)] at k
          exact ⟨z, by omega⟩
theorem above_sub {m l : List Int} (h : m.Sublist l) (x : Int) : above m x ≤ above l x := List.Sublist.countP_le h
/-- the last of each span -/
def ends (q : Int → Int) (l : List Int) : List Int := l.filter fun t => l.all fun u => decide (u ≤ t ∨ q u ≠ q t)
theorem mem_ends {q : Int → Int} {l : List Int} {t : Int} : t ∈ ends q l ↔ t ∈ l ∧ ∀ u ∈ l, t < u → q u ≠ q t := by
  unfold ends
  rw [List.mem_filter, List.all_eq_true]
  constructor
  · rintro ⟨a, b⟩
    exact ⟨a, fun u hu k => by have := b u hu; simp only [decide_eq_true_eq] at this; exact this.resolve_left (by omega)⟩
  · rintro ⟨a, b⟩
    refine ⟨a, fun u hu => ?_⟩
    simp only [decide_eq_true_eq]
    by_cases c : u ≤ t
    · exact .inl c
    · exact .inr (b u hu (by omega))
theorem ends_ss {q : Int → Int} {l : List Int} (h : SS l) : SS (ends q l) := List.Pairwise.filter _ h
def Mono (q : Int → Int) : Prop := ∀ a b, a ≤ b → q a ≤ q b
theorem ends_key {q : Int → Int} (hq : Mono q) {l : List Int} (h : SS l) : SS ((ends q l).map q) := by
  unfold SS
  rw [List.pairwise_map]
  refine List.Pairwise.imp_of_mem ?_ (ends_ss (q := q) h)
  intro a b ha hb lt
  have h1 := (mem_ends.mp ha).2 b (mem_ends.mp hb).1 lt
  have h2 := hq a b (by omega)
  omega
/-- each key has its last -/
theorem ends_has {q : Int → Int} {l : List Int} (h : SS l) {t : Int} (ht : t ∈ l) : ∃ e ∈ ends q l, q e = q t ∧ t ≤ e := by
  have : ∀ n, ∀ t ∈ l, above l t ≤ n → ∃ e ∈ ends q l, q e = q t ∧ t ≤ e := by
    intro n
    induction n with
    | zero =>
      intro t ht hn
      refine ⟨t, mem_ends.mpr ⟨ht, fun u hu lt => ?_⟩, rfl, Int.le_refl _⟩
      exfalso
      have : 0 < above l t := List.countP_pos_iff.mpr ⟨u, hu, by simpa using lt⟩
      omega
    | succ n ih =>
      intro t ht hn
      by_cases c : ∃ u ∈ l, t < u ∧ q u = q t
      · obtain ⟨u, hu, lt, e⟩ := c
        have : above l u < above l t := by
          have h1 : above l u ≤ (l.filter fun v => decide (v ≠ u)).countP fun v => decide (t < v) := by
            unfold above
            rw [List.countP_filter]
            refine List.countP_mono_left fun v hv k => ?_
            simp only [decide_eq_true_eq, Bool.and_eq_true] at k ⊢
            exact ⟨by omega, by omega⟩
          have h2 : ((l.filter fun v => decide (v ≠ u)).countP fun v => decide (t < v)) < above l t := by
            have : above l t = ((l.filter fun v => decide (v ≠ u)).countP fun v => decide (t < v)) + ((l.filter fun v => !decide (v ≠ u)).countP fun v => decide (t < v)) := by
              unfold above
              exact List.countP_eq_countP_filter_add l _ _
            have h3 : 0 < ((l.filter fun v => !decide (v ≠ u)).countP fun v => decide (t < v)) := List.countP_pos_iff.mpr ⟨u, List.mem_filter.mpr ⟨hu, by simp⟩, by simpa using lt⟩
            omega
          omega
        obtain ⟨e2, a, b, d⟩ := ih u hu (by omega)
        exact ⟨e2, a, by rw [b, e], by omega⟩
      · exact ⟨t, mem_ends.mpr ⟨ht, fun u hu lt k => c ⟨u, hu, lt, k⟩⟩, rfl, Int.le_refl _⟩
  exact this _ t ht (Nat.le_refl _)
end K8

set_option maxHeartbeats 4000000
namespace K8
theorem len_le {α : Type} [DecidableEq α] : ∀ {a b : List α}, a.Nodup → (∀ x ∈ a, x ∈ b) → a.length ≤ b.length
  | [], _, _, _ => Nat.zero_le _
  | x :: a, b, h, s => by
    obtain ⟨n1, n2⟩ := List.nodup_cons.mp h
    have hx := s x (List.mem_cons_self ..)
    have ih := len_le (a := a) (b := b.erase x) n2 fun y hy => by
      have hy2 := s y (List.mem_cons_of_mem _ hy)
      exact (List.mem_erase_of_ne (fun (z : y = x) => n1 (by rw [← z]; exact hy))).mpr hy2
    rw [List.length_erase_of_mem hx] at ih
    have : 0 < b.length := List.length_pos_of_mem hx
    rw [List.length_cons]
    omega
theorem above_len (l : List Int) (x : Int) : above l x = (l.filter fun u => decide (x < u)).length := List.countP_eq_length_filter
theorem ends_above {q : Int → Int} (hq : Mono q) {m l : List Int} (hm : SS m) (hl : SS l) (sub : ∀ x ∈ m, x ∈ l) {t : Int} (ht : ∀ u ∈ l, t < u → q u ≠ q t) : above (ends q m) t ≤ above (ends q l) t := by
  rw [above_len, above_len]
  have e1 : ((ends q m).filter fun u => decide (t < u)).length = (((ends q m).filter fun u => decide (t < u)).map q).length := by rw [List.length_map]
  have e2 : ((ends q l).filter fun u => decide (t < u)).length = (((ends q l).filter fun u => decide (t < u)).map q).length := by rw [List.length_map]
  rw [e1, e2]
  refine len_le ?_ fun k hk => ?_
  · have h1 : SS (((ends q m).filter fun u => decide (t < u)).map q) := List.Pairwise.sublist ((List.filter_sublist).map q) (ends_key hq hm)
    exact h1.nodup
  · obtain ⟨e, he, rfl⟩ := List.mem_map.mp hk
    obtain ⟨h1, h2⟩ := List.mem_filter.mp he
    have h2 : t < e := by simpa using h2
    obtain ⟨e', a, b, c⟩ := ends_has (q := q) hl (sub e (mem_ends.mp h1).1)
    exact List.mem_map.mpr ⟨e', List.mem_filter.mpr ⟨a, by simp; omega⟩, b⟩
/-- how many of each -/
structure Cn where
  n : Nat
  d : Nat
  w : Nat
  m : Nat
def q1 (t : Int) : Int := t / 24
def q2 (t : Int) : Int := t / 168
def q3 (t : Int) : Int := t / 672
theorem mono1 : Mono q1 := fun a b h => by unfold q1; omega
theorem mono2 : Mono q2 := fun a b h => by unfold q2; omega
theorem mono3 : Mono q3 := fun a b h => by unfold q3; omega
def A0 (c : Cn) (l : List Int) : List Int := lastN c.n l
def A1 (c : Cn) (l : List Int) : List Int := lastN c.d (ends q1 l)
def A2 (c : Cn) (l : List Int) : List Int := lastN c.w (ends q2 l)
def A3 (c : Cn) (l : List Int) : List Int := lastN c.m (ends q3 l)
def Al (c : Cn) (l : List Int) : List Int := A0 c l ++ A1 c l ++ A2 c l ++ A3 c l
/-- what stays -/
def ST (c : Cn) (l : List Int) : List Int := l.filter fun t => decide (t ∈ Al c l)
theorem st_ss {c : Cn} {l : List Int} (h : SS l) : SS (ST c l) := List.Pairwise.filter _ h
theorem st_sub {c : Cn} {l : List Int} : ∀ x ∈ ST c l, x ∈ l := fun x h => (List.mem_filter.mp h).1
theorem al_sub {c : Cn} {l : List Int} {x : Int} (h : x ∈ Al c l) : x ∈ l := by
  unfold Al at h
  rcases List.mem_append.mp h with h | h
  · rcases List.mem_append.mp h with h | h
    · rcases List.mem_append.mp h with h | h
      · exact lastN_sub h
      · exact (mem_ends.mp (lastN_sub h)).1
    · exact (mem_ends.mp (lastN_sub h)).1
  · exact (mem_ends.mp (lastN_sub h)).1
theorem mem_st {c : Cn} {l : List Int} {x : Int} : x ∈ ST c l ↔ x ∈ Al c l := by
  unfold ST
  rw [List.mem_filter, decide_eq_true_eq]
  exact ⟨fun h => h.2, fun h => ⟨al_sub h, h⟩⟩
/-- what stays of a list stays of a part of it that has it -/
theorem part_mem {q : Int → Int} (hq : Mono q) {m l : List Int} (hm : SS m) (hl : SS l) (sub : ∀ x ∈ m, x ∈ l) {n : Nat} {t : Int} (h : t ∈ lastN n (ends q l)) (ht : t ∈ m) : t ∈ lastN n (ends q m) := by
  obtain ⟨h1, h2⟩ := (mem_lastN (ends_ss hl) n t).1 h
  obtain ⟨h3, h4⟩ := mem_ends.mp h1
  refine (mem_lastN (ends_ss hm) n t).2 ⟨mem_ends.mpr ⟨ht, fun u hu lt => h4 u (sub u hu) lt⟩, ?_⟩
  have := ends_above hq hm hl sub h4
  omega
theorem part_al {c : Cn} {m l : List Int} (hm : SS m) (hl : SS l) (sub : ∀ x ∈ m, x ∈ l) {t : Int} (h : t ∈ Al c l) (ht : t ∈ m) : t ∈ Al c m := by
  unfold Al at h ⊢
  rcases List.mem_append.mp h with h | h
  · rcases List.mem_append.mp h with h | h
    · rcases List.mem_append.mp h with h | h
      · refine List.mem_append_left _ (List.mem_append_left _ (List.mem_append_left _ ?_))
        obtain ⟨h1, h2⟩ := (mem_lastN hl _ t).1 h
        refine (mem_lastN hm _ t).2 ⟨ht, ?_⟩
        have : above m t ≤ above l t := by
          rw [above_len, above_len]
          refine len_le (List.Nodup.sublist (List.filter_sublist) hm.nodup) fun x hx => ?_
          obtain ⟨a, b⟩ := List.mem_filter.mp hx
          exact List.mem_filter.mpr ⟨sub x a, b⟩
        omega
      · exact List.mem_append_left _ (List.mem_append_left _ (List.mem_append_right _ (part_mem mono1 hm hl sub h ht)))
    · exact List.mem_append_left _ (List.mem_append_right _ (part_mem mono2 hm hl sub h ht))
  · exact List.mem_append_right _ (part_mem mono3 hm hl sub h ht)
theorem st_idem {c : Cn} {l : List Int} (h : SS l) : ST c (ST c l) = ST c l := by
  refine ss_ext (st_ss (st_ss h)) (st_ss h) fun x => ⟨st_sub x, fun hx => mem_st.mpr (part_al (st_ss h) h st_sub (mem_st.mp hx) hx)⟩
/-- kept behind each new one -/
def AE (c : Cn) (l : List Int) (i : Nat) : List Int := (l.take i).foldl (fun k t => ST c (k ++ [t])) []
theorem ae_succ {c : Cn} {l : List Int} {i : Nat} {t : Int} (h : l[i]? = some t) : AE c l (i + 1) = ST c (AE c l i ++ [t]) := by
  unfold AE
  rw [List.take_add_one, h, List.foldl_append]
  rfl
theorem ae_sub {c : Cn} {l : List Int} : ∀ i, ∀ x ∈ AE c l i, x ∈ l.take i
  | 0, x, h => by simp [AE] at h
  | i + 1, x, h => by
    cases e : l[i]? with
    | none =>
      have e2 : l.take (i + 1) = l.take i := by rw [List.take_add_one, e]; simp
      have e3 : AE c l (i + 1) = AE c l i := by unfold AE; rw [e2]
      rw [e3] at h
      rw [e2]
      exact ae_sub i x h
    | some t =>
      rw [ae_succ e] at h
      rw [List.take_add_one, e]
      rcases List.mem_append.mp (st_sub x h) with z | z
      · exact List.mem_append_left _ (ae_sub i x z)
      · exact List.mem_append_right _ z
theorem ss_take {l : List Int} (h : SS l) (i : Nat) : SS (l.take i) := List.Pairwise.sublist (List.take_sublist _ _) h
theorem snoc_ss {k : List Int} {t : Int} (h : SS k) (lt : ∀ x ∈ k, x < t) : SS (k ++ [t]) := by
  unfold SS
  rw [List.pairwise_append]
  exact ⟨h, List.pairwise_singleton _ _, fun x hx y hy => by rw [List.mem_singleton.mp hy]; exact lt x hx⟩
theorem take_lt {l : List Int} (h : SS l) {i : Nat} {t : Int} (e : l[i]? = some t) : ∀ x ∈ l.take i, x < t := by
  intro x hx
  obtain ⟨j, hj, ej⟩ := List.mem_iff_getElem.mp hx
  rw [List.length_take] at hj
  obtain ⟨hi, ei⟩ := List.getElem?_eq_some_iff.mp e
  rw [List.getElem_take] at ej
  rw [← ej, ← ei]
  exact List.pairwise_iff_getElem.mp h j i (by omega) hi (by omega)
theorem ae_ss {c : Cn} {l : List Int} (h : SS l) : ∀ i, SS (AE c l i)
  | 0 => by simp [AE, SS]
  | i + 1 => by
    cases e : l[i]? with
    | none =>
      have e3 : AE c l (i + 1) = AE c l i := by unfold AE; rw [List.take_add_one, e]; simp
      rw [e3]; exact ae_ss h i
    | some t =>
      rw [ae_succ e]
      exact st_ss (snoc_ss (ae_ss h i) fun x hx => take_lt h e x (ae_sub i x hx))
theorem ae_has {c : Cn} {l : List Int} (h : SS l) : ∀ i, ∀ t ∈ ST c l, t ∈ l.take i → t ∈ AE c l i
  | 0, t, _, hi => by simp at hi
  | i + 1, t, ht, hi => by
    cases e : l[i]? with
    | none =>
      have e2 : l.take (i + 1) = l.take i := by rw [List.take_add_one, e]; simp
      have e3 : AE c l (i + 1) = AE c l i := by unfold AE; rw [e2]
      rw [e3]
      rw [e2] at hi
      exact ae_has h i t ht hi
    | some u =>
      rw [ae_succ e]
      rw [List.take_add_one, e] at hi
      have hin : t ∈ AE c l i ++ [u] := by
        rcases List.mem_append.mp hi with z | z
        · exact List.mem_append_left _ (ae_has h i t ht z)
        · exact List.mem_append_right _ z
      have hul : u ∈ l := List.mem_of_getElem? e
      refine mem_st.mpr (part_al (snoc_ss (ae_ss h i) fun x hx => take_lt h e x (ae_sub i x hx)) h (fun x hx => ?_) (mem_st.mp ht) hin)
      rcases List.mem_append.mp hx with z | z
      · exact List.mem_of_mem_take (ae_sub i x z)
      · rw [List.mem_singleton.mp z]; exact hul
theorem st_kept {c : Cn} {l : List Int} (h : SS l) : ∀ t ∈ ST c l, t ∈ AE c l l.length := fun t ht => ae_has h _ t ht (by rw [List.take_length]; exact st_sub t ht)
theorem lastN_mono {a b : Nat} (h : a ≤ b) {l : List Int} {x : Int} (hx : x ∈ lastN a l) : x ∈ lastN b l := by
  unfold lastN at hx ⊢
  have e : l.length - a = (l.length - b) + ((l.length - a) - (l.length - b)) := by omega
  rw [e, ← List.drop_drop] at hx
  exact List.mem_of_mem_drop hx
def Cn.both (a b : Cn) : Cn := ⟨max a.n b.n, max a.d b.d, max a.w b.w, max a.m b.m⟩
theorem st_both {a b : Cn} {l : List Int} : ∀ t ∈ ST a l, t ∈ ST (a.both b) l := by
  intro t ht
  rw [mem_st] at ht ⊢
  unfold Al at ht ⊢
  rcases List.mem_append.mp ht with h | h
  · rcases List.mem_append.mp h with h | h
    · rcases List.mem_append.mp h with h | h
      · exact List.mem_append_left _ (List.mem_append_left _ (List.mem_append_left _ (lastN_mono (Nat.le_max_left ..) h)))
      · exact List.mem_append_left _ (List.mem_append_left _ (List.mem_append_right _ (lastN_mono (Nat.le_max_left ..) h)))
    · exact List.mem_append_left _ (List.mem_append_right _ (lastN_mono (Nat.le_max_left ..) h))
  · exact List.mem_append_right _ (lastN_mono (Nat.le_max_left ..) h)
theorem st_len {c : Cn} {l : List Int} (h : SS l) : (ST c l).length ≤ c.n + c.d + c.w + c.m := by
  have h1 := len_le (st_ss (c := c) h).nodup fun x hx => mem_st.mp hx
  have h2 : (Al c l).length ≤ c.n + c.d + c.w + c.m := by
    unfold Al A0 A1 A2 A3
    rw [List.length_append, List.length_append, List.length_append]
    have := lastN_len c.n l
    have := lastN_len c.d (ends q1 l)
    have := lastN_len c.w (ends q2 l)
    have := lastN_len c.m (ends q3 l)
    omega
  omega
/-! a table of the last of each span, filled in turn -/
def putP (d : List (Int × Int)) (k v : Int) : List (Int × Int) := if d.any (fun e => decide (e.1 = k)) then d.map fun e => if e.1 = k then (k, v) else e else d ++ [(k, v)]
theorem putP_ends {q : Int → Int} (hq : Mono q) {l : List Int} (h : SS l) {t : Int} (lt : ∀ x ∈ l, x < t) : putP ((ends q l).map fun x => (q x, x)) (q t) t = (ends q (l ++ [t])).map fun x => (q x, x) := by
  have e1 : ends q (l ++ [t]) = (ends q l).filter (fun x => decide (q x ≠ q t)) ++ [t] := by
    refine ss_ext (ends_ss (snoc_ss h lt)) (snoc_ss (List.Pairwise.filter _ (ends_ss h)) fun x hx => lt x (mem_ends.mp (List.mem_filter.mp hx).1).1) fun x => ?_
    rw [mem_ends, List.mem_append, List.mem_append, List.mem_filter, mem_ends, List.mem_singleton]
    simp only [decide_eq_true_eq]
    constructor
    · rintro ⟨a | a, b⟩
      · refine .inl ⟨⟨a, fun u hu k => b u (List.mem_append_left _ hu) k⟩, fun z => ?_⟩
        exact b t (List.mem_append_right _ (List.mem_singleton.mpr rfl)) (lt x a) z.symm
      · exact .inr a
    · rintro (⟨⟨a, b⟩, c⟩ | a)
      · refine ⟨.inl a, fun u hu k => ?_⟩
        rcases List.mem_append.mp hu with z | z
        · exact b u z k
        · rw [List.mem_singleton.mp z]; exact fun w => c w.symm
      · subst a
        refine ⟨.inr rfl, fun u hu k => ?_⟩
        rcases List.mem_append.mp hu with z | z
        · have := lt u z; omega
        · have := List.mem_singleton.mp z; omega
  rw [e1, List.map_append]
  have hle : ∀ x ∈ ends q l, q x ≤ q t := fun x hx => hq x t (by have := lt x (mem_ends.mp hx).1; omega)
  have key := ends_key hq h
  generalize ends q l = m at hle key ⊢
  have : ∀ m : List Int, (∀ x ∈ m, q x ≤ q t) → SS (m.map q) → putP (m.map fun x => (q x, x)) (q t) t = (m.filter fun x => decide (q x ≠ q t)).map (fun x => (q x, x)) ++ [(q t, t)] := by
    intro m
    induction m with
    | nil => intro _ _; rfl
    | cons y r ih =>
      intro hle key
      rw [List.map_cons] at key
      obtain ⟨k1, k2⟩ := List.pairwise_cons.mp key
      have ih := ih (fun x hx => hle x (List.mem_cons_of_mem _ hx)) k2
      by_cases c : q y = q t
      · have r0 : r = [] := by
          cases r with
          | nil => rfl
          | cons z r =>
            have h1 := k1 (q z) (by simp)
            have h2 := hle z (by simp)
            omega
        subst r0
        simp [putP, c]
      · have e2 : putP ((y :: r).map fun x => (q x, x)) (q t) t = (q y, y) :: putP (r.map fun x => (q x, x)) (q t) t := by
          unfold putP
          rw [List.map_cons, List.any_cons]
          simp only [c, decide_false, Bool.false_or]
          split
          · rw [List.map_cons]; simp [c]
          · rfl
        rw [e2, ih]
        simp [c]
  exact this m hle key
end K8

set_option maxRecDepth 100000
set_option maxHeartbeats 4000000
namespace SK
open PySem PySem.Spec PyProof.Rows L2
variable {X : Cx}
/-- name = {..} on one line, the name a local -/
theorem ps_setDc {i : Nat} {y : Str} {py : Pos} {kx vx tg iter : Expr} {ifs : List Expr} {scope : Scope} {own : List (Str × Nat)} {pos spos : Pos} {wi : TI} {g : TG} {tt : TT} {tk tv : TE} (calm : X.calm = true) (nd : X.N.Nodup) (atY : X.N[i]? = some y) (loc : X.env.scope.names.lookup y = some .local)
    (hsw : swapsWith (.DictComp kx vx [⟨tg, iter, ifs, 0⟩] scope pos) (some (.Name y py)) spos.line X.env = pure true) (hi : PI X tg iter wi) (ok : BlkOk X.N X.env.scope scope own)
    (pg : ∀ (s : Shared) (H : Hp) (C : Addr) (cl : List (Str × Addr)) (fp : List Addr), PG (X.blk s H scope (compEnvC scope cl C X.env) fp) tg g) (pt : ∀ (s : Shared) (H : Hp) (C : Addr) (cl : List (Str × Addr)) (fp : List Addr), PTs (X.blk s H scope (compEnvC scope cl C X.env) fp) ifs tt)
    (pk : ∀ (s : Shared) (H : Hp) (C : Addr) (cl : List (Str × Addr)) (fp : List Addr), PE (X.blk s H scope (compEnvC scope cl C X.env) fp) kx tk) (pe : ∀ (s : Shared) (H : Hp) (C : Addr) (cl : List (Str × Addr)) (fp : List Addr), PE (X.blk s H scope (compEnvC scope cl C X.env) fp) vx tv)
    (hs : ∀ x, foldedSetIterable iter X.env x = pure x := by intro _; rfl) : PS X (.Assign [.Name y py] (.DictComp kx vx [⟨tg, iter, ifs, 0⟩] scope pos) spos) (tAsg (tDc wi g tt tk tv (own.map (·.2))) (gName i)) := by
  refine ⟨fun pins s σ H D I h => ?_⟩
  rw [exec_Assign_Name_used _ _ _ _ hsw]
  refine wpAny_bind (wpAny_standAt (wpAny_bind ?_))
  have h : tDc wi g tt tk tv (own.map (·.2)) σ H fun x H1 => gName i x σ H1 D.nx := h
  refine wpAny_bind (thn (dc_core (use := some (assign (.Name y py) X.env)) (Qf := fun _ t => SP X pins D .next t) calm nd I hi ok pg pt pk pe hs h fun L C t m G J q hn f => ?_) fun _ t hq => wpAny_pure (wpAny_pure hq))
  show wpAny _ _ (assign (.Name y py) X.env (.ref L)) _ _ _
  refine wpAny_assign_Name (store_ok2 (v := V.ref L) J nd atY (.inl loc) rfl (fun t2 J2 ⟨a, sb, ha⟩ => ?_) (.inr loc))
  obtain ⟨f0, f1, _, f3, f4, f5⟩ := f
  have ne : C ≠ a := ha.elim (fun z => by rw [z]; exact f1) fun z e => f4 y a z e.symm
  exact ⟨m, hn.sameBut sb ne, fun t3 sb3 => ⟨_, G, J2.turned (t' := t2.toks) (fun b o hb e => (sb3.2 b hb).trans e) f0 f1 f3 f4 f5, q⟩⟩
theorem sw_dict {kx vx : Expr} {gs : List Comprehension} {scope : Scope} {pos py : Pos} {y : Str} {l : Nat} {env : Env} (fk : env.scope.kind = .function) (loc : env.scope.names.lookup y = some .local) (line : (py.line == pos.line) = true)
    (free : (scope.names.any fun (n, k) => n == y && (k == .local || k == .cell)) = false) : swapsWith (.DictComp kx vx gs scope pos) (some (.Name y py)) l env = pure true := by
  have e1 : env.kindOf y = some .local := loc
  have e2 : env.blockKind = .function := by
    unfold Env.blockKind
    rw [fk]
    rfl
  unfold swapsWith
  simp only [e1, e2, free, Expr.pos, line]
  rfl
end SK

set_option maxRecDepth 100000
set_option maxHeartbeats 4000000
namespace K8
open PySem PySem.Spec PyProof.Rows L2
open XT (Sm pe_msg)
open SkE (pmk_own1)
open LamX (Tabs TabS CodeO ExtN codeO_ne)
def topS (i : Nat) : Stmt := PySem.Challenge.pw_keepwright_k08_which_days_stay.main.body.getD i (.Pass ⟨0, 0, 0, 0⟩)
local macro_rules | `(tactic| walk_at "ev8") => `(tactic| simp only [tSeq, tIfS, tNot, XT.tChain3, rI0, tC, tVar, tRet, tTup, tLst, tCons, tNil, tJs, tFmt, tNext, tTest, tOp, tUn, rI, rU, tCall, tCB, tAnd, tOr, tB, tDrop, tAsg, gName, tAug, tPar, ipI, tBM, rAppend, tSl, rSlS, tPart, tNoPart, tIf, tM1, rEq, rNe, tFld, tMeth, tMake, L2.start, List.map_cons, List.map_nil, List.length_cons, List.length_nil, Nat.reduceAdd, Nat.reduceSub, Nat.sub_self, List.replicate_zero, List.append_nil, List.replicate_succ, List.cons_append, List.nil_append,
  List.getElem?_cons_zero, List.getElem?_cons_succ, Option.some.injEq, exists_eq_left', exists_eq_left, V.int.injEq, V.str.injEq, V.bl.injEq, V.ref.injEq, List.set_cons_zero, List.set_cons_succ, List.cons.injEq, and_true, true_and, reduceCtorEq, false_and, exists_false, false_or, or_false, exists_and_left, and_assoc, decide_eq_true_eq, Bool.not_eq_true', decide_eq_false_iff_not, Bool.not_false, Bool.not_true, if_true, if_false, Bool.false_eq_true, ↓reduceIte])
/-- what stands at the module's names: the refusals R and P, the class C0 -/
structure Txt (K : PySem.W.Frag) (mg : Str → Option Value) (R Pp C0 : Addr) : Prop where
  x_R : PySem.W.excIn K R [.type "ValueError", .type "Exception", .type "BaseException", .type "object"] "ValueError.__new__" = true
  g_R : mg "BadRule" = some (.ref R)
  k_R : PySem.W.keepIn K (.ref R) = true
  b_R : PySem.W.subIn K (.ref R) (.type "BaseException") = some true
  t_R : PySem.W.typeIn K (.ref R) = some (.type "type")
  x_P : PySem.W.excIn K Pp [.type "ValueError", .type "Exception", .type "BaseException", .type "object"] "ValueError.__new__" = true
  g_P : mg "BadPaper" = some (.ref Pp)
  k_P : PySem.W.keepIn K (.ref Pp) = true
  b_P : PySem.W.subIn K (.ref Pp) (.type "BaseException") = some true
  t_P : PySem.W.typeIn K (.ref Pp) = some (.type "type")
  cl : Cls K C0
  g_Rule : mg "Rule" = some (.ref C0)
  nN : NoAttr K C0 "newest"
  nD : NoAttr K C0 "days"
  nW : NoAttr K C0 "weeks"
  nM : NoAttr K C0 "months"
  d_DAY : ∃ t, mg "DAY" = some (.int 24 t)
  d_WEEK : ∃ t, mg "WEEK" = some (.int 168 t)
  d_MONTH : ∃ t, mg "MONTH" = some (.int 672 t)
  z_len : mg "len" = none
  z_range : mg "range" = none
  z_tuple : mg "tuple" = none
  z_sum : mg "sum" = none
  z_any : mg "any" = none
  z_set : mg "set" = none
  z_min : mg "min" = none
  z_max : mg "max" = none
  z_int : mg "int" = none
  z_abs : mg "abs" = none
  z_list : mg "list" = none
  z_dict : mg "dict" = none
  z_sorted : mg "sorted" = none
  z_zip : mg "zip" = none
  z_enum : mg "enumerate" = none
section
variable {P : Program} {w : World} {K : PySem.W.Frag} {mg : Str → Option Value} {base : Heap} {R Pp C0 : Addr}
/-- every table of Ps is a table -/
def Tb (Ps : List Addr) (H : Hp) : Prop := ∀ P ∈ Ps, GxR.TabG H P
/-- what isn't a table of Ps stays; tables stay tables -/
def Gw (Ps : List Addr) (H H' : Hp) : Prop := Tb Ps H' ∧ ∀ b o, b ∉ Ps → H b = some o → H' b = some o
variable {Ps : List Addr}
theorem Tb.not {H : Hp} (t : Tb Ps H) {a : Addr} {o : HO} (h : H a = some o) (n : ∀ ps, o ≠ .tbl ps) : a ∉ Ps := fun m => by
  obtain ⟨ps, e, _⟩ := t a m
  rw [h] at e
  exact n ps (Option.some.inj e)
theorem Tb.none {H : Hp} (t : Tb Ps H) {a : Addr} (h : H a = none) : a ∉ Ps := fun m => by
  obtain ⟨ps, e, _⟩ := t a m
  rw [h] at e
  cases e
theorem Gw.refl {H : Hp} (t : Tb Ps H) : Gw Ps H H := ⟨t, fun _ _ _ e => e⟩
theorem Gw.trans {H H' H'' : Hp} (g : Gw Ps H H') (g' : Gw Ps H' H'') : Gw Ps H H'' := ⟨g'.1, fun b o n e => g'.2 b o n (g.2 b o n e)⟩
theorem Tb.upd {H : Hp} {l : Addr} {o : HO} (t : Tb Ps H) (n : l ∉ Ps) : Tb Ps (upd H l o) := fun P hP => by
  obtain ⟨ps, e, h⟩ := t P hP
  have ne : P ≠ l := fun z => n (by rw [← z]; exact hP)
  exact ⟨ps, by rw [upd_ne ne]; exact e, h⟩
theorem Gw.new {H H' : Hp} {l : Addr} {o : HO} (g : Gw Ps H H') (n : H' l = none) : Gw Ps H (upd H' l o) :=
  ⟨g.1.upd (g.1.none n), fun b u nb e => by
    have e' := g.2 b u nb e
    rw [upd_ne (ne_of_none e' n)]
    exact e'⟩
/-- an object that has come since is written -/
theorem Gw.set {H H' : Hp} {l : Addr} {o : HO} (g : Gw Ps H H') (n : H l = none) (nl : l ∉ Ps) : Gw Ps H (upd H' l o) :=
  ⟨g.1.upd nl, fun b u nb e => by
    rw [upd_ne (ne_of_none e n)]
    exact g.2 b u nb e⟩
theorem Gw.tab {H H' H'' : Hp} {p : Addr} (g : Gw Ps H H') (hp : p ∈ Ps) (t : GxR.Tabbed p H' H'') : Gw Ps H H'' := by
  refine ⟨fun P hP => ?_, fun b o nb e => ?_⟩
  · by_cases e : P = p
    · subst e
      exact t.1
    · obtain ⟨ps, h, k⟩ := g.1 P hP
      exact ⟨ps, by rw [t.2 P e]; exact h, k⟩
  · rw [t.2 b (fun z => nb (z ▸ hp))]
    exact g.2 b o nb e
theorem Gw.rd {H H' : Hp} {a : Addr} {u : HO} (g : Gw Ps H H') (t : Tb Ps H) (nu : ∀ ps, u ≠ .tbl ps) (h : Rd H a u) : Rd H' a u :=
  h.elim (fun h => .inl (g.2 _ _ (t.not h nu) h)) fun ⟨o, h⟩ => .inr ⟨o, g.2 _ _ (t.not h fun ps z => by cases z) h⟩
theorem Gw.sqL {K : PySem.W.Frag} {H H' : Hp} {a : Addr} {xs : List V} (g : Gw Ps H H') (t : Tb Ps H) (h : SqL K H a xs) : SqL K H' a xs := h.elim (fun h => .inl (g.rd t (fun _ z => by cases z) h)) .inr
theorem Gw.sqT {K : PySem.W.Frag} {H H' : Hp} {a : Addr} {xs : List V} (g : Gw Ps H H') (t : Tb Ps H) (h : SqT K H a xs) : SqT K H' a xs := h.elim (fun h => .inl (g.rd t (fun _ z => by cases z) h)) .inr
theorem Gw.none {H H' : Hp} {a : Addr} (g : Gw Ps H H') (t : Tb Ps H) (h : H' a = none) : H a = none := by
  cases e : H a with
  | none => rfl
  | some o =>
    have na : a ∉ Ps := g.1.none h
    rw [g.2 a o na e] at h
    cases h
theorem upd_none {H : Hp} {l p : Addr} {o : HO} (h : upd H l o p = none) : H p = none ∧ p ≠ l := by
  by_cases e : p = l
  · subst e
    rw [upd_same] at h
    cases h
  · rw [upd_ne e] at h
    exact ⟨h, e⟩
/-- a tuple that has come -/
def NewT (Ps : List Addr) (H : Hp) (xs : List V) (Q : VK) : Prop := ∀ H' p, Gw Ps H H' → H p = none → H' p = some (.tup xs) → Q (.ref p) H'
def NewL (Ps : List Addr) (H : Hp) (xs : List V) (Q : VK) : Prop := ∀ H' p, Gw Ps H H' → H p = none → H' p = some (.lst xs) → Q (.ref p) H'
/-- a def that owns code objects -/
structure FunC (K : PySem.W.Frag) (x qual : Str) (st : Stmt) (f : Addr) (fd : FuncData) (c : Addr) : Prop where
  ex : ∃ (oc : Value) (od : Option Addr) (kV doc pm : Value) (an : Option Addr) (ct : Value) (osl : Array (Option Value)),
    fd = PySem.W.fnOf x qual (defArgs st) (defBody st) (defScope st) .none kV doc pm an (.ref c) ct ∧ K.lookup f = some ⟨oc, od, .func fd, osl⟩ ∧ PySem.W.codeIn K (.ref c) qual = true
  kp : PySem.W.keepIn K (.ref f) = true
theorem FunC.okX {x qual : Str} {st : Stmt} {f c : Addr} {fd : FuncData} {N ps : List Str} {k : Nat} {sp : Sp} (F : FunC K x qual st f fd c) (S : FnScope N ps (defScope st)) (len : ∀ vs H Q E, sp vs H Q E → vs.length = ps.length)
    (hbody : ∀ (A : Around) (outer : List Env) (s : Shared) (H : Hp) (vs : List V) (Q : VK) (E : XK), Room k (A.deeper (envOfC qual (defScope st) s.heap.objs.size f (.ref c))) → sp vs H Q E →
      ∃ t, PSs (cxOf (L2.CX P w) P w K mg base N qual (defScope st) f (.ref c) A outer s H E) (defBody st) t ∧ t { nx := fun _ H' => Q .non H', rt := Q } (start N vs) H) : FnOk P w K mg base (L2.CX P w) (k + 1) f fd ps sp := by
  obtain ⟨oc, od, kV, doc, pm, an, ct, osl, rfl, lk, hcd⟩ := F.ex
  exact fn_of lk hcd S len fun A outer s H vs Q E hr hsp => hbody A outer s H vs Q E hr hsp
theorem FunC.binds {x qual : Str} {st : Stmt} {f c : Addr} {fd : FuncData} {ps : List Str} (F : FunC K x qual st f fd c)
    (h : ∀ (kV doc pm : Value) (an : Option Addr) (cdv ct : Value) (us : List Value), us.length = ps.length → bindArgs (PySem.W.fnOf x qual (defArgs st) (defBody st) (defScope st) .none kV doc pm an cdv ct) ⟨us, []⟩ = pure (ps.zip us)) : Binds K fd ps [] := by
  obtain ⟨oc, od, kV, doc, pm, an, ct, osl, rfl, lk, hcd⟩ := F.ex
  exact .all (h kV doc pm an (.ref c) ct)
theorem Gw.tabg {H H' : Hp} {p : Addr} (g : Gw Ps H H') (hp : p ∈ Ps) : GxR.TabG H' p := g.1 p hp
theorem room_le {k : Nat} {A : Around} (h : Room (k + 1) A) : Room k A := h.mono (Nat.le_succ k)
/-- a def that is called by its name -/
structure Cal (P : Program) (w : World) (K : PySem.W.Frag) (mg : Str → Option Value) (base : Heap) (CX : CXT) (k : Nat) (nm : Str) (ps : List Str) (sp : Sp) (f : Addr) (fd : FuncData) : Prop where
  ok : FnOk P w K mg base CX k f fd ps sp
  g : mg nm = some (.ref f)
  kp : PySem.W.keepIn K (.ref f) = true
  b : Binds K fd ps []
theorem tFor_rng2 {ta : TA} {g : TG} {tb : TS} {D : L2.Ends} {σ : L2.St} {H : Hp} (i j : Int) (n : Nat) (Pv : Nat → L2.St → Hp → Prop) (ha : ∀ R : List V → Hp → Prop, R [.int i, .int j] H → ta σ H R)
    (hb : -(2 ^ 62) ≤ i ∧ i < 2 ^ 62 ∧ -(2 ^ 62) ≤ j ∧ j < 2 ^ 62) (en : (j - i).toNat = n) (h0 : Pv 0 σ H)
    (hs : ∀ k σ H, k < n → Pv k σ H → g (.int (i + (k : Nat))) σ H fun σ2 H2 => tb { D with nx := Pv (k + 1), ct := Pv (k + 1), bk := D.nx } σ2 H2) (hd : ∀ σ H, Pv n σ H → D.nx σ H) : tFor (iRng2 ta) g tb D σ H := by
  refine ha _ ⟨i, j, rfl, hb, ?_⟩
  rw [en]
  exact for_range Pv h0 hs hd
theorem tFor_rng1 {ta : TA} {g : TG} {tb : TS} {D : L2.Ends} {σ : L2.St} {H : Hp} (j : Int) (n : Nat) (Pv : Nat → L2.St → Hp → Prop) (ha : ∀ R : List V → Hp → Prop, R [.int j] H → ta σ H R)
    (hb : -(2 ^ 62) ≤ j ∧ j < 2 ^ 62) (en : j.toNat = n) (h0 : Pv 0 σ H)
    (hs : ∀ k σ H, k < n → Pv k σ H → g (.int (0 + (k : Nat))) σ H fun σ2 H2 => tb { D with nx := Pv (k + 1), ct := Pv (k + 1), bk := D.nx } σ2 H2) (hd : ∀ σ H, Pv n σ H → D.nx σ H) : tFor (iRng1 ta) g tb D σ H := by
  refine ha _ ⟨j, rfl, hb.1, hb.2, ?_⟩
  rw [en]
  exact for_range Pv h0 hs hd
def Dice (H : Hp) (d : Addr) : Prop := ∃ a b c : Int, H d = some (.lst [.int a, .int b, .int c])
/-- all but the dice stays -/
structure Gd (Ps : List Addr) (d : Addr) (H H' : Hp) : Prop where
  tb : Tb Ps H'
  keep : ∀ b o, b ∉ Ps → b ≠ d → H b = some o → H' b = some o
  dice : Dice H' d
theorem Gd.gw {d : Addr} {H H1 H2 : Hp} (g : Gd Ps d H H1) (h : Gw Ps H1 H2) : Gd Ps d H H2 :=
  ⟨h.1, fun b o n nd e => h.2 b o n (g.keep b o n nd e), by
    obtain ⟨a, b, c, e⟩ := g.dice
    exact ⟨a, b, c, h.2 d _ (g.tb.not e fun _ z => by cases z) e⟩⟩
theorem Gd.trans {d : Addr} {H H1 H2 : Hp} (g : Gd Ps d H H1) (h : Gd Ps d H1 H2) : Gd Ps d H H2 := ⟨h.tb, fun b o n nd e => h.keep b o n nd (g.keep b o n nd e), h.dice⟩
theorem Gd.nd {d : Addr} {H H1 : Hp} (g : Gd Ps d H H1) : d ∉ Ps := by
  obtain ⟨a, b, c, e⟩ := g.dice
  exact g.tb.not e fun _ z => by cases z
theorem Gd.refl {d : Addr} {H : Hp} (t : Tb Ps H) (h : Dice H d) : Gd Ps d H H := ⟨t, fun _ _ _ _ e => e, h⟩
theorem Gd.roll {d : Addr} {H H1 : Hp} (g : Gd Ps d H H1) (a b c : Int) : Gd Ps d H (upd H1 d (.lst [.int a, .int b, .int c])) :=
  ⟨g.tb.upd g.nd, fun b o n nd e => by rw [upd_ne nd]; exact g.keep b o n nd e, a, b, c, upd_same⟩
theorem Gd.new {d : Addr} {H H1 : Hp} {l : Addr} {o : HO} (g : Gd Ps d H H1) (n : H1 l = none) : Gd Ps d H (upd H1 l o) := g.gw ((Gw.refl g.tb).new n)
theorem Gd.isn {d : Addr} {H H1 : Hp} {l : Addr} (g : Gd Ps d H H1) (n : H1 l = none) : H l = none := by
  cases e : H l with
  | none => rfl
  | some o =>
    have nd : l ≠ d := fun z => by
      obtain ⟨a, b, c, e⟩ := g.dice
      rw [z, e] at n
      cases n
    rw [g.keep l o (g.tb.none n) nd e] at n
    cases n
theorem Gd.ne {d : Addr} {H H1 : Hp} {l : Addr} (g : Gd Ps d H H1) (n : H1 l = none) : l ≠ d := fun z => by
  obtain ⟨a, b, c, e⟩ := g.dice
  rw [z, e] at n
  cases n
/-- an object that has come since is written -/
theorem Gd.set {d : Addr} {H H1 : Hp} {l : Addr} {o : HO} (g : Gd Ps d H H1) (n : H l = none) (nl : l ∉ Ps) (nd : l ≠ d) : Gd Ps d H (upd H1 l o) :=
  ⟨g.tb.upd nl, fun b u nb nbd e => by
    rw [upd_ne (ne_of_none e n)]
    exact g.keep b u nb nbd e, by
    obtain ⟨a, b, c, e⟩ := g.dice
    exact ⟨a, b, c, by rw [upd_ne nd.symm]; exact e⟩⟩
end
section
variable {K : PySem.W.Frag} {H : Hp}
theorem dpAll_map {α : Type} (f : α → V) (g : α → PyData) (h : ∀ x, Dp K H (f x) (g x)) : ∀ l : List α, DpAll K H (l.map f) (l.map g)
  | [] => .nil
  | x :: r => .cons (h x) (dpAll_map f g h r)
theorem dp_lI {a : Addr} {ns : List Int} (h : SqL K H a (ns.map V.int)) : Dp K H (.ref a) (.list (ns.map .int)) := .lst h (dpAll_map _ _ .int ns)
theorem dp_tI {a : Addr} {ns : List Int} (h : SqT K H a (ns.map V.int)) : Dp K H (.ref a) (.tuple (ns.map .int)) := .tup h (dpAll_map _ _ .int ns)
theorem dp_lS {a : Addr} {ns : List Str} (h : SqL K H a (ns.map V.str)) : Dp K H (.ref a) (.list (ns.map .str)) := .lst h (dpAll_map _ _ .str ns)
theorem dp_tS {a : Addr} {ns : List Str} (h : SqT K H a (ns.map V.str)) : Dp K H (.ref a) (.tuple (ns.map .str)) := .tup h (dpAll_map _ _ .str ns)
theorem eqvI : ∀ ns ms : List Int, PyData.eqvAll (ns.map .int) (ms.map .int) = decide (ns = ms)
  | [], [] => by simp [PyData.eqvAll]
  | [], _ :: _ => by simp [PyData.eqvAll]
  | _ :: _, [] => by simp [PyData.eqvAll]
  | x :: r, y :: q => by
    rw [List.map_cons, List.map_cons, PyData.eqvAll, eqvI r q]
    by_cases e : x = y
    · subst e; simp [PyData.eqv]
    · simp [PyData.eqv, e]
theorem eqvS : ∀ ns ms : List Str, PyData.eqvAll (ns.map .str) (ms.map .str) = decide (ns = ms)
  | [], [] => by simp [PyData.eqvAll]
  | [], _ :: _ => by simp [PyData.eqvAll]
  | _ :: _, [] => by simp [PyData.eqvAll]
  | x :: r, y :: q => by
    rw [List.map_cons, List.map_cons, PyData.eqvAll, eqvS r q]
    by_cases e : x = y
    · subst e; simp [PyData.eqv]
    · simp [PyData.eqv, e]
theorem eqv_lI (ns ms : List Int) : PyData.eqv (.list (ns.map .int)) (.list (ms.map .int)) = decide (ns = ms) := by rw [PyData.eqv, eqvI]
theorem eqv_tI (ns ms : List Int) : PyData.eqv (.tuple (ns.map .int)) (.tuple (ms.map .int)) = decide (ns = ms) := by rw [PyData.eqv, eqvI]
theorem eqv_lS (ns ms : List Str) : PyData.eqv (.list (ns.map .str)) (.list (ms.map .str)) = decide (ns = ms) := by rw [PyData.eqv, eqvS]
theorem eqv_tS (ns ms : List Str) : PyData.eqv (.tuple (ns.map .str)) (.tuple (ms.map .str)) = decide (ns = ms) := by rw [PyData.eqv, eqvS]
theorem lay_I : ∀ ns : List Int, PyData.canLayAll0 (ns.map .int) = true ∧ PyData.depthAll (ns.map .int) = 0
  | [] => ⟨rfl, rfl⟩
  | x :: r => by
    obtain ⟨h1, h2⟩ := lay_I r
    rw [List.map_cons]
    simp [PyData.canLayAll0, PyData.canLay0, PyData.depthAll, PyData.depth, h1, h2]
theorem lay_S : ∀ ns : List Str, (∀ x ∈ ns, PyData.strOk x = true) → PyData.canLayAll0 (ns.map .str) = true ∧ PyData.depthAll (ns.map .str) = 0
  | [], _ => ⟨rfl, rfl⟩
  | x :: r, h => by
    obtain ⟨h1, h2⟩ := lay_S r fun y hy => h y (List.mem_cons_of_mem _ hy)
    have h0 := h x (List.mem_cons_self ..)
    rw [List.map_cons]
    simp [PyData.canLayAll0, PyData.canLay0, PyData.depthAll, PyData.depth, h0, h1, h2]
theorem shp_lI (ns : List Int) : SeqAt.shaped (.list (ns.map .int)) = true := by
  obtain ⟨h1, h2⟩ := lay_I ns
  simp [SeqAt.shaped, PyData.canLay0, PyData.depth, h1, h2]
theorem shp_tI (ns : List Int) : SeqAt.shaped (.tuple (ns.map .int)) = true := by
  obtain ⟨h1, h2⟩ := lay_I ns
  simp [SeqAt.shaped, PyData.canLay0, PyData.depth, h1, h2]
theorem shp_lS (ns : List Str) (h : ∀ x ∈ ns, PyData.strOk x = true) : SeqAt.shaped (.list (ns.map .str)) = true := by
  obtain ⟨h1, h2⟩ := lay_S ns h
  simp [SeqAt.shaped, PyData.canLay0, PyData.depth, h1, h2]
theorem shp_tS (ns : List Str) (h : ∀ x ∈ ns, PyData.strOk x = true) : SeqAt.shaped (.tuple (ns.map .str)) = true := by
  obtain ⟨h1, h2⟩ := lay_S ns h
  simp [SeqAt.shaped, PyData.canLay0, PyData.depth, h1, h2]
theorem rEq_lI {a b : Addr} {ns ms : List Int} {Q : VK} (ha : SqL K H a (ns.map V.int)) (hb : SqL K H b (ms.map V.int)) (q : Q (.bl (decide (ns = ms))) H) : rEqD K (.ref a) (.ref b) H Q := ⟨_, _, dp_lI ha, dp_lI hb, shp_lI _, shp_lI _, by rw [eqv_lI]; exact q⟩
theorem rNe_lI {a b : Addr} {ns ms : List Int} {Q : VK} (ha : SqL K H a (ns.map V.int)) (hb : SqL K H b (ms.map V.int)) (q : Q (.bl (!decide (ns = ms))) H) : rNeD K (.ref a) (.ref b) H Q := ⟨_, _, dp_lI ha, dp_lI hb, shp_lI _, shp_lI _, by rw [eqv_lI]; exact q⟩
theorem rNe_tI {a b : Addr} {ns ms : List Int} {Q : VK} (ha : SqT K H a (ns.map V.int)) (hb : SqT K H b (ms.map V.int)) (q : Q (.bl (!decide (ns = ms))) H) : rNeD K (.ref a) (.ref b) H Q := ⟨_, _, dp_tI ha, dp_tI hb, shp_tI _, shp_tI _, by rw [eqv_tI]; exact q⟩
theorem rEq_lS {a b : Addr} {ns ms : List Str} {Q : VK} (hn : ∀ x ∈ ns, PyData.strOk x = true) (hm : ∀ x ∈ ms, PyData.strOk x = true) (ha : SqL K H a (ns.map V.str)) (hb : SqL K H b (ms.map V.str)) (q : Q (.bl (decide (ns = ms))) H) : rEqD K (.ref a) (.ref b) H Q := ⟨_, _, dp_lS ha, dp_lS hb, shp_lS _ hn, shp_lS _ hm, by rw [eqv_lS]; exact q⟩
theorem rNe_lS {a b : Addr} {ns ms : List Str} {Q : VK} (hn : ∀ x ∈ ns, PyData.strOk x = true) (hm : ∀ x ∈ ms, PyData.strOk x = true) (ha : SqL K H a (ns.map V.str)) (hb : SqL K H b (ms.map V.str)) (q : Q (.bl (!decide (ns = ms))) H) : rNeD K (.ref a) (.ref b) H Q := ⟨_, _, dp_lS ha, dp_lS hb, shp_lS _ hn, shp_lS _ hm, by rw [eqv_lS]; exact q⟩
theorem rEq_tS {a b : Addr} {ns ms : List Str} {Q : VK} (hn : ∀ x ∈ ns, PyData.strOk x = true) (hm : ∀ x ∈ ms, PyData.strOk x = true) (ha : SqT K H a (ns.map V.str)) (hb : SqT K H b (ms.map V.str)) (q : Q (.bl (decide (ns = ms))) H) : rEqD K (.ref a) (.ref b) H Q := ⟨_, _, dp_tS ha, dp_tS hb, shp_tS _ hn, shp_tS _ hm, by rw [eqv_tS]; exact q⟩
end
section
theorem passF {X : Cx} : Passes (L2.CX X.prog X.w) X (fun _ _ _ => False) := fun _ _ _ _ _ _ _ c => by
  obtain ⟨_, _, _, _, _, _, _, _, _, _, _, _, hE⟩ := c
  exact hE.elim
/-- a statement that leads on: from Pre to Post -/
def Step (X : Cx) (st : Stmt) (Pre Post : L2.St → Hp → Prop) : Prop := ∃ t, PS X st t ∧ ∀ D σ H, Pre σ H → (∀ σ' H', Post σ' H' → D.nx σ' H') → t D σ H
def Steps (X : Cx) (l : List Stmt) (Pre Post : L2.St → Hp → Prop) : Prop := ∃ t, PSs X l t ∧ ∀ D σ H, Pre σ H → (∀ σ' H', Post σ' H' → D.nx σ' H') → t D σ H
theorem Steps.cons {X : Cx} {a : Stmt} {l : List Stmt} {p q r : L2.St → Hp → Prop} (h : Step X a p q) (h2 : Steps X l q r) : Steps X (a :: l) p r := by
  obtain ⟨t, ht, k⟩ := h
  obtain ⟨u, hu, k2⟩ := h2
  exact ⟨_, pss_cons ht hu, fun D σ H hp hn => k _ σ H hp fun σ' H' hq => k2 D σ' H' hq hn⟩
theorem Steps.one {X : Cx} {a : Stmt} {p q : L2.St → Hp → Prop} (h : Step X a p q) : Steps X [a] p q := by
  obtain ⟨t, ht, k⟩ := h
  exact ⟨_, pss_one ht, k⟩
end
section
variable {K : PySem.W.Frag}
theorem SqT_of {H : Hp} {a : Addr} {xs : List V} (h : H a = some (.tup xs)) : SqT K H a xs := .inl (.inl h)
theorem gTup2 {i j : Nat} {p : Addr} {v z : V} {σ : L2.St} {H : Hp} {Q : L2.St → Hp → Prop} (h : SqT K H p [v, z]) (q : Q ((σ.set i (some v)).set j (some z)) H) : gTup K 2 (gCons (gName i) (gCons (gName j) gNil)) (.ref p) σ H Q := ⟨p, _, rfl, h, rfl, _, _, rfl, _, _, rfl, rfl, q⟩
end
section
variable {X : Cx} {st : Stmt} {ls : List Stmt} {Post : L2.St → Hp → Prop}
theorem Step.ex {α : Type} {Pre : α → L2.St → Hp → Prop} (h : ∀ a, Step X st (Pre a) Post) : Step X st (fun σ H => ∃ a, Pre a σ H) Post :=
  ⟨fun D σ H => ∃ a, Classical.choose (h a) D σ H, ⟨fun pins s σ H D I ⟨a, ha⟩ => (Classical.choose_spec (h a)).1.run pins s σ H D I ha⟩, fun D σ H ⟨a, hp⟩ hn => ⟨a, (Classical.choose_spec (h a)).2 D σ H hp hn⟩⟩
theorem Steps.ex {α : Type} {Pre : α → L2.St → Hp → Prop} (h : ∀ a, Steps X ls (Pre a) Post) : Steps X ls (fun σ H => ∃ a, Pre a σ H) Post :=
  ⟨fun D σ H => ∃ a, Classical.choose (h a) D σ H, ⟨fun pins s σ H D I ⟨a, ha⟩ => (Classical.choose_spec (h a)).1.run pins s σ H D I ha⟩, fun D σ H ⟨a, hp⟩ hn => ⟨a, (Classical.choose_spec (h a)).2 D σ H hp hn⟩⟩
theorem Steps.all {α : Type} {Pre Pos : α → L2.St → Hp → Prop} (h : ∀ a, Steps X ls (Pre a) (Pos a)) : ∃ t, PSs X ls t ∧ ∀ a D σ H, Pre a σ H → (∀ σ' H', Pos a σ' H' → D.nx σ' H') → t D σ H :=
  ⟨fun D σ H => ∃ a, Classical.choose (h a) D σ H, ⟨fun pins s σ H D I ⟨a, ha⟩ => (Classical.choose_spec (h a)).1.run pins s σ H D I ha⟩, fun a D σ H hp hn => ⟨a, (Classical.choose_spec (h a)).2 D σ H hp hn⟩⟩
theorem Steps.of {φ : Prop} {Pre : L2.St → Hp → Prop} (h : φ → Steps X ls Pre Post) : Steps X ls (fun σ H => φ ∧ Pre σ H) Post :=
  ⟨fun D σ H => ∃ a, Classical.choose (h a) D σ H, ⟨fun pins s σ H D I ⟨a, ha⟩ => (Classical.choose_spec (h a)).1.run pins s σ H D I ha⟩, fun D σ H ⟨a, hp⟩ hn => ⟨a, (Classical.choose_spec (h a)).2 D σ H hp hn⟩⟩
end
section
variable {Ps : List Addr}
theorem codeO_lst {c0 : Addr} {q : Str} {xs : List V} : CodeO c0 q ≠ HO.lst xs := fun z => by cases z
theorem tabs_keep {T : List (Addr × Str)} {d : Addr} {H H' : Hp} (t : Tabs T H) (nP : ∀ p ∈ T, p.1 ∉ Ps) (tb : Tb Ps H) (di : Dice H d) (kp : ∀ b o, b ∉ Ps → b ≠ d → H b = some o → H' b = some o) : Tabs T H' := fun p hp => by
  obtain ⟨ps, h1, h2, h3⟩ := t p hp
  obtain ⟨x, y, z, hd⟩ := di
  refine ⟨ps, kp _ _ (nP p hp) (fun e => by rw [e, hd] at h1; cases h1) h1, h2, fun pos cv hc => ?_⟩
  obtain ⟨c0, e1, e2⟩ := h3 pos cv hc
  exact ⟨c0, e1, kp _ _ (tb.not e2 codeO_ne) (fun e => by rw [e, hd] at e2; exact codeO_lst (Option.some.inj e2).symm) e2⟩
theorem tabs_gw {T : List (Addr × Str)} {H H' : Hp} (t : Tabs T H) (nP : ∀ p ∈ T, p.1 ∉ Ps) (tb : Tb Ps H) (g : Gw Ps H H') : Tabs T H' := fun p hp => by
  obtain ⟨ps, h1, h2, h3⟩ := t p hp
  refine ⟨ps, g.2 _ _ (nP p hp) h1, h2, fun pos cv hc => ?_⟩
  obtain ⟨c0, e1, e2⟩ := h3 pos cv hc
  exact ⟨c0, e1, g.2 _ _ (tb.not e2 codeO_ne) e2⟩
end
section
variable {X : Cx} {e : Expr} {td : TE} {tg : Expr} {K0 : PySem.W.Frag}
/-- a dict, held while it is walked -/
def tLock (td : TE) : TE := fun σ H Q => td σ H fun x H1 => ∃ d kvs, x = .ref d ∧ H1 d = some (.dK kvs) ∧ ∀ od, Q (.ref d) (upd H1 d (.frz od (.dK kvs)))
theorem pe_lock (he : PE X e td) : PE X e (tLock td) := by
  refine ⟨fun pins s σ H Q I h => thn (he.run pins s σ H _ I h) fun v s1 ⟨x, H1, I1, r1, d, kvs, ex, hd, q⟩ => ?_⟩
  subst ex
  obtain ⟨od, I2⟩ := I1.lock hd True.intro
  exact ⟨.ref d, _, I2, r1, q od⟩
theorem ix_tupK (hK : X.K = K0) : IxR X (rIxT K0) := by
  subst hK
  exact ix_tup
theorem op_inK (hK : X.K = K0) : OpR X (compareOp .In) (rIn K0 false) := by
  subst hK
  exact op_in_seq
theorem op_notInK (hK : X.K = K0) : OpR X (compareOp .NotIn) (rIn K0 true) := by
  subst hK
  exact op_notIn_seq
end
section
variable {X : Cx} {K0 : PySem.W.Frag} {e o : Expr} {te to : TE} {lo hi : Option Expr} {tl th : TO} {pos p2 apos : Pos}
theorem pe_sliceT (hK : X.K = K0) (he : PE X e te) (hl : PO X lo tl) (hu : PO X hi th) : PE X (.Subscript e (.Slice lo hi none p2) pos) (L2.tSl (rSlA K0) te tl th) := by
  subst hK
  exact pe_slice sl_tupA he hl hu
def rLenK (K0 : PySem.W.Frag) : List V → Hp → VK → Prop := fun xs H Q => ∃ p ys, xs = [.ref p] ∧ (SqL K0 H p ys ∨ SqT K0 H p ys) ∧ Q (.int ys.length) H
theorem call_lenK (hK : X.K = K0) : CallR X (.builtin "len") (rLenK K0) := by
  subst hK
  exact call_len_seq
def rListK (K0 : PySem.W.Frag) : List V → Hp → VK → Prop := fun xs H Q => ∃ p ys, xs = [.ref p] ∧ (SqL K0 H p ys ∨ SqT K0 H p ys) ∧ ∀ l, H l = none → Q (.ref l) (upd H l (.lst ys))
theorem call_listK (hK : X.K = K0) : CallR X (.type "list") (rListK K0) := by
  subst hK
  exact call_list_of
theorem op_eqK (hK : X.K = K0) (hu : X.A.units + 64 < cLine) : OpR X (compareOp .Eq) (rEqD K0) := by
  subst hK
  exact op_eqD hu
theorem op_neK (hK : X.K = K0) (hu : X.A.units + 64 < cLine) : OpR X (compareOp .NotEq) (rNeD K0) := by
  subst hK
  exact op_neD hu
theorem cutV_drop {xs : List V} {n : Nat} : cutV xs (some (n : Nat)) none = xs.drop n := by
  unfold cutV
  rw [HT.sIx_none, HT.sIx_nat]
  by_cases h : n ≤ xs.length
  · rw [Nat.min_eq_left h]
    exact List.take_of_length_le (by rw [List.length_drop]; exact Nat.le_refl _)
  · rw [Nat.min_eq_right (by omega), Nat.sub_self, List.take_zero, List.drop_of_length_le (by omega)]
theorem pe_sliceL (hK : X.K = K0) (he : PE X e te) (hl : PO X lo tl) (hu : PO X hi th) : PE X (.Subscript e (.Slice lo hi none p2) pos) (L2.tSl (rSlL K0) te tl th) := by
  subst hK
  exact pe_slice sl_list he hl hu
end
section
theorem tLc_rng1 {ta : TA} {g : TG} {tt : TT} {te : TE} {vs : List Nat} {σ : L2.St} {H : Hp} {Q : VK} (j : Int) (n : Nat) (ha : ∀ R : List V → Hp → Prop, R [.int j] H → ta σ H R) (hb : -(2 ^ 62) ≤ j ∧ j < 2 ^ 62) (en : j.toNat = n)
    (h : ∀ D, H D = none → ∃ W : Nat → Nat → Hp → Prop, (∃ m, W 0 m (upd H D (.lst []))) ∧ ∀ i m H, W i m H → ((Itr 0 n).stop i H ∧ Q (.ref D) H) ∨ ((Itr 0 n).go i H ∧ ∃ Nx : Hp → Prop, (∀ H', Nx H' → ∃ m', m' < m ∧ W (i + 1) m' H') ∧ ∀ x H', (Itr 0 n).yld i H x H' → g x (wipe σ vs) H' fun σ2 H2 => wipe σ2 vs = wipe σ vs ∧ tt σ2 H2 fun b H3 =>
      if b = true then te σ2 H3 fun y H4 => ∃ acc, H4 D = some (.lst acc) ∧ acc.length < sizeLine ∧ Nx (upd H4 D (.lst (acc ++ [y]))) else Nx H3)) : tLc (iRng1 ta) g tt te vs σ H Q := by
  refine ha _ ⟨j, rfl, hb.1, hb.2, ?_⟩
  rw [en]
  exact h
end
end K8

set_option maxRecDepth 100000
set_option maxHeartbeats 4000000
namespace K8
open PySem PySem.Spec PyProof.Rows L2
open XT (Sm pe_msg)
open SkE (pmk_own1)
local macro_rules | `(tactic| walk_at "ev8") => `(tactic| simp only [tSeq, tIfS, tNot, XT.tChain3, rI0, tC, tVar, tRet, tTup, tLst, tCons, tNil, tJs, tFmt, tNext, tTest, tOp, tUn, rI, rU, tCall, tCB, tAnd, tOr, tB, tDrop, tAsg, gName, tAug, tPar, ipI, tBM, rAppend, tSl, rSlS, tPart, tNoPart, tIf, tM1, rEq, rNe, tFld, tMeth, tMake, L2.start, List.map_cons, List.map_nil, List.length_cons, List.length_nil, Nat.reduceAdd, Nat.reduceSub, Nat.sub_self, List.replicate_zero, List.append_nil, List.replicate_succ, List.cons_append, List.nil_append,
  List.getElem?_cons_zero, List.getElem?_cons_succ, Option.some.injEq, exists_eq_left', exists_eq_left, V.int.injEq, V.str.injEq, V.bl.injEq, V.ref.injEq, List.set_cons_zero, List.set_cons_succ, List.cons.injEq, and_true, true_and, reduceCtorEq, false_and, exists_false, false_or, or_false, exists_and_left, and_assoc, decide_eq_true_eq, Bool.not_eq_true', decide_eq_false_iff_not, Bool.not_false, Bool.not_true, if_true, if_false, Bool.false_eq_true, ↓reduceIte])
structure MCal (P : Program) (w : World) (K : PySem.W.Frag) (mg : Str → Option Value) (base : Heap) (CX : CXT) (k : Nat) (C : Addr) (nm : Str) (ps : List Str) (sp : Sp) (f : Addr) (fd : FuncData) : Prop where
  ok : FnOk P w K mg base CX k f fd ps sp
  m : Meth K C nm f
  b : Binds K fd ps []
/-- the fields of a rule -/
def ruF (c : Cn) : List (Str × V) := [("newest", .int (c.n : Nat)), ("days", .int (c.d : Nat)), ("weeks", .int (c.w : Nat)), ("months", .int (c.m : Nat))]
def RuleAt (C : Addr) (H : Hp) (p : Addr) (c : Cn) : Prop := ∃ dx, H p = some (.ins C dx (ruF c))
theorem ruN (c : Cn) : (ruF c).lookup ("newest" : Str) = some (.int (c.n : Nat)) := rfl
theorem ruD (c : Cn) : (ruF c).lookup ("days" : Str) = some (.int (c.d : Nat)) := rfl
theorem ruW (c : Cn) : (ruF c).lookup ("weeks" : Str) = some (.int (c.w : Nat)) := rfl
theorem ruM (c : Cn) : (ruF c).lookup ("months" : Str) = some (.int (c.m : Nat)) := rfl
section
variable {P : Program} {w : World} {K : PySem.W.Frag} {mg : Str → Option Value} {base : Heap} {R Pp C0 : Addr} {Ps : List Addr}
theorem Gw.rule {H H' : Hp} {p : Addr} {c : Cn} (g : Gw Ps H H') (t : Tb Ps H) (h : RuleAt C0 H p c) : RuleAt C0 H' p c := by
  obtain ⟨dx, h⟩ := h
  exact ⟨dx, g.2 _ _ (t.not h fun _ z => by cases z) h⟩
/-! __init__: self 0 last 1 days 2 weeks 3 months 4 -/
abbrev s_init : Stmt := inClass (topS 15) 0
theorem sc_init : FnScope ["self", "last", "days", "weeks", "months"] ["self", "last", "days", "weeks", "months"] (defScope s_init) := ⟨rfl, rfl, rfl, by decide +kernel, rfl, by decide +kernel, by decide +kernel⟩
def sp_init (R C0 : Addr) (Ps : List Addr) : Sp := fun vs H Q E => ∃ (p dx : Addr) (a b c d : Int), vs = [.ref p, .int a, .int b, .int c, .int d] ∧ H p = some (.ins C0 dx []) ∧ Sm a ∧ Sm b ∧ Sm c ∧ Sm d ∧ Tb Ps H ∧
  (∀ n : Cn, a = (n.n : Nat) → b = (n.d : Nat) → c = (n.w : Nat) → d = (n.m : Nat) → Q .non (upd H p (.ins C0 dx (ruF n)))) ∧ ((a < 0 ∨ b < 0 ∨ c < 0 ∨ d < 0) → ∀ H', Gw Ps H H' → E (.ref R) none H')
theorem ok_init {f : Addr} {fd : FuncData} {k : Nat} (F : Fun K "__init__" "Rule.__init__" s_init f fd) (T : Txt K mg R Pp C0) : FnOk P w K mg base (L2.CX P w) (k + 1) f fd ["self", "last", "days", "weeks", "months"] (sp_init R C0 Ps) := by
  refine F.okX sc_init (fun vs H Q E h => ?_) (fun cdv A outer s H vs Q E hr h => ?_)
  · obtain ⟨p, dx, a, b, c, d, rfl, _⟩ := h
    rfl
  · obtain ⟨p, dx, a, b, c, d, rfl, hp, sa, sb, sc, sd, tb, h1, h2⟩ := h
    refine ⟨_, (pss_cons (ps_if (pt_cmpR op_lt (pe_callB (RU.cr_min4 rfl) (by rfl) T.z_min (by decide +kernel) (pa_cons (pv 1) (pa_cons (pv 2) (pa_cons (pv 3) (pa_cons (pv 4) pa_nil))))) pe_int (nomark _))
      (pss_one (ps_raise rfl (takes_of rfl rfl rfl rfl) (pmk_own1 PySem.F.excBase_ValueError T.x_R T.g_R T.k_R (raises_own T.b_R T.t_R) (by rfl) (pe_joined (.cons pe_str (.cons (RU.pe_fmtTI hr (pe_tup (pa_cons (pv 1) (pa_cons (pv 2) (pa_cons (pv 3) (pa_cons (pv 4) pa_nil)))))) .nil)))))) pss_nil)
    (pss_cons (ps_fld (pv 0) (pv 1) rfl)
    (pss_cons (ps_fld (pv 0) (pv 2) rfl)
    (pss_cons (ps_fld (pv 0) (pv 3) rfl)
    (pss_one (ps_fld (pv 0) (pv 4) rfl)))))), ?_⟩
    walk_at "ev8"
    refine ⟨a, b, c, d, rfl, fun m m1 m2 => ⟨m, rfl, ?_⟩⟩
    have mn : m < 0 → a < 0 ∨ b < 0 ∨ c < 0 ∨ d < 0 := fun z => by
      simp only [List.mem_cons, List.not_mem_nil, or_false] at m1
      rcases m1 with rfl | rfl | rfl | rfl
      · exact .inl z
      · exact .inr (.inl z)
      · exact .inr (.inr (.inl z))
      · exact .inr (.inr (.inr z))
    by_cases neg : m < 0
    · rw [if_pos neg]
      refine ⟨by decide, ?_⟩
      unfold RU.tFmtTI
      walk_at "ev8"
      refine ⟨by decide, fun q hq => ⟨[a, b, c, d], SqT_of upd_same, (by show 4 ≤ 10; decide), fun i hi => ?_, fun y hy => ⟨?_, h2 (mn neg) _ ((Gw.refl tb).new hq)⟩⟩⟩
      · simp only [List.mem_cons, List.not_mem_nil, or_false] at hi
        rcases hi with rfl | rfl | rfl | rfl <;> assumption
      · rw [XT.str_app_len]
        have e : (Str.empty ++ Str.ofString "a count below nought: ").length ≤ 100 := by decide
        have e2 : 30000 ≤ sizeLine := by decide
        omega
    · rw [if_neg neg]
      have all : ∀ y ∈ [a, b, c, d], 0 ≤ y := fun y hy => by
        have := m2 y hy
        omega
      obtain ⟨na, rfl⟩ : ∃ n : Nat, a = n := ⟨a.toNat, by have := all a (by simp); omega⟩
      obtain ⟨nb, rfl⟩ : ∃ n : Nat, b = n := ⟨b.toNat, by have := all b (by simp); omega⟩
      obtain ⟨nc, rfl⟩ : ∃ n : Nat, c = n := ⟨c.toNat, by have := all c (by simp); omega⟩
      obtain ⟨nd, rfl⟩ : ∃ n : Nat, d = n := ⟨d.toNat, by have := all d (by simp); omega⟩
      refine ⟨_, rfl, _, rfl, p, C0, dx, _, rfl, hp, T.cl, T.nN, (by decide), ?_⟩
      refine ⟨_, rfl, _, rfl, p, C0, dx, _, rfl, upd_same, T.cl, T.nD, (by show 1 < 1000; decide), ?_⟩
      refine ⟨_, rfl, _, rfl, p, C0, dx, _, rfl, upd_same, T.cl, T.nW, (by show 2 < 1000; decide), ?_⟩
      refine ⟨_, rfl, _, rfl, p, C0, dx, _, rfl, upd_same, T.cl, T.nM, (by show 3 < 1000; decide), ?_⟩
      rw [upd_upd, upd_upd, upd_upd]
      exact h1 ⟨na, nb, nc, nd⟩ rfl rfl rfl rfl
/-! parts -/
abbrev s_parts : Stmt := inClass (topS 15) 1
theorem sc_parts : FnScope ["self"] ["self"] (defScope s_parts) := ⟨rfl, rfl, rfl, by decide +kernel, rfl, by decide +kernel, by decide +kernel⟩
/-- the three kinds of spans -/
def PartsAt (H : Hp) (p : Addr) (c : Cn) : Prop := ∃ t1 t2 t3, H p = some (.tup [.ref t1, .ref t2, .ref t3]) ∧ H t1 = some (.tup [.int 24, .int (c.d : Nat)]) ∧ H t2 = some (.tup [.int 168, .int (c.w : Nat)]) ∧ H t3 = some (.tup [.int 672, .int (c.m : Nat)])
def sp_parts (C0 : Addr) (Ps : List Addr) : Sp := fun vs H Q E => ∃ (p : Addr) (c : Cn), vs = [.ref p] ∧ RuleAt C0 H p c ∧ Tb Ps H ∧ ∀ H' q, Gw Ps H H' → PartsAt H' q c → Q (.ref q) H'
theorem ok_parts {f : Addr} {fd : FuncData} {k : Nat} (F : Fun K "parts" "Rule.parts" s_parts f fd) (T : Txt K mg R Pp C0) : FnOk P w K mg base (L2.CX P w) (k + 1) f fd ["self"] (sp_parts C0 Ps) := by
  refine F.okX sc_parts (fun vs H Q E h => ?_) (fun cdv A outer s H vs Q E hr h => ?_)
  · obtain ⟨p, c, rfl, _⟩ := h
    rfl
  · obtain ⟨p, c, rfl, hp, tb, hq⟩ := h
    obtain ⟨td, ed⟩ := T.d_DAY
    obtain ⟨tw, ew⟩ := T.d_WEEK
    obtain ⟨tm, em⟩ := T.d_MONTH
    refine ⟨_, (pss_one (ps_ret (pe_tup (pa_cons (pe_tup (pa_cons (pe_glob (v := .int 24) (by rfl) ed ⟨_, rfl⟩) (pa_cons (pe_fld (pv 0) rfl) pa_nil))) (pa_cons (pe_tup (pa_cons (pe_glob (v := .int 168) (by rfl) ew ⟨_, rfl⟩) (pa_cons (pe_fld (pv 0) rfl) pa_nil))) (pa_cons (pe_tup (pa_cons (pe_glob (v := .int 672) (by rfl) em ⟨_, rfl⟩) (pa_cons (pe_fld (pv 0) rfl) pa_nil))) pa_nil)))))), ?_⟩
    walk_at "ev8"
    obtain ⟨dx, h0⟩ := hp
    refine ⟨C0, dx, _, h0, T.cl, T.nD, _, ruD c, by decide, fun t1 f1 => ?_⟩
    have n1 : p ≠ t1 := fun z => by
      rw [← z, h0] at f1
      cases f1
    refine ⟨C0, dx, _, by rw [upd_ne n1]; exact h0, T.cl, T.nW, _, ruW c, by decide, fun t2 f2 => ?_⟩
    obtain ⟨f2a, f2b⟩ := upd_none f2
    have n2 : p ≠ t2 := fun z => by
      rw [← z, h0] at f2a
      cases f2a
    refine ⟨C0, dx, _, by rw [upd_ne n2, upd_ne n1]; exact h0, T.cl, T.nM, _, ruM c, by decide, fun t3 f3 => ?_⟩
    obtain ⟨f3a, f3b⟩ := upd_none f3
    obtain ⟨f3c, f3d⟩ := upd_none f3a
    refine ⟨by decide, fun q f4 => ?_⟩
    obtain ⟨f4a, f4b⟩ := upd_none f4
    obtain ⟨f4c, f4d⟩ := upd_none f4a
    obtain ⟨f4e, f4f⟩ := upd_none f4c
    have g := (((Gw.refl tb).new (o := .tup [.int 24, .int (c.d : Nat)]) f1).new (o := .tup [.int 168, .int (c.w : Nat)]) f2).new (o := .tup [.int 672, .int (c.m : Nat)]) f3
    refine hq _ q (g.new f4) ⟨t1, t2, t3, upd_same, ?_, ?_, ?_⟩
    · rw [upd_ne (Ne.symm f4f), upd_ne (Ne.symm f3d), upd_ne (Ne.symm f2b), upd_same]
    · rw [upd_ne (Ne.symm f4d), upd_ne (Ne.symm f3b), upd_same]
    · rw [upd_ne (Ne.symm f4b), upd_same]
/-! shown -/
abbrev s_shown : Stmt := inClass (topS 15) 5
theorem sc_shown : FnScope ["self"] ["self"] (defScope s_shown) := ⟨rfl, rfl, rfl, by decide +kernel, rfl, by decide +kernel, by decide +kernel⟩
def cnL (c : Cn) : List Int := [(c.n : Nat), (c.d : Nat), (c.w : Nat), (c.m : Nat)]
def sp_shown (C0 : Addr) (Ps : List Addr) : Sp := fun vs H Q E => ∃ (p : Addr) (c : Cn), vs = [.ref p] ∧ RuleAt C0 H p c ∧ Tb Ps H ∧ NewT Ps H ((cnL c).map V.int) Q
theorem ok_shown {f : Addr} {fd : FuncData} {k : Nat} (F : Fun K "shown" "Rule.shown" s_shown f fd) (T : Txt K mg R Pp C0) : FnOk P w K mg base (L2.CX P w) (k + 1) f fd ["self"] (sp_shown C0 Ps) := by
  refine F.okX sc_shown (fun vs H Q E h => ?_) (fun cdv A outer s H vs Q E hr h => ?_)
  · obtain ⟨p, c, rfl, _⟩ := h
    rfl
  · obtain ⟨p, c, rfl, ⟨dx, h0⟩, tb, hq⟩ := h
    refine ⟨_, (pss_one (ps_ret (pe_tup (pa_cons (pe_fld (pv 0) rfl) (pa_cons (pe_fld (pv 0) rfl) (pa_cons (pe_fld (pv 0) rfl) (pa_cons (pe_fld (pv 0) rfl) pa_nil))))))), ?_⟩
    walk_at "ev8"
    refine ⟨C0, dx, _, h0, T.cl, T.nN, _, ruN c, C0, dx, _, h0, T.cl, T.nD, _, ruD c, C0, dx, _, h0, T.cl, T.nW, _, ruW c, C0, dx, _, h0, T.cl, T.nM, _, ruM c, by decide, fun q f1 => ?_⟩
    exact hq _ q ((Gw.refl tb).new f1) f1 upd_same
/-! last_of -/
abbrev s_last_of : Stmt := topS 16
theorem sc_last_of : FnScope ["rows", "count"] ["rows", "count"] (defScope s_last_of) := ⟨rfl, rfl, rfl, by decide +kernel, rfl, by decide +kernel, by decide +kernel⟩
def sp_last_of (K : PySem.W.Frag) (Ps : List Addr) : Sp := fun vs H Q E => ∃ (a : Addr) (ns : List Int) (c : Nat), vs = [.ref a, .int (c : Nat)] ∧ SqL K H a (ns.map V.int) ∧ ns.length ≤ 1000 ∧ Tb Ps H ∧ NewL Ps H ((lastN c ns).map V.int) Q
theorem ok_last_of {f : Addr} {fd : FuncData} {k : Nat} (F : Fun K "last_of" "last_of" s_last_of f fd) (T : Txt K mg R Pp C0) : FnOk P w K mg base (L2.CX P w) (k + 1) f fd ["rows", "count"] (sp_last_of K Ps) := by
  refine F.okX sc_last_of (fun vs H Q E h => ?_) (fun cdv A outer s H vs Q E hr h => ?_)
  · obtain ⟨a, ns, c, rfl, _⟩ := h
    rfl
  · obtain ⟨a, ns, c, rfl, ha, hl, tb, hq⟩ := h
    refine ⟨_, (pss_one (ps_ret (pe_slice sl_list (pv 0) (po_some (pe_callB (call_max2 rfl) (by rfl) T.z_max (by decide +kernel) (pa_cons pe_int (pa_cons (pe_op op_sub (pe_callB call_len_seq (by rfl) T.z_len (by decide +kernel) (pa_cons (pv 0) pa_nil)) (pv 1)) pa_nil)))) po_none))), ?_⟩
    walk_at "ev8"
    refine ⟨_, .inl ha, ?_⟩
    rw [List.length_map]
    have e : (if ((ns.length : Nat) : Int) - (c : Nat) > 0 then ((ns.length : Nat) : Int) - (c : Nat) else 0) = ((ns.length - c : Nat) : Int) := by
      split <;> omega
    rw [e]
    refine ⟨a, _, rfl, ha, fun q f1 => ?_⟩
    rw [cutV_drop]
    refine hq _ q ((Gw.refl tb).new f1) f1 ?_
    rw [upd_same]
    unfold lastN
    rw [List.map_drop]
end
end K8

set_option maxRecDepth 100000
set_option maxHeartbeats 4000000
namespace K8
open PySem PySem.Spec PyProof.Rows L2
open XT (Sm pe_msg)
open SkE (pmk_own1)
local macro_rules | `(tactic| walk_at "ev8") => `(tactic| simp only [tSeq, tIfS, tNot, XT.tChain3, rI0, tC, tVar, tRet, tTup, tLst, tCons, tNil, tJs, tFmt, tNext, tTest, tOp, tUn, rI, rU, tCall, tCB, tAnd, tOr, tB, tDrop, tAsg, gName, tAug, tPar, ipI, tBM, rAppend, tSl, rSlS, tPart, tNoPart, tIf, tM1, rEq, rNe, tFld, tMeth, tMake, L2.start, List.map_cons, List.map_nil, List.length_cons, List.length_nil, Nat.reduceAdd, Nat.reduceSub, Nat.sub_self, List.replicate_zero, List.append_nil, List.replicate_succ, List.cons_append, List.nil_append,
  List.getElem?_cons_zero, List.getElem?_cons_succ, Option.some.injEq, exists_eq_left', exists_eq_left, V.int.injEq, V.str.injEq, V.bl.injEq, V.ref.injEq, List.set_cons_zero, List.set_cons_succ, List.cons.injEq, and_true, true_and, reduceCtorEq, false_and, exists_false, false_or, or_false, exists_and_left, and_assoc, decide_eq_true_eq, Bool.not_eq_true', decide_eq_false_iff_not, Bool.not_false, Bool.not_true, if_true, if_false, Bool.false_eq_true, ↓reduceIte])
section
variable {P : Program} {w : World} {K : PySem.W.Frag} {mg : Str → Option Value} {base : Heap} {R Pp C0 : Addr} {Ps : List Addr}
/-- the times ns at a, a list or a tuple; L each once, rising -/
structure Tms (K : PySem.W.Frag) (H : Hp) (a : Addr) (ns L : List Int) : Prop where
  at_ : SqL K H a (ns.map V.int) ∨ SqT K H a (ns.map V.int)
  ss : SS L
  mem : ∀ x, x ∈ L ↔ x ∈ ns
  len : ns.length ≤ 40
  lo : ∀ x ∈ ns, 0 ≤ x ∧ x ≤ 100000
theorem Tms.gw {H H' : Hp} {a : Addr} {ns L : List Int} (t : Tms K H a ns L) (tb : Tb Ps H) (g : Gw Ps H H') : Tms K H' a ns L := ⟨t.at_.imp (g.sqL tb) (g.sqT tb), t.ss, t.mem, t.len, t.lo⟩
theorem Tms.lenL {H : Hp} {a : Addr} {ns L : List Int} (t : Tms K H a ns L) : L.length ≤ 40 := Nat.le_trans (len_le t.ss.nodup fun x hx => (t.mem x).1 hx) t.len
theorem upd_self {H : Hp} {d : Addr} {o : HO} (h : H d = some o) : upd H d o = H := by
  funext b
  by_cases e : b = d
  · rw [e, upd_same, h]
  · rw [upd_ne e]
/-- sorted(set(times)) -/
theorem srtSet {a : Addr} {ns L : List Int} {ta : TA} {σ : L2.St} {H : Hp} {Q : VK} (tb : Tb Ps H) (t : Tms K H a ns L) (h : NewL Ps H (L.map V.int) Q) (ha : ∀ W : List V → Hp → Prop, W [.ref a] H → ta σ H W) : tCB (rSortedSet w) (tCons (tCB (SD.rSetI K w) ta) tNil) σ H Q := by
  have go : tCB (SD.rSetI K w) ta σ H (fun v H1 => rSortedSet w [v] H1 Q) := ?_
  · exact go
  refine ha _ ⟨a, ns, rfl, t.at_, Nat.le_trans t.len (by decide), fun p c hp hc => ?_⟩
  refine ⟨p, _, c, rfl, upd_same, by have := t.len; omega, fun ns' q h1 h2 h3 hq => ?_⟩
  have e : ns' = L := ss_ext h1 t.ss fun x => by rw [h2 x, decide_eq_true_eq, t.mem x]
  rw [e]
  exact h _ q (((Gw.refl tb).new hp).new hq) (upd_none hq).1 upd_same
theorem srtRaw {a : Addr} {ns L : List Int} {H : Hp} {Q : VK} (tb : Tb Ps H) (t : Tms K H a ns L) (h : NewL Ps H (L.map V.int) Q) : SD.rSetI K w [.ref a] H (fun x H1 => rSortedSet w [x] H1 Q) :=
  srtSet (ta := fun _ H W => W [.ref a] H) (σ := []) tb t h fun _ q => q
def spanV (l : Int) (L : List Int) : List (Key × V) := (ends (fun t => t / l) L).map fun x => (.inl (x / l), .int x)
theorem putK_P (l t : Int) (m : List Int) : putK (m.map fun x => ((.inl (x / l) : Key), V.int x)) (.inl (t / l)) (.int t) = (putP (m.map fun x => (x / l, x)) (t / l) t).map fun e => ((.inl e.1 : Key), V.int e.2) := by
  unfold putK putP
  have e1 : ((m.map fun x => ((.inl (x / l) : Key), V.int x)).any fun kv => decide (kv.1 = .inl (t / l))) = ((m.map fun x => (x / l, x)).any fun e => decide (e.1 = t / l)) := by
    rw [List.any_map, List.any_map]
    congr 1
    funext x
    show decide ((Sum.inl (x / l) : Key) = Sum.inl (t / l)) = decide (x / l = t / l)
    exact decide_eq_decide.mpr ⟨Sum.inl.inj, fun z => by rw [z]⟩
  rw [e1]
  split
  · rw [List.map_map, List.map_map, List.map_map]
    refine List.map_congr_left fun x _ => ?_
    show (if (Sum.inl (x / l) : Key) = Sum.inl (t / l) then ((Sum.inl (x / l) : Key), V.int t) else (Sum.inl (x / l), V.int x)) = _
    by_cases c : x / l = t / l
    · rw [if_pos (by rw [c])]
      simp [c]
    · rw [if_neg (fun z => c (Sum.inl.inj z))]
      simp [c]
  · rw [List.map_append, List.map_map]
    rfl
theorem spanV_snoc {l t : Int} (hl : 0 < l) {L : List Int} (h : SS L) (lt : ∀ x ∈ L, x < t) : putK (spanV l L) (.inl (t / l)) (.int t) = spanV l (L ++ [t]) := by
  unfold spanV
  rw [putK_P, putP_ends (q := fun t => t / l) (fun a b ab => Int.ediv_le_ediv hl ab) h lt, List.map_map]
  rfl
/-! span_ends: slots times=0 length=1 count=2 ends=3 time=4 -/
abbrev s_span_ends : Stmt := topS 17
theorem sc_span_ends : FnScope ["times", "length", "count", "ends", "time"] ["times", "length", "count"] (defScope s_span_ends) := ⟨rfl, rfl, rfl, by decide +kernel, rfl, by decide +kernel, by decide +kernel⟩
def sp_span_ends (K : PySem.W.Frag) (Ps : List Addr) : Sp := fun vs H Q E => ∃ (a : Addr) (ns L : List Int) (l : Int) (c : Nat), vs = [.ref a, .int l, .int (c : Nat)] ∧ Tms K H a ns L ∧ 0 < l ∧ l ≤ 1000 ∧ Tb Ps H ∧ NewL Ps H ((lastN c (ends (fun t => t / l) L)).map V.int) Q
theorem ok_span_ends {f fe : Addr} {fd fde : FuncData} {k ke : Nat} (F : Fun K "span_ends" "span_ends" s_span_ends f fd) (T : Txt K mg R Pp C0) (G1 : Cal P w K mg base (L2.CX P w) ke "last_of" ["rows", "count"] (sp_last_of K Ps) fe fde) (hk : ke ≤ k) : FnOk P w K mg base (L2.CX P w) (k + 1) f fd ["times", "length", "count"] (sp_span_ends K Ps) := by
  refine F.okX sc_span_ends (fun vs H Q E h => ?_) (fun cdv A outer s H vs Q E hr h => ?_)
  · obtain ⟨a, ns, L, l, c, rfl, _⟩ := h
    rfl
  · obtain ⟨a, ns, L, l, c, rfl, ht, l0, l1, tb, hq⟩ := h
    have hu := hr.units
    have hu1 : (A.deeper (envOfC "span_ends" (defScope s_span_ends) s.heap.objs.size f cdv)).units + 1 < cLine := by omega
    refine ⟨_, (pss_cons (ps_set (i := 3) sc_span_ends.nd rfl (.inl rfl) pe_dnewK)
    (pss_cons (ps_for (passes_of rfl) rfl (pi_list (pe_callB (cr_sortedSet rfl) (by rfl) T.z_sorted (by decide +kernel) (pa_cons (pe_callTy (SD.cr_setI rfl) (by rfl) T.z_set (by decide +kernel) (pa_cons (pv 0) pa_nil)) pa_nil))) (pg_name (i := 4) sc_span_ends.nd rfl (.inl rfl))
      (pss_one (ps_dput hu1 (pv 3) (pe_op op_fdiv (pv 4) (pv 1)) (pv 4) rfl)))
    (pss_one (ps_ret (pe_call G1.ok (hr.mono hk) (by rfl) G1.g G1.kp G1.b .nil passF (pa_cons (RU.pe_listVals rfl (by rfl) T.z_list (by decide +kernel) (pv 3)) (pa_cons (pv 2) pa_nil))))))), ?_⟩
    walk_at "ev8"
    refine fun d hd => ?_
    have g0 := (Gw.refl tb).new (o := .dK []) hd
    refine srtSet g0.1 (ht.gw tb g0) (fun H1 q g1 hq0 hL => ?_) (fun W hW => ⟨_, rfl, hW⟩)
    have nd : d ∉ Ps := tb.none hd
    have hd1 : H1 d = some (.dK []) := g1.2 _ _ nd upd_same
    have nqd : q ≠ d := fun z => by
      rw [z, upd_same] at hq0
      cases hq0
    have g01 : Gw Ps H H1 := g0.trans g1
    refine ⟨q, rfl, ⟨_, SqL.of hL⟩, for_list (xs := L.map V.int) (fun i σ H' => (∃ z, σ = [some (.ref a), some (.int l), some (.int (c : Nat)), some (.ref d), z]) ∧ H' = upd H1 d (.dK (spanV l (L.take i)))) ⟨⟨_, rfl⟩, (upd_self hd1).symm⟩ ?_ ?_ ?_⟩
    · rintro i σ H' hi ⟨_, rfl⟩
      exact SqL.of (by rw [upd_ne nqd]; exact hL)
    · rintro i x σ H' hi ⟨⟨z, rfl⟩, rfl⟩
      rw [List.getElem?_map] at hi
      obtain ⟨t, ht2, rfl⟩ := Option.map_eq_some_iff.mp hi
      walk_at "ev8"
      refine ⟨_, rfl, _, rfl, _, rfl, _, rfl, t, l, rfl, rfl, ⟨l0, by omega⟩, d, _, rfl, DPut.k (k := .inl (t / l)) upd_same ?_, ⟨_, rfl⟩, ?_⟩
      · unfold spanV
        rw [List.length_map]
        refine Nat.lt_of_le_of_lt (List.length_filter_le _ _) ?_
        rw [List.length_take]
        have := ht.lenL
        exact Nat.lt_of_le_of_lt (Nat.min_le_right _ _) (Nat.lt_of_le_of_lt this (by decide))
      · rw [upd_upd, spanV_snoc l0 (ss_take ht.ss i) (take_lt ht.ss ht2), List.take_add_one, ht2]
        rfl
    · rintro σ H' ⟨⟨z, rfl⟩, rfl⟩
      rw [List.length_map, List.take_length]
      walk_at "ev8"
      refine ⟨_, rfl, d, _, rfl, upd_same, fun b hb => ?_⟩
      have nqb := (upd_none hb).1
      have gd : Gw Ps H (upd H1 d (.dK (spanV l L))) := g01.set hd nd
      have gb := gd.new (o := .lst ((spanV l L).map (·.2))) hb
      have eL : (spanV l L).map (·.2) = (ends (fun t => t / l) L).map V.int := by
        unfold spanV
        rw [List.map_map]
        rfl
      refine ⟨b, ends (fun t => t / l) L, c, rfl, SqL.of (by rw [upd_same, eL]), ?_, gb.1, fun H2 p g2 hp hl2 => ?_⟩
      · refine Nat.le_trans (List.length_filter_le _ _) ?_
        have := ht.lenL
        omega
      · exact hq H2 p (gb.trans g2) (gb.none tb hp) hl2
end
end K8

set_option maxRecDepth 100000
set_option maxHeartbeats 4000000
namespace K8
open PySem PySem.Spec PyProof.Rows L2
open XT (Sm pe_msg)
open SkE (pmk_own1)
local macro_rules | `(tactic| walk_at "ev8") => `(tactic| simp only [tSeq, tIfS, tNot, XT.tChain3, rI0, tC, tVar, tRet, tTup, tLst, tCons, tNil, tJs, tFmt, tNext, tTest, tOp, tUn, rI, rU, tCall, tCB, tAnd, tOr, tB, tDrop, tAsg, gName, tAug, tPar, ipI, tBM, rAppend, tSl, rSlS, tPart, tNoPart, tIf, tM1, rEq, rNe, tFld, tMeth, tMake, L2.start, List.map_cons, List.map_nil, List.length_cons, List.length_nil, Nat.reduceAdd, Nat.reduceSub, Nat.sub_self, List.replicate_zero, List.append_nil, List.replicate_succ, List.cons_append, List.nil_append,
  List.getElem?_cons_zero, List.getElem?_cons_succ, Option.some.injEq, exists_eq_left', exists_eq_left, V.int.injEq, V.str.injEq, V.bl.injEq, V.ref.injEq, List.set_cons_zero, List.set_cons_succ, List.cons.injEq, and_true, true_and, reduceCtorEq, false_and, exists_false, false_or, or_false, exists_and_left, and_assoc, decide_eq_true_eq, Bool.not_eq_true', decide_eq_false_iff_not, Bool.not_false, Bool.not_true, if_true, if_false, Bool.false_eq_true, ↓reduceIte])
section
variable {P : Program} {w : World} {K : PySem.W.Frag} {mg : Str → Option Value} {base : Heap} {R Pp C0 : Addr} {Ps : List Addr}
def Cn.ok (c : Cn) : Prop := c.n + c.d + c.w + c.m ≤ 40
def Bl (c : Cn) (L : List Int) : Nat → List Int
  | 0 => A0 c L
  | 1 => A0 c L ++ A1 c L
  | 2 => A0 c L ++ A1 c L ++ A2 c L
  | _ => Al c L
theorem al_len {c : Cn} (h : c.ok) (L : List Int) : (Al c L).length ≤ 40 := by
  unfold Al A0 A1 A2 A3
  rw [List.length_append, List.length_append, List.length_append]
  have := lastN_len c.n L
  have := lastN_len c.d (ends q1 L)
  have := lastN_len c.w (ends q2 L)
  have := lastN_len c.m (ends q3 L)
  unfold Cn.ok at h
  omega
theorem bl_len {c : Cn} (h : c.ok) (L : List Int) : ∀ i, (Bl c L i).length ≤ 40 := by
  intro i
  have := al_len h L
  unfold Al at this
  rw [List.length_append, List.length_append, List.length_append] at this
  match i with
  | 0 => show (A0 c L).length ≤ 40; omega
  | 1 => show (A0 c L ++ A1 c L).length ≤ 40; rw [List.length_append]; omega
  | 2 => show (A0 c L ++ A1 c L ++ A2 c L).length ≤ 40; rw [List.length_append, List.length_append]; omega
  | n + 3 => exact al_len h L
abbrev s_stays : Stmt := inClass (topS 15) 2
theorem sc_stays : FnScope ["self", "times", "stays", "length", "count"] ["self", "times"] (defScope s_stays) := ⟨rfl, rfl, rfl, by decide +kernel, rfl, by decide +kernel, by decide +kernel⟩
def sp_stays (K : PySem.W.Frag) (C0 : Addr) (Ps : List Addr) : Sp := fun vs H Q E => ∃ (p a : Addr) (c : Cn) (ns L : List Int), vs = [.ref p, .ref a] ∧ RuleAt C0 H p c ∧ c.ok ∧ Tms K H a ns L ∧ Tb Ps H ∧ NewT Ps H ((ST c L).map V.int) Q
theorem ok_stays {f f1 f2 f3 : Addr} {fd fd1 fd2 fd3 : FuncData} {k k1 k2 k3 : Nat} (F : Fun K "stays" "Rule.stays" s_stays f fd) (T : Txt K mg R Pp C0) (G1 : Cal P w K mg base (L2.CX P w) k1 "last_of" ["rows", "count"] (sp_last_of K Ps) f1 fd1) (G2 : Cal P w K mg base (L2.CX P w) k2 "span_ends" ["times", "length", "count"] (sp_span_ends K Ps) f2 fd2)
    (M1 : MCal P w K mg base (L2.CX P w) k3 C0 "parts" ["self"] (sp_parts C0 Ps) f3 fd3) (h1 : k1 ≤ k) (h2 : k2 ≤ k) (h3 : k3 ≤ k) : FnOk P w K mg base (L2.CX P w) (k + 1) f fd ["self", "times"] (sp_stays K C0 Ps) := by
  refine F.okX sc_stays (fun vs H Q E h => ?_) (fun cdv A outer s H vs Q E hr h => ?_)
  · obtain ⟨p, a, c, ns, L, rfl, _⟩ := h
    rfl
  · obtain ⟨p, a, c, ns, L, rfl, hp, hc, ht, tb, hq⟩ := h
    refine ⟨_, (pss_cons (ps_set (i := 2) sc_stays.nd rfl (.inl rfl) (pe_call G1.ok (hr.mono h1) (by rfl) G1.g G1.kp G1.b .nil passF (pa_cons (pe_callB (cr_sortedSet rfl) (by rfl) T.z_sorted (by decide +kernel) (pa_cons (pe_callTy (SD.cr_setI rfl) (by rfl) T.z_set (by decide +kernel) (pa_cons (pv 1) pa_nil)) pa_nil)) (pa_cons (pe_fld (pv 0) rfl) pa_nil))))
    (pss_cons (ps_for (passes_of rfl) rfl (pi_tup (pe_meth0 (pv 0) T.cl M1.m M1.ok (hr.mono h3) M1.b .nil passF)) (pg_tup rfl (pgs_cons (pg_name (i := 3) sc_stays.nd rfl (.inl rfl)) (pgs_cons (pg_name (i := 4) sc_stays.nd rfl (.inl rfl)) pgs_nil)))
      (pss_one (ps_set (i := 2) sc_stays.nd rfl (.inl rfl) (pe_op op_cat (pv 2) (pe_call G2.ok (hr.mono h2) (by rfl) G2.g G2.kp G2.b .nil passF (pa_cons (pv 1) (pa_cons (pv 3) (pa_cons (pv 4) pa_nil))))))))
    (pss_one (ps_ret (pe_callTy call_tuple_of (by rfl) T.z_tuple (by decide +kernel) (pa_cons (pe_callB (cr_sortedSet rfl) (by rfl) T.z_sorted (by decide +kernel) (pa_cons (pe_callTy (SD.cr_setI rfl) (by rfl) T.z_set (by decide +kernel) (pa_cons (pv 2) pa_nil)) pa_nil)) pa_nil)))))), ?_⟩
    walk_at "ev8"
    obtain ⟨dx, h0⟩ := hp
    have npP : p ∉ Ps := tb.not h0 fun _ z => by cases z
    refine srtRaw tb ht (fun H1 q g1 hq0 hL => ?_)
    refine ⟨C0, dx, _, g1.2 _ _ npP h0, T.cl, T.nN, _, ruN c, q, L, c.n, rfl, SqL.of hL, Nat.le_trans ht.lenL (by decide), g1.1, fun H2 b g2 hb0 hB => ?_⟩
    have g12 := g1.trans g2
    refine ⟨_, rfl, p, dx, _, rfl, g12.2 _ _ npP h0, rfl, p, c, rfl, ⟨dx, g12.2 _ _ npP h0⟩, g12.1, fun H3 t g3 hP => ?_⟩
    obtain ⟨t1, t2, t3, e0, e1, e2, e3⟩ := hP
    have g13 := g12.trans g3
    have nbP : b ∉ Ps := g2.1.not hB fun _ z => by cases z
    have ntP : t ∉ Ps := g3.1.not e0 fun _ z => by cases z
    have stp : ∀ (i : Nat) (tj : Addr) (l : Int) (cc : Nat) (b : Addr) (z3 z4 : Option V) (H' : Hp) (Qx : L2.St → Hp → Prop), H3 tj = some (.tup [.int l, .int (cc : Nat)]) → 0 < l → l ≤ 1000 → Bl c L (i + 1) = Bl c L i ++ lastN cc (ends (fun t => t / l) L) → Gw Ps H3 H' → H' b = some (.lst ((Bl c L i).map V.int)) →
        (∀ b' z3 z4 H'', Gw Ps H3 H'' → H'' b' = some (.lst ((Bl c L (i + 1)).map V.int)) → Qx [some (.ref p), some (.ref a), some (.ref b'), z3, z4] H'') →
        gTup K 2 (gCons (gName 3) (gCons (gName 4) gNil)) (.ref tj) [some (.ref p), some (.ref a), some (.ref b), z3, z4] H' fun σ2 H2 => tAsg (tOp rCat (tVar 2) (tCall (sp_span_ends K Ps) [] (fun _ _ _ => False) (tCons (tVar 1) (tCons (tVar 3) (tCons (tVar 4) tNil))))) (gName 2) { nx := Qx, rt := Q, ct := Qx, bk := Qx } σ2 H2 := by
      intro i tj l cc b z3 z4 H' Qx etj l0 l1 eB gi hb k
      have ntj : tj ∉ Ps := g3.1.not etj fun _ z => by cases z
      refine gTup2 (SqT_of (gi.2 _ _ ntj etj)) ?_
      walk_at "ev8"
      refine ⟨a, ns, L, l, cc, rfl, ht.gw tb (g13.trans gi), l0, l1, gi.1, fun H4 e g4 he0 hE => ?_⟩
      have nb : b ∉ Ps := gi.1.not hb fun _ z => by cases z
      refine ⟨b, e, _, _, rfl, rfl, g4.2 _ _ nb hb, hE, ?_, fun r hr => ?_⟩
      · rw [List.length_map, List.length_map]
        have h1 := bl_len hc L i
        have h2 := bl_len hc L (i + 1)
        rw [eB, List.length_append] at h2
        have h3 : 100 ≤ sizeLine := by decide
        omega
      · refine k r _ _ _ ((gi.trans g4).new hr) ?_
        rw [upd_same, eB, List.map_append]
    refine ⟨t, rfl, ⟨_, SqT_of e0⟩, for_tup (xs := [.ref t1, .ref t2, .ref t3]) (fun i σ H' => ∃ b z3 z4, σ = [some (.ref p), some (.ref a), some (.ref b), z3, z4] ∧ Gw Ps H3 H' ∧ H' b = some (.lst ((Bl c L i).map V.int))) ⟨b, _, _, rfl, Gw.refl g3.1, g3.2 _ _ nbP hB⟩ ?_ ?_ ?_⟩
    · rintro i σ H' hi ⟨b, z3, z4, rfl, gi, hb⟩
      exact SqT_of (gi.2 _ _ ntP e0)
    · rintro i x σ H' hi ⟨b, z3, z4, rfl, gi, hb⟩
      match i, hi with
      | 0, hi =>
        obtain rfl : V.ref t1 = x := Option.some.inj hi
        exact stp 0 t1 24 c.d b z3 z4 H' _ e1 (by decide) (by decide) rfl gi hb fun b' z3 z4 H'' g hb => ⟨b', z3, z4, rfl, g, hb⟩
      | 1, hi =>
        obtain rfl : V.ref t2 = x := Option.some.inj hi
        exact stp 1 t2 168 c.w b z3 z4 H' _ e2 (by decide) (by decide) rfl gi hb fun b' z3 z4 H'' g hb => ⟨b', z3, z4, rfl, g, hb⟩
      | 2, hi =>
        obtain rfl : V.ref t3 = x := Option.some.inj hi
        exact stp 2 t3 672 c.m b z3 z4 H' _ e3 (by decide) (by decide) rfl gi hb fun b' z3 z4 H'' g hb => ⟨b', z3, z4, rfl, g, hb⟩
      | n + 3, hi => simp at hi
    · rintro σ H' ⟨b, z3, z4, rfl, gi, hb⟩
      have g14 := g13.trans gi
      walk_at "ev8"
      have hb : H' b = some (.lst ((Al c L).map V.int)) := hb
      refine srtRaw (L := ST c L) gi.1 ⟨.inl (SqL.of hb), st_ss ht.ss, fun x => mem_st, al_len hc L, fun x hx => ht.lo x ((ht.mem x).1 (al_sub hx))⟩ (fun H5 r g5 hr0 hR => ?_)
      refine ⟨r, rfl, _, .inl ⟨SqL.of hR, fun u hu => ?_⟩⟩
      have g6 := g14.trans g5
      exact hq _ u (g6.new hu) (g6.none tb hu) upd_same
end
end K8

set_option maxRecDepth 100000
set_option maxHeartbeats 4000000
namespace K8
open PySem PySem.Spec PyProof.Rows L2
open XT (Sm pe_msg)
open SkE (pmk_own1)
local macro_rules | `(tactic| walk_at "ev8") => `(tactic| simp only [tSeq, tIfS, tNot, XT.tChain3, rI0, tC, tVar, tRet, tTup, tLst, tCons, tNil, tJs, tFmt, tNext, tTest, tOp, tUn, rI, rU, tCall, tCB, tAnd, tOr, tB, tDrop, tAsg, gName, tAug, tPar, ipI, tBM, rAppend, tSl, rSlS, tPart, tNoPart, tIf, tM1, rEq, rNe, tFld, tMeth, tMake, L2.start, List.map_cons, List.map_nil, List.length_cons, List.length_nil, Nat.reduceAdd, Nat.reduceSub, Nat.sub_self, List.replicate_zero, List.append_nil, List.replicate_succ, List.cons_append, List.nil_append,
  List.getElem?_cons_zero, List.getElem?_cons_succ, Option.some.injEq, exists_eq_left', exists_eq_left, V.int.injEq, V.str.injEq, V.bl.injEq, V.ref.injEq, List.set_cons_zero, List.set_cons_succ, List.cons.injEq, and_true, true_and, reduceCtorEq, false_and, exists_false, false_or, or_false, exists_and_left, and_assoc, decide_eq_true_eq, Bool.not_eq_true', decide_eq_false_iff_not, Bool.not_false, Bool.not_true, if_true, if_false, Bool.false_eq_true, ↓reduceIte])
section
variable {P : Program} {w : World} {K : PySem.W.Frag} {mg : Str → Option Value} {base : Heap} {R Pp C0 : Addr} {Ps : List Addr}
theorem inV_I (y : Int) (xs : List Int) : inV (.int y) (xs.map V.int) = decide (y ∈ xs) := by
  unfold inV
  rw [List.any_map]
  induction xs with
  | nil => simp
  | cons x r ih =>
    rw [List.any_cons, ih]
    show ((x == y) || decide (y ∈ r)) = _
    by_cases c : x = y
    · subst c; simp
    · simp [c, Ne.symm c]
theorem flat_I (xs : List Int) : (xs.map V.int).all flatV = true := by
  rw [List.all_map, List.all_eq_true]
  intro x _
  rfl
/-- sorted(a set) -/
theorem srtRaw2 {a : Addr} {S : Int → Bool} {n : Nat} {L : List Int} {H : Hp} {Q : VK} (tb : Tb Ps H) (hs : H a = some (SetO w a S n)) (hn : n < 64) (ss : SS L) (hm : ∀ k, k ∈ L ↔ S k = true) (h : NewL Ps H (L.map V.int) Q) : rSortedSet w [.ref a] H Q := by
  refine ⟨a, S, n, rfl, hs, hn, fun ns p h1 h2 h3 hp => ?_⟩
  have e : ns = L := ss_ext h1 ss fun x => by rw [h2 x, hm x]
  rw [e]
  exact h _ p ((Gw.refl tb).new hp) hp upd_same
/-! goes -/
abbrev s_goes : Stmt := inClass (topS 15) 3
theorem sc_goes : FnScope ["self", "times"] ["self", "times"] (defScope s_goes) := ⟨rfl, rfl, rfl, by decide +kernel, rfl, by decide +kernel, by decide +kernel⟩
def GO (c : Cn) (L : List Int) : List Int := L.filter fun t => !decide (t ∈ ST c L)
def sp_goes (K : PySem.W.Frag) (C0 : Addr) (Ps : List Addr) : Sp := fun vs H Q E => ∃ (p a : Addr) (c : Cn) (ns L : List Int), vs = [.ref p, .ref a] ∧ RuleAt C0 H p c ∧ c.ok ∧ Tms K H a ns L ∧ ns.length ≤ 15 ∧ Tb Ps H ∧ NewT Ps H ((GO c L).map V.int) Q
theorem ok_goes {f f1 : Addr} {fd fd1 : FuncData} {k k1 : Nat} (F : Fun K "goes" "Rule.goes" s_goes f fd) (T : Txt K mg R Pp C0)
    (M1 : MCal P w K mg base (L2.CX P w) k1 C0 "stays" ["self", "times"] (sp_stays K C0 Ps) f1 fd1) (h1 : k1 ≤ k) : FnOk P w K mg base (L2.CX P w) (k + 1) f fd ["self", "times"] (sp_goes K C0 Ps) := by
  refine F.okX sc_goes (fun vs H Q E h => ?_) (fun cdv A outer s H vs Q E hr h => ?_)
  · obtain ⟨p, a, c, ns, L, rfl, _⟩ := h
    rfl
  · obtain ⟨p, a, c, ns, L, rfl, hp, hc, ht, l15, tb, hq⟩ := h
    refine ⟨_, (pss_one (ps_ret (pe_callTy call_tuple_of (by rfl) T.z_tuple (by decide +kernel) (pa_cons (pe_callB (cr_sortedSet rfl) (by rfl) T.z_sorted (by decide +kernel) (pa_cons (pe_op SD.or_ssub (pe_callTy (SD.cr_setI rfl) (by rfl) T.z_set (by decide +kernel) (pa_cons (pv 1) pa_nil)) (pe_callTy (SD.cr_setI rfl) (by rfl) T.z_set (by decide +kernel) (pa_cons (pe_meth (pv 0) T.cl M1.m M1.ok (hr.mono h1) M1.b .nil passF (pa_cons (pv 1) pa_nil)) pa_nil))) pa_nil)) pa_nil)))), ?_⟩
    walk_at "ev8"
    refine ⟨a, ns, rfl, ht.at_, Nat.le_trans ht.len (by decide), fun q n hq0 hn => ?_⟩
    have g1 : Gw Ps H (upd H q (SetO w q (fun j => decide (j ∈ ns)) n)) := (Gw.refl tb).new hq0
    obtain ⟨dx, hp0⟩ := g1.rule tb hp
    refine ⟨dx, _, hp0, rfl, p, a, c, ns, L, rfl, ⟨dx, hp0⟩, hc, ht.gw tb g1, g1.1, fun H2 b g2 hb0 hb => ?_⟩
    refine ⟨b, ST c L, rfl, .inr (SqT_of hb), ?_, fun r m hr0 hm => ?_⟩
    · have := ht.lenL
      exact Nat.le_trans (Nat.le_trans (len_le (st_ss ht.ss).nodup fun x hx => st_sub x hx) this) (by decide)
    have g12 := g1.trans g2
    have g13 := g12.new (o := SetO w r (fun j => decide (j ∈ ST c L)) m) hr0
    have nq : q ∉ Ps := g1.1.not upd_same fun ps z => by cases z
    have nqr : q ≠ r := fun z => by
      have := g2.2 q _ nq upd_same
      rw [z, hr0] at this
      cases this
    refine ⟨q, r, _, _, n, m, rfl, rfl, by rw [upd_ne nqr]; exact g2.2 q _ nq upd_same, upd_same, by omega, fun u n' hn' hu => ?_⟩
    refine srtRaw2 (L := GO c L) (g13.new (o := SetO w u _ n') hu).1 upd_same (by omega) (List.Pairwise.filter _ ht.ss) (fun x => ?_) (fun H5 v g5 hv0 hv => ?_)
    · unfold GO
      rw [List.mem_filter, Bool.and_eq_true, decide_eq_true_eq, ht.mem x]
    · refine ⟨v, rfl, _, .inl ⟨SqL.of hv, fun y hy => ?_⟩⟩
      have g6 := (g13.new hu).trans g5
      exact hq _ y (g6.new hy) (g6.none tb hy) upd_same
end
end K8

set_option maxRecDepth 100000
set_option maxHeartbeats 4000000
namespace K8
open PySem PySem.Spec PyProof.Rows L2
open XT (Sm pe_msg)
open SkE (pmk_own1)
local macro_rules | `(tactic| walk_at "ev8") => `(tactic| simp only [tSeq, tIfS, tNot, XT.tChain3, rI0, tC, tVar, tRet, tTup, tLst, tCons, tNil, tJs, tFmt, tNext, tTest, tOp, tUn, rI, rU, tCall, tCB, tAnd, tOr, tB, tDrop, tAsg, gName, tAug, tPar, ipI, tBM, rAppend, tSl, rSlS, tPart, tNoPart, tIf, tM1, rEq, rNe, tFld, tMeth, tMake, L2.start, List.map_cons, List.map_nil, List.length_cons, List.length_nil, Nat.reduceAdd, Nat.reduceSub, Nat.sub_self, List.replicate_zero, List.append_nil, List.replicate_succ, List.cons_append, List.nil_append,
  List.getElem?_cons_zero, List.getElem?_cons_succ, Option.some.injEq, exists_eq_left', exists_eq_left, V.int.injEq, V.str.injEq, V.bl.injEq, V.ref.injEq, List.set_cons_zero, List.set_cons_succ, List.cons.injEq, and_true, true_and, reduceCtorEq, false_and, exists_false, false_or, or_false, exists_and_left, and_assoc, decide_eq_true_eq, Bool.not_eq_true', decide_eq_false_iff_not, Bool.not_false, Bool.not_true, if_true, if_false, Bool.false_eq_true, ↓reduceIte])
section
variable {P : Program} {w : World} {K : PySem.W.Frag} {mg : Str → Option Value} {base : Heap} {R Pp C0 : Addr} {Ps : List Addr}
theorem gTupN {i j k : Nat} {p p2 : Addr} {v y z : V} {σ : L2.St} {H : Hp} {Q : L2.St → Hp → Prop} (h : SqT K H p [v, .ref p2]) (h2 : SqT K H p2 [y, z]) (q : Q (((σ.set i (some v)).set j (some y)).set k (some z)) H) : gTup K 2 (gCons (gName i) (gCons (gTup K 2 (gCons (gName j) (gCons (gName k) gNil))) gNil)) (.ref p) σ H Q := ⟨p, _, rfl, h, rfl, _, _, rfl, _, _, rfl, ⟨p2, _, rfl, h2, rfl, _, _, rfl, _, _, rfl, rfl, rfl, q⟩⟩
def wd (b : Prop) [Decidable b] (s : Str) : List Str := if b then [s] else []
/-- the words for why t stays, the first so many kinds looked at -/
def Wd (c : Cn) (L : List Int) (t : Int) : Nat → List Str
  | 0 => wd (t ∈ A0 c L) "last"
  | 1 => wd (t ∈ A0 c L) "last" ++ wd (t ∈ A1 c L) "day"
  | 2 => wd (t ∈ A0 c L) "last" ++ wd (t ∈ A1 c L) "day" ++ wd (t ∈ A2 c L) "week"
  | _ => wd (t ∈ A0 c L) "last" ++ wd (t ∈ A1 c L) "day" ++ wd (t ∈ A2 c L) "week" ++ wd (t ∈ A3 c L) "month"
/-- the words for why t stays -/
def WD (c : Cn) (L : List Int) (t : Int) : List Str := Wd c L t 3
theorem wd_len {b : Prop} [Decidable b] {s : Str} : (wd b s).length ≤ 1 := by
  unfold wd
  split
  · exact Nat.le_refl _
  · exact Nat.zero_le _
theorem wd_nil {b : Prop} [Decidable b] {s : Str} : wd b s = [] ↔ ¬ b := by
  unfold wd
  split
  · rename_i h; simp [h]
  · rename_i h; simp [h]
theorem Wd_len (c : Cn) (L : List Int) (t : Int) : ∀ i, (Wd c L t i).length ≤ 10
  | 0 => Nat.le_trans wd_len (by decide)
  | 1 => by
    unfold Wd
    simp only [List.length_append]
    exact Nat.le_trans (Nat.add_le_add wd_len wd_len) (by decide)
  | 2 => by
    unfold Wd
    simp only [List.length_append]
    exact Nat.le_trans (Nat.add_le_add (Nat.add_le_add wd_len wd_len) wd_len) (by decide)
  | n + 3 => by
    unfold Wd
    simp only [List.length_append]
    exact Nat.le_trans (Nat.add_le_add (Nat.add_le_add (Nat.add_le_add wd_len wd_len) wd_len) wd_len) (by decide)
theorem WD_nil {c : Cn} {L : List Int} {t : Int} : WD c L t = [] ↔ t ∉ ST c L := by
  rw [mem_st]
  show _ ++ _ ++ _ ++ _ = [] ↔ _
  rw [List.append_eq_nil_iff, List.append_eq_nil_iff, List.append_eq_nil_iff, wd_nil, wd_nil, wd_nil, wd_nil]
  unfold Al
  rw [List.mem_append, List.mem_append, List.mem_append]
  constructor
  · rintro ⟨⟨⟨a, b⟩, c⟩, d⟩ (((h | h) | h) | h)
    · exact a h
    · exact b h
    · exact c h
    · exact d h
  · intro h
    exact ⟨⟨⟨fun z => h (.inl (.inl (.inl z))), fun z => h (.inl (.inl (.inr z)))⟩, fun z => h (.inl (.inr z))⟩, fun z => h (.inr z)⟩
/-! why: slots self=0 times=1 time=2 words=3 word=4 length=5 count=6 -/
abbrev s_why : Stmt := inClass (topS 15) 4
theorem sc_why : FnScope ["self", "times", "time", "words", "word", "length", "count"] ["self", "times", "time"] (defScope s_why) := ⟨rfl, rfl, rfl, by decide +kernel, rfl, by decide +kernel, by decide +kernel⟩
def sp_why (K : PySem.W.Frag) (R C0 : Addr) (Ps : List Addr) : Sp := fun vs H Q E => ∃ (p a : Addr) (t : Int) (c : Cn) (ns L : List Int), vs = [.ref p, .ref a, .int t] ∧ RuleAt C0 H p c ∧ c.ok ∧ Tms K H a ns L ∧ Sm t ∧ Tb Ps H ∧ (t ∈ ns → NewT Ps H ((WD c L t).map V.str) Q) ∧ (t ∉ ns → E (.ref R) none H)
theorem ok_why {f f1 f2 f3 : Addr} {fd fd1 fd2 fd3 : FuncData} {k k1 k2 k3 : Nat} (F : Fun K "why" "Rule.why" s_why f fd) (T : Txt K mg R Pp C0) (G1 : Cal P w K mg base (L2.CX P w) k1 "last_of" ["rows", "count"] (sp_last_of K Ps) f1 fd1) (G2 : Cal P w K mg base (L2.CX P w) k2 "span_ends" ["times", "length", "count"] (sp_span_ends K Ps) f2 fd2)
    (M1 : MCal P w K mg base (L2.CX P w) k3 C0 "parts" ["self"] (sp_parts C0 Ps) f3 fd3) (h1 : k1 ≤ k) (h2 : k2 ≤ k) (h3 : k3 ≤ k) : FnOk P w K mg base (L2.CX P w) (k + 1) f fd ["self", "times", "time"] (sp_why K R C0 Ps) := by
  refine F.okX sc_why (fun vs H Q E h => ?_) (fun cdv A outer s H vs Q E hr h => ?_)
  · obtain ⟨p, a, t, c, ns, L, rfl, _⟩ := h
    rfl
  · obtain ⟨p, a, t, c, ns, L, rfl, hp, hc, ht, st, tb, hq, hx⟩ := h
    refine ⟨_, (pss_cons (ps_if (pt_cmpR op_notIn_seq (pv 2) (pv 1) (by with_unfolding_all rfl))
      (pss_one (ps_raise rfl (takes_of rfl rfl rfl rfl) (pmk_own1 PySem.F.excBase_ValueError T.x_R T.g_R T.k_R (raises_own T.b_R T.t_R) (by rfl) (pe_msg (.cons (.lit (by decide)) (.cons (.var (pv 2)) .nil)))))) pss_nil)
    (pss_cons (ps_set (i := 3) sc_why.nd rfl (.inl rfl) (pe_ifExp (pt_cmpR op_in_seq (pv 2) (pe_call G1.ok (hr.mono h1) (by rfl) G1.g G1.kp G1.b .nil passF (pa_cons (pe_callB (cr_sortedSet rfl) (by rfl) T.z_sorted (by decide +kernel) (pa_cons (pe_callTy (SD.cr_setI rfl) (by rfl) T.z_set (by decide +kernel) (pa_cons (pv 1) pa_nil)) pa_nil)) (pa_cons (pe_fld (pv 0) rfl) pa_nil))) (by with_unfolding_all rfl)) (pe_lst (pa_cons pe_str pa_nil)) (pe_lst pa_nil)))
    (pss_cons (ps_for (passes_of rfl) rfl (RZ.pi_zipA (by rfl) T.z_zip (pa_cons (pe_tup (pa_cons pe_str (pa_cons pe_str (pa_cons pe_str pa_nil)))) (pa_cons (pe_meth0 (pv 0) T.cl M1.m M1.ok (hr.mono h3) M1.b .nil passF) pa_nil))) (pg_tup rfl (pgs_cons (pg_name (i := 4) sc_why.nd rfl (.inl rfl)) (pgs_cons (pg_tup rfl (pgs_cons (pg_name (i := 5) sc_why.nd rfl (.inl rfl)) (pgs_cons (pg_name (i := 6) sc_why.nd rfl (.inl rfl)) pgs_nil))) pgs_nil)))
      (pss_one (ps_if (pt_cmpR op_in_seq (pv 2) (pe_call G2.ok (hr.mono h2) (by rfl) G2.g G2.kp G2.b .nil passF (pa_cons (pv 1) (pa_cons (pv 5) (pa_cons (pv 6) pa_nil)))) (by with_unfolding_all rfl))
      (pss_one (ps_expr (pe_bm PySem.F.plainAttrs_list PySem.F.slot_list_append PySem.F.type_list_append mt_append (pv 3) (pa_cons (pv 4) pa_nil)))) pss_nil)))
    (pss_one (ps_ret (pe_callTy call_tuple_of (by rfl) T.z_tuple (by decide +kernel) (pa_cons (pv 3) pa_nil))))))), ?_⟩
    have sel : ∀ (G3 : Hp) (t1 t2 t3 : Addr), G3 t1 = some (.tup [.int 24, .int (c.d : Nat)]) → G3 t2 = some (.tup [.int 168, .int (c.w : Nat)]) → G3 t3 = some (.tup [.int 672, .int (c.m : Nat)]) → ∀ (i : Nat) (x y : V), [V.str (Str.ofString "day"), V.str (Str.ofString "week"), V.str (Str.ofString "month")][i]? = some x → [V.ref t1, V.ref t2, V.ref t3][i]? = some y →
        ∃ (sw : Str) (tj : Addr) (l : Int) (cc : Nat), x = .str sw ∧ y = .ref tj ∧ G3 tj = some (.tup [.int l, .int (cc : Nat)]) ∧ 0 < l ∧ l ≤ 1000 ∧ Wd c L t (i + 1) = Wd c L t i ++ wd (t ∈ lastN cc (ends (fun t => t / l) L)) sw := by
      intro G3 t1 t2 t3 e1 e2 e3 i x y hi hj
      match i, hi, hj with
      | 0, hi, hj => exact ⟨_, t1, 24, c.d, (Option.some.inj hi).symm, (Option.some.inj hj).symm, e1, by decide, by decide, rfl⟩
      | 1, hi, hj => exact ⟨_, t2, 168, c.w, (Option.some.inj hi).symm, (Option.some.inj hj).symm, e2, by decide, by decide, rfl⟩
      | 2, hi, hj => exact ⟨_, t3, 672, c.m, (Option.some.inj hi).symm, (Option.some.inj hj).symm, e3, by decide, by decide, rfl⟩
      | n + 3, hi, _ => simp at hi
    have go1n : ∀ {G : Hp} {zz o : Addr} {v u : HO}, G zz = none → G o = some u → upd G zz v o = some u := fun {G zz o v u} hz ho => by
      rw [upd_ne (ne_of_none ho hz)]
      exact ho
    have ne3 : ∀ {G : Hp} {b o : Addr} {vs ws : List V}, G b = some (.tup vs) → G o = some (.lst ws) → b ≠ o := fun {G b o vs ws} hb ho z => by
      rw [z, ho] at hb
      cases hb
    walk_at "ev8"
    refine ⟨a, _, rfl, ht.at_, rfl, flat_I ns, ?_⟩
    rw [inV_I]
    refine ⟨_, rfl, ?_⟩
    by_cases mem : t ∈ ns
    rotate_left
    · simp only [mem, decide_false, Bool.not_false, if_true]
      exact ⟨st, fun _ => hx mem⟩
    simp only [mem, decide_true, Bool.not_true, if_true, Bool.false_eq_true, if_false]
    have hq := hq mem
    obtain ⟨dx, h0⟩ := hp
    have npP : p ∉ Ps := tb.not h0 fun _ z => by cases z
    refine srtRaw tb ht (fun H1 q g1 hq0 hL => ?_)
    refine ⟨C0, dx, _, g1.2 _ _ npP h0, T.cl, T.nN, _, ruN c, q, L, c.n, rfl, SqL.of hL, Nat.le_trans ht.lenL (by decide), g1.1, fun H2 b g2 hb0 hB => ?_⟩
    have g12 := g1.trans g2
    refine ⟨b, _, rfl, .inl (SqL.of hB), rfl, flat_I _, ?_⟩
    have ei : inV (.int t) ((lastN c.n L).map V.int) = decide (t ∈ A0 c L) := inV_I _ _
    rw [ei]
    refine ⟨_, rfl, ?_⟩
    by_cases m : t ∈ A0 c L
    · simp only [m, decide_true, Bool.false_eq_true, if_true, if_false]
      refine ⟨by decide, fun o ho => ?_⟩
      have hO : upd H2 o (.lst [V.str (Str.ofString "last")]) o = some (.lst ((Wd c L t 0).map V.str)) := by
        rw [upd_same]
        unfold Wd wd
        rw [if_pos m]
        rfl
      have go := g12.new (o := .lst [V.str (Str.ofString "last")]) ho
      generalize upd H2 o (.lst [V.str (Str.ofString "last")]) = G at hO go ⊢
      have hoH : H o = none := g12.none tb ho
      revert hO go hoH
      clear ho m
      revert o G
      intro o G hO go hoH
      refine ⟨(by show 3 ≤ sizeLine; decide), fun zz hzz => ?_⟩
      have go1 := go.new (o := .tup [V.str (Str.ofString "day"), V.str (Str.ofString "week"), V.str (Str.ofString "month")]) hzz
      refine ⟨_, rfl, p, dx, _, rfl, go1.2 _ _ npP h0, rfl, p, c, rfl, ⟨dx, go1.2 _ _ npP h0⟩, go1.1, fun G3 tt g3 hP => ?_⟩
      obtain ⟨t1, t2, t3, e0, e1, e2, e3⟩ := hP
      have noP : o ∉ Ps := go.1.not hO fun _ z => by cases z
      have nzP : zz ∉ Ps := go.1.none hzz
      have ntP : tt ∉ Ps := g3.1.not e0 fun _ z => by cases z
      have g13 := go1.trans g3
      have ez3 := g3.2 _ _ nzP upd_same
      have eo3 := g3.2 _ _ noP (go1n hzz hO)
      have nzo : zz ≠ o := ne3 ez3 eo3
      have nto : tt ≠ o := ne3 e0 eo3
      refine ⟨zz, tt, _, _, rfl, .inr ⟨SqT_of ez3, SqT_of e0, RZ.for_zipT (xs := [V.str (Str.ofString "day"), V.str (Str.ofString "week"), V.str (Str.ofString "month")]) (ys := [V.ref t1, V.ref t2, V.ref t3]) rfl (fun i σ H' => (∃ z4 z5 z6, σ = [some (.ref p), some (.ref a), some (.int t), some (.ref o), z4, z5, z6]) ∧ Gw Ps H H' ∧ H' o = some (.lst ((Wd c L t i).map V.str)) ∧ ∀ b u, b ∉ Ps → b ≠ o → G3 b = some u → H' b = some u) ⟨⟨_, _, _, rfl⟩, g13, eo3, fun _ _ _ _ z => z⟩ ?_ ?_ ?_⟩⟩
      · rintro i σ H' ⟨_, gi, ho, ki⟩
        exact ⟨SqT_of (ki _ _ nzP nzo ez3), SqT_of (ki _ _ ntP nto e0)⟩
      · rintro i x y T' σ H' hi hj ⟨⟨z4, z5, z6, rfl⟩, gi, ho, ki⟩ hT
        obtain ⟨sw, tj, l, cc, rfl, rfl, et, l0, l1, eW⟩ := sel G3 t1 t2 t3 e1 e2 e3 i x y hi hj
        have ntj : tj ∉ Ps := g3.1.not et fun _ z => by cases z
        have etj := ki _ _ ntj (ne3 et eo3) et
        have ntT : tj ≠ T' := ne_of_none etj hT
        refine gTupN (SqT_of upd_same) (SqT_of (by rw [upd_ne ntT]; exact etj)) ?_
        walk_at "ev8"
        have gT := gi.new (o := .tup [V.str sw, V.ref tj]) hT
        refine ⟨a, ns, L, l, cc, rfl, ht.gw tb gT, l0, l1, gT.1, fun H4 e g4 he0 hE => ?_⟩
        refine ⟨e, _, rfl, .inl (SqL.of hE), rfl, flat_I _, _, rfl, ?_⟩
        rw [inV_I]
        have noT : o ≠ T' := ne_of_none ho hT
        have gi4 := gT.trans g4
        have ho4 : H4 o = some (.lst ((Wd c L t i).map V.str)) := g4.2 _ _ noP (by rw [upd_ne noT]; exact ho)
        have ki4 : ∀ b u, b ∉ Ps → b ≠ o → G3 b = some u → H4 b = some u := fun b u nb nbo eb => by
          have h1 := ki b u nb nbo eb
          exact g4.2 _ _ nb (by rw [upd_ne (ne_of_none h1 hT)]; exact h1)
        by_cases m : t ∈ lastN cc (ends (fun t => t / l) L)
        · simp only [m, decide_true, Bool.false_eq_true, if_true, if_false]
          refine ⟨.inl ⟨rfl, _, SqL.of ho4⟩, _, ho4, ?_, ⟨_, rfl⟩, gi4.set hoH noP, ?_, fun b u nb nbo eb => ?_⟩
          · rw [List.length_map]
            exact Nat.lt_of_le_of_lt (Wd_len c L t i) (by decide)
          · rw [upd_same, eW, List.map_append]
            unfold wd
            rw [if_pos m]
            rfl
          · rw [upd_ne nbo]
            exact ki4 b u nb nbo eb
        · simp only [m, decide_false, Bool.false_eq_true, if_true, if_false]
          refine ⟨⟨_, rfl⟩, gi4, ?_, ki4⟩
          rw [eW]
          unfold wd
          rw [if_neg m, List.append_nil]
          exact ho4
      · rintro σ H' ⟨⟨z4, z5, z6, rfl⟩, gi, ho, ki⟩
        walk_at "ev8"
        refine ⟨_, .inl ⟨SqL.of ho, fun u hu => ?_⟩⟩
        exact hq _ u (gi.new hu) (gi.none tb hu) upd_same
    · simp only [m, decide_false, Bool.false_eq_true, if_true, if_false]
      refine ⟨by decide, fun o ho => ?_⟩
      have hO : upd H2 o (.lst []) o = some (.lst ((Wd c L t 0).map V.str)) := by
        rw [upd_same]
        unfold Wd wd
        rw [if_neg m]
        rfl
      have go := g12.new (o := .lst []) ho
      generalize upd H2 o (.lst []) = G at hO go ⊢
      have hoH : H o = none := g12.none tb ho
      clear ho m
      refine ⟨(by show 3 ≤ sizeLine; decide), fun zz hzz => ?_⟩
      have go1 := go.new (o := .tup [V.str (Str.ofString "day"), V.str (Str.ofString "week"), V.str (Str.ofString "month")]) hzz
      refine ⟨_, rfl, p, dx, _, rfl, go1.2 _ _ npP h0, rfl, p, c, rfl, ⟨dx, go1.2 _ _ npP h0⟩, go1.1, fun G3 tt g3 hP => ?_⟩
      obtain ⟨t1, t2, t3, e0, e1, e2, e3⟩ := hP
      have noP : o ∉ Ps := go.1.not hO fun _ z => by cases z
      have nzP : zz ∉ Ps := go.1.none hzz
      have ntP : tt ∉ Ps := g3.1.not e0 fun _ z => by cases z
      have g13 := go1.trans g3
      have ez3 := g3.2 _ _ nzP upd_same
      have eo3 := g3.2 _ _ noP (go1n hzz hO)
      have nzo : zz ≠ o := ne3 ez3 eo3
      have nto : tt ≠ o := ne3 e0 eo3
      refine ⟨zz, tt, _, _, rfl, .inr ⟨SqT_of ez3, SqT_of e0, RZ.for_zipT (xs := [V.str (Str.ofString "day"), V.str (Str.ofString "week"), V.str (Str.ofString "month")]) (ys := [V.ref t1, V.ref t2, V.ref t3]) rfl (fun i σ H' => (∃ z4 z5 z6, σ = [some (.ref p), some (.ref a), some (.int t), some (.ref o), z4, z5, z6]) ∧ Gw Ps H H' ∧ H' o = some (.lst ((Wd c L t i).map V.str)) ∧ ∀ b u, b ∉ Ps → b ≠ o → G3 b = some u → H' b = some u) ⟨⟨_, _, _, rfl⟩, g13, eo3, fun _ _ _ _ z => z⟩ ?_ ?_ ?_⟩⟩
      · rintro i σ H' ⟨_, gi, ho, ki⟩
        exact ⟨SqT_of (ki _ _ nzP nzo ez3), SqT_of (ki _ _ ntP nto e0)⟩
      · rintro i x y T' σ H' hi hj ⟨⟨z4, z5, z6, rfl⟩, gi, ho, ki⟩ hT
        obtain ⟨sw, tj, l, cc, rfl, rfl, et, l0, l1, eW⟩ := sel G3 t1 t2 t3 e1 e2 e3 i x y hi hj
        have ntj : tj ∉ Ps := g3.1.not et fun _ z => by cases z
        have etj := ki _ _ ntj (ne3 et eo3) et
        have ntT : tj ≠ T' := ne_of_none etj hT
        refine gTupN (SqT_of upd_same) (SqT_of (by rw [upd_ne ntT]; exact etj)) ?_
        walk_at "ev8"
        have gT := gi.new (o := .tup [V.str sw, V.ref tj]) hT
        refine ⟨a, ns, L, l, cc, rfl, ht.gw tb gT, l0, l1, gT.1, fun H4 e g4 he0 hE => ?_⟩
        refine ⟨e, _, rfl, .inl (SqL.of hE), rfl, flat_I _, _, rfl, ?_⟩
        rw [inV_I]
        have noT : o ≠ T' := ne_of_none ho hT
        have gi4 := gT.trans g4
        have ho4 : H4 o = some (.lst ((Wd c L t i).map V.str)) := g4.2 _ _ noP (by rw [upd_ne noT]; exact ho)
        have ki4 : ∀ b u, b ∉ Ps → b ≠ o → G3 b = some u → H4 b = some u := fun b u nb nbo eb => by
          have h1 := ki b u nb nbo eb
          exact g4.2 _ _ nb (by rw [upd_ne (ne_of_none h1 hT)]; exact h1)
        by_cases m : t ∈ lastN cc (ends (fun t => t / l) L)
        · simp only [m, decide_true, Bool.false_eq_true, if_true, if_false]
          refine ⟨.inl ⟨rfl, _, SqL.of ho4⟩, _, ho4, ?_, ⟨_, rfl⟩, gi4.set hoH noP, ?_, fun b u nb nbo eb => ?_⟩
          · rw [List.length_map]
            exact Nat.lt_of_le_of_lt (Wd_len c L t i) (by decide)
          · rw [upd_same, eW, List.map_append]
            unfold wd
            rw [if_pos m]
            rfl
          · rw [upd_ne nbo]
            exact ki4 b u nb nbo eb
        · simp only [m, decide_false, Bool.false_eq_true, if_true, if_false]
          refine ⟨⟨_, rfl⟩, gi4, ?_, ki4⟩
          rw [eW]
          unfold wd
          rw [if_neg m, List.append_nil]
          exact ho4
      · rintro σ H' ⟨⟨z4, z5, z6, rfl⟩, gi, ho, ki⟩
        walk_at "ev8"
        refine ⟨_, .inl ⟨SqL.of ho, fun u hu => ?_⟩⟩
        exact hq _ u (gi.new hu) (gi.none tb hu) upd_same
end
end K8

set_option maxRecDepth 100000
set_option maxHeartbeats 4000000
namespace K8
open PySem PySem.Spec PyProof.Rows L2
open XT (Sm pe_msg)
open SkE (pmk_own1)
local macro_rules | `(tactic| walk_at "ev8") => `(tactic| simp only [tSeq, tIfS, tNot, XT.tChain3, rI0, tC, tVar, tRet, tTup, tLst, tCons, tNil, tJs, tFmt, tNext, tTest, tOp, tUn, rI, rU, tCall, tCB, tAnd, tOr, tB, tDrop, tAsg, gName, tAug, tPar, ipI, tBM, rAppend, tSl, rSlS, tPart, tNoPart, tIf, tM1, rEq, rNe, tFld, tMeth, tMake, L2.start, List.map_cons, List.map_nil, List.length_cons, List.length_nil, Nat.reduceAdd, Nat.reduceSub, Nat.sub_self, List.replicate_zero, List.append_nil, List.replicate_succ, List.cons_append, List.nil_append,
  List.getElem?_cons_zero, List.getElem?_cons_succ, Option.some.injEq, exists_eq_left', exists_eq_left, V.int.injEq, V.str.injEq, V.bl.injEq, V.ref.injEq, List.set_cons_zero, List.set_cons_succ, List.cons.injEq, and_true, true_and, reduceCtorEq, false_and, exists_false, false_or, or_false, exists_and_left, and_assoc, decide_eq_true_eq, Bool.not_eq_true', decide_eq_false_iff_not, Bool.not_false, Bool.not_true, if_true, if_false, Bool.false_eq_true, ↓reduceIte])
section
variable {P : Program} {w : World} {K : PySem.W.Frag} {mg : Str → Option Value} {base : Heap} {R Pp C0 : Addr} {Ps : List Addr}
/-! after_each: slots rule=0 times=1 left=2 time=3 -/
abbrev s_after_each : Stmt := topS 18
theorem sc_after_each : FnScope ["rule", "times", "left", "time"] ["rule", "times"] (defScope s_after_each) := ⟨rfl, rfl, rfl, by decide +kernel, rfl, by decide +kernel, by decide +kernel⟩
def sp_after_each (K : PySem.W.Frag) (C0 : Addr) (Ps : List Addr) : Sp := fun vs H Q E => ∃ (p a : Addr) (c : Cn) (ns L : List Int), vs = [.ref p, .ref a] ∧ RuleAt C0 H p c ∧ c.ok ∧ Tms K H a ns L ∧ Tb Ps H ∧ NewT Ps H ((AE c L L.length).map V.int) Q
theorem ok_after_each {f f1 : Addr} {fd fd1 : FuncData} {k k1 : Nat} (F : Fun K "after_each" "after_each" s_after_each f fd) (T : Txt K mg R Pp C0)
    (M1 : MCal P w K mg base (L2.CX P w) k1 C0 "stays" ["self", "times"] (sp_stays K C0 Ps) f1 fd1) (h1 : k1 ≤ k) : FnOk P w K mg base (L2.CX P w) (k + 1) f fd ["rule", "times"] (sp_after_each K C0 Ps) := by
  refine F.okX sc_after_each (fun vs H Q E h => ?_) (fun cdv A outer s H vs Q E hr h => ?_)
  · obtain ⟨p, a, c, ns, L, rfl, _⟩ := h
    rfl
  · obtain ⟨p, a, c, ns, L, rfl, hp, hc, ht, tb, hq⟩ := h
    refine ⟨_, (pss_cons (ps_set (i := 2) sc_after_each.nd rfl (.inl rfl) (pe_tup pa_nil))
    (pss_cons (ps_for (passes_of rfl) rfl (pi_list (pe_callB (cr_sortedSet rfl) (by rfl) T.z_sorted (by decide +kernel) (pa_cons (pe_callTy (SD.cr_setI rfl) (by rfl) T.z_set (by decide +kernel) (pa_cons (pv 1) pa_nil)) pa_nil))) (pg_name (i := 3) sc_after_each.nd rfl (.inl rfl))
      (pss_one (ps_set (i := 2) sc_after_each.nd rfl (.inl rfl) (pe_meth (pv 0) T.cl M1.m M1.ok (hr.mono h1) M1.b .nil passF (pa_cons (pe_op op_catA (pv 2) (pe_tup (pa_cons (pv 3) pa_nil))) pa_nil)))))
    (pss_one (ps_ret (pv 2))))), ?_⟩
    walk_at "ev8"
    refine ⟨by decide, fun b0 hb0 => ?_⟩
    have g0 := (Gw.refl tb).new (o := .tup []) hb0
    refine srtSet g0.1 (ht.gw tb g0) (fun H1 q g1 hq0 hL => ?_) (fun W hW => ⟨_, rfl, hW⟩)
    have g01 := g0.trans g1
    have nb0 : b0 ∉ Ps := tb.none hb0
    have nqP : q ∉ Ps := g1.1.not hL fun _ z => by cases z
    refine ⟨q, rfl, ⟨_, SqL.of hL⟩, for_list (xs := L.map V.int) (fun i σ H' => ∃ b z, σ = [some (.ref p), some (.ref a), some (.ref b), z] ∧ Gw Ps H1 H' ∧ H b = none ∧ H' b = some (.tup ((AE c L i).map V.int))) ⟨b0, _, rfl, Gw.refl g1.1, hb0, g1.2 _ _ nb0 upd_same⟩ ?_ ?_ ?_⟩
    · rintro i σ H' hi ⟨b, z, rfl, gi, hb, hB⟩
      exact SqL.of (gi.2 _ _ nqP hL)
    · rintro i x σ H' hi ⟨b, z, rfl, gi, hb, hB⟩
      rw [List.getElem?_map] at hi
      obtain ⟨t, ht2, rfl⟩ := Option.map_eq_some_iff.mp hi
      walk_at "ev8"
      obtain ⟨dx, h0⟩ := (g01.trans gi).rule tb hp
      have nbP : b ∉ Ps := gi.1.not hB fun _ z => by cases z
      refine ⟨dx, _, h0, rfl, by decide, fun u hu => ?_⟩
      have gu := gi.new (o := .tup [V.int t]) hu
      have nbu : b ≠ u := ne_of_none hB hu
      have lt := take_lt ht.ss ht2
      have sub := ae_sub (c := c) (l := L) i
      have ss1 : SS (AE c L i ++ [t]) := snoc_ss (ae_ss ht.ss i) fun x hx => lt x (sub x hx)
      have l1 : (AE c L i ++ [t]).length ≤ 40 := by
        refine Nat.le_trans (len_le ss1.nodup (b := L) fun x hx => ?_) ht.lenL
        rcases List.mem_append.mp hx with z | z
        · exact List.mem_of_mem_take (sub x z)
        · rw [List.mem_singleton.mp z]; exact List.mem_of_getElem? ht2
      have hxl : ∀ x ∈ AE c L i ++ [t], x ∈ L := fun x hx => by
        rcases List.mem_append.mp hx with z | z
        · exact List.mem_of_mem_take (sub x z)
        · rw [List.mem_singleton.mp z]; exact List.mem_of_getElem? ht2
      have fin : ∀ (r : Addr) (Hx : Hp) (Q2 : VK), Gw Ps H1 Hx → Hx r = some (.tup ((AE c L i ++ [t]).map V.int)) → (∀ v H4, Gw Ps H1 H4 → H v = none → H4 v = some (.tup ((AE c L (i + 1)).map V.int)) → Q2 (.ref v) H4) → sp_stays K C0 Ps [.ref p, .ref r] Hx Q2 fun _ _ _ => False := fun r Hx Q2 gx hr hq2 =>
        ⟨p, r, c, AE c L i ++ [t], AE c L i ++ [t], rfl, (g01.trans gx).rule tb hp, hc, ⟨.inr (SqT_of hr), ss1, fun x => Iff.rfl, l1, fun x hx => ht.lo x ((ht.mem x).1 (hxl x hx))⟩, gx.1, fun H4 v g4 hv hV => hq2 v H4 (gx.trans g4) ((g01.trans gx).none tb hv) (by rw [ae_succ ht2]; exact hV)⟩
      refine ⟨b, u, _, _, rfl, rfl, SqT_of (by rw [upd_ne nbu]; exact hB), SqT_of upd_same, ?_, fun e => ?_, fun _ e => (by cases e), fun _ _ r hr => ?_⟩
      · rw [List.length_map]
        rw [List.length_append] at l1
        have h3 : 100 ≤ sizeLine := by decide
        have : [V.int t].length = [t].length := rfl
        omega
      · refine fin u _ _ gu ?_ fun v H4 g4 h4 h5 => ⟨v, rfl, g4, h4, h5⟩
        rw [upd_same, List.map_append, e]
        rfl
      · refine fin r _ _ (gu.new hr) ?_ fun v H4 g4 h4 h5 => ⟨v, rfl, g4, h4, h5⟩
        rw [upd_same, List.map_append]
        rfl
    · rintro σ H' ⟨b, z, rfl, gi, hb, hB⟩
      rw [List.length_map] at hB
      walk_at "ev8"
      exact hq H' b (g01.trans gi) hb hB
/-! most_kept: slots rule=0 -/
abbrev s_most_kept : Stmt := topS 21
theorem sc_most_kept : FnScope ["rule"] ["rule"] (defScope s_most_kept) := ⟨rfl, rfl, rfl, by decide +kernel, rfl, by decide +kernel, by decide +kernel⟩
def sp_most_kept (C0 : Addr) (Ps : List Addr) : Sp := fun vs H Q E => ∃ (p : Addr) (c : Cn), vs = [.ref p] ∧ RuleAt C0 H p c ∧ Tb Ps H ∧ ∀ H', Gw Ps H H' → Q (.int (cnL c).sum) H'
theorem ok_most_kept {f f1 : Addr} {fd fd1 : FuncData} {k k1 : Nat} (F : Fun K "most_kept" "most_kept" s_most_kept f fd) (T : Txt K mg R Pp C0)
    (M1 : MCal P w K mg base (L2.CX P w) k1 C0 "shown" ["self"] (sp_shown C0 Ps) f1 fd1) (h1 : k1 ≤ k) : FnOk P w K mg base (L2.CX P w) (k + 1) f fd ["rule"] (sp_most_kept C0 Ps) := by
  refine F.okX sc_most_kept (fun vs H Q E h => ?_) (fun cdv A outer s H vs Q E hr h => ?_)
  · obtain ⟨p, c, rfl, _⟩ := h
    rfl
  · obtain ⟨p, c, rfl, hp, tb, hq⟩ := h
    refine ⟨_, (pss_one (ps_ret (pe_callB (RU.cr_sumT rfl) (by rfl) T.z_sum (by decide +kernel) (pa_cons (pe_meth0 (pv 0) T.cl M1.m M1.ok (hr.mono h1) M1.b .nil passF) pa_nil)))), ?_⟩
    walk_at "ev8"
    obtain ⟨dx, h0⟩ := hp
    refine ⟨dx, _, h0, rfl, p, c, rfl, ⟨dx, h0⟩, tb, fun H1 q g1 hq0 hQ => ?_⟩
    exact ⟨q, cnL c, rfl, SqT_of hQ, hq H1 g1⟩
/-! tape_of: slots turn=0 count=1 tape=2 -/
abbrev s_tape_of : Stmt := topS 24
theorem sc_tape_of : FnScope ["turn", "count", "tape"] ["turn", "count"] (defScope s_tape_of) := ⟨rfl, rfl, rfl, by decide +kernel, rfl, by decide +kernel, by decide +kernel⟩
/-- as often as two goes into n, so many at most -/
def tapeN : Nat → Nat → Nat
  | 0, _ => 0
  | m + 1, n => if n % 2 = 0 then tapeN m (n / 2) + 1 else 0
def sp_tape_of (Ps : List Addr) : Sp := fun vs H Q E => ∃ (n m : Nat), vs = [.int (n : Nat), .int ((m + 1 : Nat) : Int)] ∧ n ≤ 1000 ∧ m ≤ 1000 ∧ Q (.int (tapeN m n : Nat)) H
theorem ok_tape_of {f : Addr} {fd : FuncData} {k : Nat} (F : Fun K "tape_of" "tape_of" s_tape_of f fd) (T : Txt K mg R Pp C0) : FnOk P w K mg base (L2.CX P w) (k + 1) f fd ["turn", "count"] (sp_tape_of Ps) := by
  refine F.okX sc_tape_of (fun vs H Q E h => ?_) (fun cdv A outer s H vs Q E hr h => ?_)
  · obtain ⟨n, m, rfl, _⟩ := h
    rfl
  · obtain ⟨n, m, rfl, hn, hm, hq⟩ := h
    refine ⟨_, (pss_cons (ps_set (i := 2) sc_tape_of.nd rfl (.inl rfl) pe_int)
    (pss_cons (ps_while (passes_of rfl) (PW.pt (pw_and (pt_cmpR op_lt (pv 2) (pe_op op_sub (pv 1) pe_int) (nomark _)) (pw_and1 (pt_cmpR op_eq (pe_op op_mod (pv 0) pe_int) pe_int (nomark _)))))
      (pss_cons (ps_set (i := 0) sc_tape_of.nd rfl (.inl rfl) (pe_op op_fdiv (pv 0) pe_int))
    (pss_one (ps_aug (i := 2) sc_tape_of.nd rfl (.inl rfl) pe_int ip_add))))
    (pss_one (ps_ret (pv 2))))), ?_⟩
    walk_at "ev8"
    refine ⟨fun j σ G => G = H ∧ ∃ (n' d : Nat), j = d ∧ d ≤ m ∧ n' ≤ 1000 ∧ σ = [some (.int (n' : Nat)), some (.int ((m + 1 : Nat) : Int)), some (.int ((m - d : Nat) : Int))] ∧ (m - d) + tapeN d n' = tapeN m n, ⟨m, rfl, n, m, rfl, Nat.le_refl _, hn, by rw [Nat.sub_self]; rfl, by rw [Nat.sub_self, Nat.zero_add]⟩, ?_⟩
    rintro j σ G ⟨rfl, n', d, rfl, hd, hn', rfl, e⟩
    walk_at "ev8"
    cases j with
    | zero =>
      rw [if_neg (by omega)]
      have e : m - 0 = tapeN m n := by rw [← e]; rfl
      rw [e]
      exact hq
    | succ j =>
      rw [if_pos (by omega)]
      refine ⟨by decide, rfl, ?_⟩
      have e3 : tapeN (j + 1) n' = if n' % 2 = 0 then tapeN j (n' / 2) + 1 else 0 := rfl
      rw [e3] at e
      by_cases c : n' % 2 = 0
      · rw [if_pos c] at e
        rw [if_pos (by omega)]
        refine ⟨_, fun σ' H' z => z, ⟨by decide, by omega⟩, j, by omega, rfl, by omega, n' / 2, by omega, ?_, by omega⟩
        have e4 : ((n' : Nat) : Int) / 2 = ((n' / 2 : Nat) : Int) := by omega
        have e5 : ((m - (j + 1) : Nat) : Int) + 1 = ((m - j : Nat) : Int) := by omega
        rw [e4, e5]
      · rw [if_neg c] at e
        rw [if_neg (by omega)]
        have e : m - (j + 1) = tapeN m n := by rw [← e]; rfl
        rw [e]
        exact hq
end
end K8

set_option maxRecDepth 100000
set_option maxHeartbeats 4000000
namespace K8
open PySem PySem.Spec PyProof.Rows L2
open XT (Sm pe_msg)
open SkE (pmk_own1)
local macro_rules | `(tactic| walk_at "ev8") => `(tactic| simp only [tSeq, tIfS, tNot, XT.tChain3, rI0, tC, tVar, tRet, tTup, tLst, tCons, tNil, tJs, tFmt, tNext, tTest, tOp, tUn, rI, rU, tCall, tCB, tAnd, tOr, tB, tDrop, tAsg, gName, tAug, tPar, ipI, tBM, rAppend, tSl, rSlS, tPart, tNoPart, tIf, tM1, rEq, rNe, tFld, tMeth, tMake, L2.start, List.map_cons, List.map_nil, List.length_cons, List.length_nil, Nat.reduceAdd, Nat.reduceSub, Nat.sub_self, List.replicate_zero, List.append_nil, List.replicate_succ, List.cons_append, List.nil_append,
  List.getElem?_cons_zero, List.getElem?_cons_succ, Option.some.injEq, exists_eq_left', exists_eq_left, V.int.injEq, V.str.injEq, V.bl.injEq, V.ref.injEq, List.set_cons_zero, List.set_cons_succ, List.cons.injEq, and_true, true_and, reduceCtorEq, false_and, exists_false, false_or, or_false, exists_and_left, and_assoc, decide_eq_true_eq, Bool.not_eq_true', decide_eq_false_iff_not, Bool.not_false, Bool.not_true, if_true, if_false, Bool.false_eq_true, ↓reduceIte])
section
theorem walk_zipT {K : PySem.W.Frag} {a b : Addr} {xs ys : List V} {n : Nat} (hn : n = min xs.length ys.length) : Walk (RZ.ItzT K a b) n (fun H => SqT K H a xs ∧ SqT K H b ys) (YPair (fun i => xs[i]?) (fun i => ys[i]?)) := by
  subst hn
  refine ⟨fun i _ hi q => ?_, fun _ q => ⟨xs, ys, q.1, q.2, by omega⟩, fun i H v H' _ q y => ?_⟩
  · have h1 : i < xs.length := by omega
    have h2 : i < ys.length := by omega
    exact ⟨xs, ys, xs[i], ys[i], q.1, q.2, by simp [h1], by simp [h2]⟩
  · obtain ⟨T, x, z, h1, h2, h3, h4, h5⟩ := y
    exact ⟨T, x, z, h1, h2, h3, h4 xs q.1, h5 ys q.2⟩
variable {X : Cx} {K0 : PySem.W.Frag}
theorem cr_maxTK (hK : X.K = K0) (hc : X.calm = true) : CallR X (.builtin "max") (RU.rMaxT K0) := by
  subst hK
  exact RU.cr_maxT hc
end
section
variable {P : Program} {w : World} {K : PySem.W.Frag} {mg : Str → Option Value} {base : Heap} {R Pp C0 : Addr} {Ps : List Addr}
/-! both: slots one=0 other=1 last=2 days=3 weeks=4 months=5 pair=6 -/
abbrev s_both : Stmt := topS 19
theorem sc_both : FnScope ["one", "other", "last", "days", "weeks", "months", "pair"] ["one", "other"] (defScope s_both) := ⟨rfl, rfl, rfl, by decide +kernel, rfl, by decide +kernel, by decide +kernel⟩
theorem bk_both : BlkOk ["one", "other", "last", "days", "weeks", "months", "pair"] (defScope s_both) { kind := ScopeKind.function, names := [(".0", NameKind.local), ("pair", NameKind.local), ("max", NameKind.globalImplicit)], isGenerator := false, isCoroutine := false } [("pair", 6)] := blkOk_by (by decide +kernel)
def sp_both (C0 : Addr) (Ps : List Addr) : Sp := fun vs H Q E => ∃ (p q : Addr) (c d : Cn), vs = [.ref p, .ref q] ∧ RuleAt C0 H p c ∧ RuleAt C0 H q d ∧ c.ok ∧ d.ok ∧ Tb Ps H ∧ ∀ H' r, Gw Ps H H' → RuleAt C0 H' r (c.both d) → Q (.ref r) H'
theorem gUnl4 {p : Addr} {v x y z : V} {i j k l : Nat} {σ : L2.St} {H : Hp} {Q : L2.St → Hp → Prop} (h : SqL K H p [v, x, y, z]) (q : Q ((((σ.set i (some v)).set j (some x)).set k (some y)).set l (some z)) H) : gUnl K 4 (gCons (gName i) (gCons (gName j) (gCons (gName k) (gCons (gName l) gNil)))) (.ref p) σ H Q := ⟨p, _, rfl, h, rfl, _, _, rfl, _, _, rfl, _, _, rfl, _, _, rfl, rfl, q⟩
theorem ok_both {f f1 f2 : Addr} {fd fd1 fd2 : FuncData} {k k1 k2 : Nat} (F : Fun K "both" "both" s_both f fd) (T : Txt K mg R Pp C0)
    (M1 : MCal P w K mg base (L2.CX P w) k1 C0 "shown" ["self"] (sp_shown C0 Ps) f1 fd1) (MK : Mk K C0 f2) (FI : FnOk P w K mg base (L2.CX P w) k2 f2 fd2 ["self", "last", "days", "weeks", "months"] (sp_init R C0 Ps)) (BI : Binds K fd2 ["self", "last", "days", "weeks", "months"] []) (h1 : k1 ≤ k) (h2 : k2 + 1 ≤ k) : FnOk P w K mg base (L2.CX P w) (k + 1) f fd ["one", "other"] (sp_both C0 Ps) := by
  refine F.okX sc_both (fun vs H Q E h => ?_) (fun cdv A outer s H vs Q E hr h => ?_)
  · obtain ⟨p, q, c, d, rfl, _⟩ := h
    rfl
  · obtain ⟨p, q, c, d, rfl, hp, hq0, hc, hd, tb, hq⟩ := h
    refine ⟨_, (pss_cons (ps_asg (pe_lc (own := [("pair", 6)]) rfl sc_both.nd (RU.pi_zipP (by rfl) T.z_zip (pa_cons (pe_meth0 (pv 0) T.cl M1.m M1.ok (hr.mono h1) M1.b .nil passF) (pa_cons (pe_meth0 (pv 1) T.cl M1.m M1.ok (hr.mono h1) M1.b .nil passF) pa_nil))) bk_both (fun _ _ _ _ _ => (pg_name (i := 6) sc_both.nd rfl (.inl rfl))) (fun _ _ _ _ _ => pts_nil) (fun _ _ _ _ _ => (pe_callB (cr_maxTK (K0 := K) rfl rfl) (by rfl) T.z_max (by decide +kernel) (pa_cons (pv 6) pa_nil)))) (pg_unl rfl (pgs_cons (pg_name (i := 2) sc_both.nd rfl (.inl rfl)) (pgs_cons (pg_name (i := 3) sc_both.nd rfl (.inl rfl)) (pgs_cons (pg_name (i := 4) sc_both.nd rfl (.inl rfl)) (pgs_cons (pg_name (i := 5) sc_both.nd rfl (.inl rfl)) pgs_nil))))))
    (pss_one (ps_ret (pe_make MK FI (hr.mono h2) (by rfl) T.g_Rule BI .nil passF (pa_cons (pv 2) (pa_cons (pv 3) (pa_cons (pv 4) (pa_cons (pv 5) pa_nil)))))))), ?_⟩
    walk_at "ev8"
    obtain ⟨dx, h0⟩ := hp
    obtain ⟨dy, h0'⟩ := hq0
    have nqP : q ∉ Ps := tb.not h0' fun _ z => by cases z
    refine ⟨_, rfl, p, dx, _, rfl, h0, rfl, p, c, rfl, ⟨dx, h0⟩, tb, fun H1 a g1 ha0 ha => ?_⟩
    refine ⟨_, rfl, q, dy, _, rfl, g1.2 _ _ nqP h0', rfl, q, d, rfl, ⟨dy, g1.2 _ _ nqP h0'⟩, g1.1, fun H2 b g2 hb0 hb => ?_⟩
    have naP : a ∉ Ps := g1.1.not ha fun _ z => by cases z
    have nbP : b ∉ Ps := g2.1.not hb fun _ z => by cases z
    have ha2 := g2.2 _ _ naP ha
    refine ⟨a, b, _, _, rfl, SqT_of ha2, SqT_of hb, fun D hD => ?_⟩
    have g12 := g1.trans g2
    have naD : a ≠ D := ne_of_none ha2 hD
    have nbD : b ≠ D := ne_of_none hb hD
    have nDP : D ∉ Ps := g2.1.none hD
    have sel : ∀ (i : Nat) (y z : V), ((cnL c).map V.int)[i]? = some y → ((cnL d).map V.int)[i]? = some z → ∃ u v : Nat, y = .int (u : Nat) ∧ z = .int (v : Nat) ∧ (cnL (c.both d))[i]? = some ((max u v : Nat) : Int) := by
      intro i y z hi hj
      match i, hi, hj with
      | 0, hi, hj => exact ⟨c.n, d.n, (Option.some.inj hi).symm, (Option.some.inj hj).symm, rfl⟩
      | 1, hi, hj => exact ⟨c.d, d.d, (Option.some.inj hi).symm, (Option.some.inj hj).symm, rfl⟩
      | 2, hi, hj => exact ⟨c.w, d.w, (Option.some.inj hi).symm, (Option.some.inj hj).symm, rfl⟩
      | 3, hi, hj => exact ⟨c.m, d.m, (Option.some.inj hi).symm, (Option.some.inj hj).symm, rfl⟩
      | n + 4, hi, _ => simp [cnL] at hi
    refine lc_it (walk_zipT (xs := (cnL c).map V.int) (ys := (cnL d).map V.int) (n := 4) rfl) (fun i H' => Gw Ps H2 H' ∧ H' D = some (.lst (((cnL (c.both d)).take i).map V.int)) ∧ H' a = some (.tup ((cnL c).map V.int)) ∧ H' b = some (.tup ((cnL d).map V.int))) ⟨(Gw.refl g2.1).new hD, upd_same, by rw [upd_ne naD]; exact ha2, by rw [upd_ne nbD]; exact hb⟩ (fun i H' _ z => ⟨SqT_of z.2.2.1, SqT_of z.2.2.2⟩) ?_ ?_
    · rintro i x H' H'' hi ⟨gi, hDi, hai, hbi⟩ ⟨T', y, z, rfl, hT, rfl, e1, e2⟩
      obtain ⟨u, v, rfl, rfl, e3⟩ := sel i y z e1 e2
      refine ⟨rfl, ?_⟩
      simp only [tYes, wipe, List.set_cons_zero, List.set_cons_succ, ↓reduceIte]
      walk_at "ev8"
      refine ⟨T', [(u : Int), (v : Int)], rfl, SqT_of upd_same, Nat.zero_lt_succ _, fun m m1 m2 => ?_⟩
      have em : m = ((max u v : Nat) : Int) := by
        have h1 := m2 (u : Int) (List.mem_cons_self ..)
        have h2 := m2 (v : Int) (List.mem_cons_of_mem _ (List.mem_cons_self ..))
        simp only [List.mem_cons, List.not_mem_nil, or_false] at m1
        omega
      have nDT : D ≠ T' := ne_of_none hDi hT
      have naT : a ≠ T' := ne_of_none hai hT
      have nbT : b ≠ T' := ne_of_none hbi hT
      refine ⟨_, by rw [upd_ne nDT]; exact hDi, ?_, (gi.new hT).set hD nDP, ?_, ?_, ?_⟩
      · rw [List.length_map, List.length_take]
        exact Nat.lt_of_le_of_lt (Nat.min_le_right _ _) (by show 4 < sizeLine; decide)
      · rw [upd_same, List.take_add_one, e3, em, List.map_append]
        rfl
      · rw [upd_ne naD, upd_ne naT]; exact hai
      · rw [upd_ne nbD, upd_ne nbT]; exact hbi
    · rintro H' ⟨gi, hDi, -, -⟩
      refine gUnl4 (SqL.of hDi) ?_
      simp only [List.set_cons_zero, List.set_cons_succ]
      walk_at "ev8"
      refine fun r dr hr0 hdr0 ndr => ?_
      unfold Cn.ok at hc hd
      have gr := (gi.new (o := .own r) hdr0).new (o := .ins C0 dr []) (l := r) (by rw [upd_ne ndr.symm]; exact hr0)
      refine ⟨r, dr, (max c.n d.n : Nat), (max c.d d.d : Nat), (max c.w d.w : Nat), (max c.m d.m : Nat), rfl, upd_same, ⟨by omega, by omega⟩, ⟨by omega, by omega⟩, ⟨by omega, by omega⟩, ⟨by omega, by omega⟩, gr.1, fun n n1 n2 n3 n4 => ⟨rfl, hq _ r ?_ ⟨dr, ?_⟩⟩, fun z => by omega⟩
      · rw [upd_upd]
        exact ((g12.trans gi).new (o := .own r) hdr0).new (by rw [upd_ne ndr.symm]; exact hr0)
      · rw [upd_same]
        have : n = c.both d := by
          obtain ⟨a1, a2, a3, a4⟩ := n
          unfold Cn.both
          congr 1 <;> (simp only at n1 n2 n3 n4; omega)
        rw [this]
end
end K8

set_option maxRecDepth 100000
set_option maxHeartbeats 4000000
namespace K8
open PySem PySem.Spec PyProof.Rows L2
open XT (Sm pe_msg)
open SkE (pmk_own1)
local macro_rules | `(tactic| walk_at "ev8") => `(tactic| simp only [tSeq, tIfS, tNot, XT.tChain3, rI0, tC, tVar, tRet, tTup, tLst, tCons, tNil, tJs, tFmt, tNext, tTest, tOp, tUn, rI, rU, tCall, tCB, tAnd, tOr, tB, tDrop, tAsg, gName, tAug, tPar, ipI, tBM, rAppend, tSl, rSlS, tPart, tNoPart, tIf, tM1, rEq, rNe, tFld, tMeth, tMake, L2.start, List.map_cons, List.map_nil, List.length_cons, List.length_nil, Nat.reduceAdd, Nat.reduceSub, Nat.sub_self, List.replicate_zero, List.append_nil, List.replicate_succ, List.cons_append, List.nil_append,
  List.getElem?_cons_zero, List.getElem?_cons_succ, Option.some.injEq, exists_eq_left', exists_eq_left, V.int.injEq, V.str.injEq, V.bl.injEq, V.ref.injEq, List.set_cons_zero, List.set_cons_succ, List.cons.injEq, and_true, true_and, reduceCtorEq, false_and, exists_false, false_or, or_false, exists_and_left, and_assoc, decide_eq_true_eq, Bool.not_eq_true', decide_eq_false_iff_not, Bool.not_false, Bool.not_true, if_true, if_false, Bool.false_eq_true, ↓reduceIte])
section
variable {P : Program} {w : World} {K : PySem.W.Frag} {mg : Str → Option Value} {base : Heap} {R Pp C0 : Addr} {Ps : List Addr}
def qCont (K : PySem.W.Frag) (t : Bool) (p : Addr) (te : TE) (ix : List (Option Nat)) (σ : L2.St) (Q : VK) : V → Hp → Prop := fun x H1 => ∃ a, x = .ref a ∧ (∃ xs, SqL K H1 a xs) ∧ (GxR.TabG H1 p ∧ ∀ H2, GxR.Tabbed p H1 H2 →
  ∃ W : Nat → Nat → Hp → Prop, (∃ m, W 0 m H2) ∧ GX.QTurn t (Itl K a) (gName 0) tYes te (GX.capt ix σ) [0] Q W)
theorem tQuant_by {K : PySem.W.Frag} {t : Bool} {p : Addr} {te0 : TE} {te : TE} {ix : List (Option Nat)} {σ : L2.St} {H : Hp} {Q : VK} (h : te0 σ H (qCont K t p te ix σ Q)) : GX.tQuant t p (iList K te0) (gName 0) tYes te ix [0] σ H Q := h
theorem qCont_list {K : PySem.W.Frag} {t : Bool} {p : Addr} {te : TE} {ix : List (Option Nat)} {σ : L2.St} {Q : VK} {a : Addr} {xs : List V} {Hm : Hp} (ht : GxR.TabG Hm p)
    (hl : ∀ H2, GxR.Tabbed p Hm H2 → SqL K H2 a xs) (hl0 : SqL K Hm a xs) (fx : V → Bool)
    (hs : ∀ x ∈ xs, ∀ (H2 : Hp), GxR.Tabbed p Hm H2 → ∀ (R : VK), R (.bl (fx x)) H2 → te ((wipe (GX.capt ix σ) [0]).set 0 (some x)) H2 R) (hw : ∀ x, wipe ((wipe (GX.capt ix σ) [0]).set 0 (some x)) [0] = wipe (GX.capt ix σ) [0])
    (h1 : (∀ x ∈ xs, fx x = t) → ∀ H2, GxR.Tabbed p Hm H2 → Q (.bl t) H2) (h2 : (∃ x ∈ xs, fx x ≠ t) → ∀ H2, GxR.Tabbed p Hm H2 → Q (.bl (!t)) H2) : qCont K t p te ix σ Q (.ref a) Hm := by
  refine ⟨a, rfl, ⟨xs, hl0⟩, ht, fun H2 hh => ?_⟩
  have hl2 := hl H2 hh
  refine XT.qturn_pure xs.length (fun i => match xs[i]? with | some x => fx x | none => t) (fun i hi => ⟨xs, xs[i], hl2, List.getElem?_eq_getElem hi⟩) ⟨xs, hl2, Nat.le_refl _⟩ (fun i hi y H' hy Nx hn1 hn2 => ?_) (fun hall => h1 (fun x hx => ?_) H2 hh) (fun ⟨i, hi, he⟩ => h2 ?_ H2 hh)
  · obtain ⟨rfl, hy⟩ := hy
    have e := hy xs hl2
    simp only [e] at hn1 hn2
    refine ⟨hw y, ?_⟩
    simp only [tYes, ↓reduceIte]
    refine hs y (List.mem_of_getElem? e) _ hh _ ⟨_, rfl, ?_⟩
    by_cases c : fx y = t
    · rw [if_pos c]; exact hn1 c
    · rw [if_neg c]; exact hn2 c
  · obtain ⟨i, hi, e⟩ := List.mem_iff_getElem.mp hx
    have := hall i hi
    simp only [List.getElem?_eq_getElem hi, e] at this
    exact this
  · simp only [List.getElem?_eq_getElem hi] at he
    exact ⟨xs[i], List.getElem_mem hi, he⟩
theorem strOk_WD {c : Cn} {L : List Int} {t : Int} : ∀ x ∈ WD c L t, PyData.strOk x = true := by
  have h : ∀ (b : Prop) [Decidable b] (s : Str), PyData.strOk s = true → ∀ x ∈ wd b s, PyData.strOk x = true := by
    intro b _ s hs x hx
    unfold wd at hx
    split at hx
    · rw [List.mem_singleton.mp hx]; exact hs
    · cases hx
  intro x hx
  have hx : x ∈ wd (t ∈ A0 c L) "last" ++ wd (t ∈ A1 c L) "day" ++ wd (t ∈ A2 c L) "week" ++ wd (t ∈ A3 c L) "month" := hx
  rcases List.mem_append.mp hx with hx | hx
  · rcases List.mem_append.mp hx with hx | hx
    · rcases List.mem_append.mp hx with hx | hx
      · exact h _ _ (by decide +kernel) x hx
      · exact h _ _ (by decide +kernel) x hx
    · exact h _ _ (by decide +kernel) x hx
  · exact h _ _ (by decide +kernel) x hx
theorem rNe_tS {H : Hp} {a b : Addr} {ns ms : List Str} {Q : VK} (hn : ∀ x ∈ ns, PyData.strOk x = true) (hm : ∀ x ∈ ms, PyData.strOk x = true) (ha : SqT K H a (ns.map V.str)) (hb : SqT K H b (ms.map V.str)) (q : Q (.bl (!decide (ns = ms))) H) : rNeD K (.ref a) (.ref b) H Q := ⟨_, _, dp_tS ha, dp_tS hb, shp_tS _ hn, shp_tS _ hm, by rw [eqv_tS]; exact q⟩
/-! check_stays: slots rule=0 times=1 stays=2 time=3 -/
abbrev s_check_stays : Stmt := topS 20
theorem sc_check_stays : FnScope ["rule", "times", "stays", "time"] ["rule", "times", "stays"] (defScope s_check_stays) := ⟨rfl, rfl, rfl, by decide +kernel, rfl, by decide +kernel, by decide +kernel⟩
theorem gs_cs : GX.GScp ["rule", "times", "stays", "time"] (defScope s_check_stays) { kind := ScopeKind.function, names := [(".0", NameKind.local), ("time", NameKind.local), ("times", NameKind.free)], isGenerator := true, isCoroutine := false } ["time", "times"] [none, some 1] := GX.gsc_by (by decide +kernel)
/-- just those stay that some reason keeps -/
def GoodC (c : Cn) (L ns ms : List Int) : Prop := (∀ t ∈ ns, t ∈ ms ↔ t ∈ ST c L) ∧ ∀ t ∈ ms, t ∈ ns
def sp_check_stays (K : PySem.W.Frag) (Pp C0 : Addr) (Ps : List Addr) : Sp := fun vs H Q E => ∃ (p a b : Addr) (c : Cn) (ns ms L : List Int), vs = [.ref p, .ref a, .ref b] ∧ RuleAt C0 H p c ∧ c.ok ∧ Tms K H a ns L ∧ SqL K H a (ns.map V.int) ∧ SqL K H b (ms.map V.int) ∧ ms.length ≤ 1000 ∧ Tb Ps H ∧
  (GoodC c L ns ms → ∀ H', Gw Ps H H' → Q (.bl true) H') ∧ (¬ GoodC c L ns ms → ∀ H', Gw Ps H H' → E (.ref Pp) none H')
theorem ok_check_stays {f f1 cc pp : Addr} {fd fd1 : FuncData} {k k1 : Nat} (F : FunC K "check_stays" "check_stays" s_check_stays f fd cc) (TB : GxR.TabB base mg cc pp) (hpp : pp ∈ Ps) (T : Txt K mg R Pp C0)
    (M1 : MCal P w K mg base (L2.CX P w) k1 C0 "why" ["self", "times", "time"] (sp_why K R C0 Ps) f1 fd1) (h1 : k1 ≤ k) : FnOk P w K mg base (L2.CX P w) (k + 8) f fd ["rule", "times", "stays"] (sp_check_stays K Pp C0 Ps) := by
  refine F.okX sc_check_stays (fun vs H Q E h => ?_) (fun A outer s H vs Q E hr h => ?_)
  · obtain ⟨p, a, b, c, ns, ms, L, rfl, _⟩ := h
    rfl
  · obtain ⟨p, a, b, c, ns, ms, L, rfl, hp, hc, ht, ha, hb, lm, tb, hq, hx⟩ := h
    have hr0 : Room (k + 1) (A.deeper (envOfC "check_stays" (defScope s_check_stays) s.heap.objs.size f (.ref cc))) := hr.mono (by omega)
    refine ⟨_, (pss_cons (ps_for (passes_of rfl) rfl (pi_list (pv 1)) (pg_name (i := 3) sc_check_stays.nd rfl (.inl rfl))
      (pss_one (ps_if (pt_cmpR op_ne (pe_cmpR op_in_seq (pv 3) (pv 2) (by with_unfolding_all rfl)) (pe_cmpR (op_neD hr.units) (pe_meth (pv 0) T.cl M1.m M1.ok (hr.mono (by omega)) M1.b .nil passF (pa_cons (pv 1) (pa_cons (pv 3) pa_nil))) (pe_tup pa_nil) (nomark _)) (nomark _))
      (pss_one (ps_raise rfl (takes_of rfl rfl rfl rfl) (pmk_own1 PySem.F.excBase_ValueError T.x_P T.g_P T.k_P (raises_own T.b_P T.t_P) (by rfl) (pe_msg (.cons (.lit (by decide)) (.cons (.var (pv 3)) .nil)))))) pss_nil)))
    (pss_cons (ps_if (pt_val (GX.pe_anyG (k := k) (vs := [0]) hr0 (by rfl) T.z_any TB rfl gs_cs (pi_list (pv 2)) (fun _ _ _ _ _ _ _ => (pg_name (i := 0) gs_cs.nd rfl (.inl rfl))) (fun _ _ _ _ _ _ _ hr => pts_nil) (fun _ _ _ _ _ _ _ hr => (pe_cmpR (op_notInK (K0 := K) rfl) (pv 0) (pv 1) (by with_unfolding_all rfl)))))
      (pss_one (ps_raise rfl (takes_of rfl rfl rfl rfl) (pmk_own1 PySem.F.excBase_ValueError T.x_P T.g_P T.k_P (raises_own T.b_P T.t_P) (by rfl) pe_str))) pss_nil)
    (pss_one (ps_ret pe_bl)))), ?_⟩
    walk_at "ev8"
    obtain ⟨dx, h0⟩ := hp
    have npP : p ∉ Ps := tb.not h0 fun _ z => by cases z
    refine ⟨_, rfl, a, rfl, ⟨_, ha⟩, for_list (xs := ns.map V.int) (fun i σ H' => (∃ z, σ = [some (.ref p), some (.ref a), some (.ref b), z]) ∧ Gw Ps H H' ∧ ∀ t ∈ ns.take i, t ∈ ms ↔ t ∈ ST c L) ⟨⟨_, rfl⟩, Gw.refl tb, fun t h => by simp at h⟩ ?_ ?_ ?_⟩
    · rintro i σ H' hi ⟨_, gi, _⟩
      exact gi.sqL tb ha
    · rintro i x σ H' hi ⟨⟨z, rfl⟩, gi, al⟩
      rw [List.getElem?_map] at hi
      obtain ⟨t, ht2, rfl⟩ := Option.map_eq_some_iff.mp hi
      have tn : t ∈ ns := List.mem_of_getElem? ht2
      have lo := ht.lo t tn
      walk_at "ev8"
      refine ⟨b, _, rfl, .inl (gi.sqL tb hb), rfl, flat_I ms, ?_⟩
      rw [inV_I]
      have h0' := gi.2 _ _ npP h0
      refine ⟨dx, _, h0', rfl, p, a, t, c, ns, L, rfl, ⟨dx, h0'⟩, hc, ht.gw tb gi, ⟨by omega, by omega⟩, gi.1, fun _ H3 u g3 hu hU => ?_, fun z => absurd tn z⟩
      refine ⟨by decide, fun e he => ?_⟩
      have nue : u ≠ e := ne_of_none hU he
      refine rNe_tS (ns := WD c L t) (ms := []) strOk_WD (fun x hx => nomatch hx) (SqT_of (by rw [upd_ne nue]; exact hU)) (SqT_of upd_same) ?_
      have ge := (gi.trans g3).new (o := .tup []) he
      refine ⟨rfl, ?_⟩
      have inj : ∀ {x y : Bool}, ¬V.bl x = V.bl y ↔ x ≠ y := fun {x y} => ⟨fun h z => h (by rw [z]), fun h z => h (V.bl.inj z)⟩
      have eW : (WD c L t = []) ↔ t ∉ ST c L := WD_nil
      by_cases good : t ∈ ms ↔ t ∈ ST c L
      · have e1 : ¬ (decide (t ∈ ms) ≠ !decide (WD c L t = [])) := fun z => z (by
          by_cases m : t ∈ ms
          · have m2 := good.mp m
            simp [m, eW, m2]
          · have m2 : t ∉ ST c L := fun z => m (good.mpr z)
            simp [m, eW, m2])
        simp only [if_false, Bool.false_eq_true]
        rw [if_neg (fun z => e1 (inj.mp z))]
        refine ⟨⟨_, rfl⟩, ge, fun y hy => ?_⟩
        rw [List.take_add_one, ht2] at hy
        rcases List.mem_append.mp hy with hy | hy
        · exact al y hy
        · have : y = t := by simpa using hy
          rw [this]
          exact good
      · have e1 : decide (t ∈ ms) ≠ !decide (WD c L t = []) := fun z => good (by
          by_cases m : t ∈ ms
          · simp only [m, decide_true] at z
            have : ¬ WD c L t = [] := fun y => by simp [y] at z
            exact ⟨fun _ => Classical.not_not.mp fun y => this (eW.mpr y), fun _ => m⟩
          · simp only [m, decide_false] at z
            have : WD c L t = [] := by simpa using z
            exact ⟨fun y => absurd y m, fun y => absurd y (eW.mp this)⟩)
        simp only [if_false, Bool.false_eq_true]
        rw [if_pos (inj.mpr e1)]
        exact ⟨⟨by omega, by omega⟩, fun _ => hx (fun g => good (g.1 t tn)) _ ge⟩
    · rintro σ H' ⟨⟨z, rfl⟩, gi, al⟩
      rw [List.length_map, List.take_length] at al
      walk_at "ev8"
      refine tQuant_by ?_
      walk_at "ev8"
      refine qCont_list (xs := ms.map V.int) (gi.1 pp hpp) (fun H2 hh => (gi.tab hpp hh).sqL tb hb) (gi.sqL tb hb) (fun x => match x with | .int y => !decide (y ∈ ns) | _ => false) ?_ (fun x => rfl) ?_ ?_
      · intro x hx2 H2 hh R r
        obtain ⟨y, hy, rfl⟩ := List.mem_map.mp hx2
        simp only [GX.capt, wipe, List.map_cons, List.map_nil, List.set_cons_zero, List.getElem?_cons_zero, List.getElem?_cons_succ, Option.getD_some]
        walk_at "ev8"
        refine ⟨a, _, rfl, .inl ((gi.tab hpp hh).sqL tb ha), rfl, flat_I ns, ?_⟩
        rw [inV_I]
        simp only [if_true]
        exact r
      · intro hall H2 hh
        refine ⟨_, rfl, ?_⟩
        rw [if_neg (by decide)]
        refine hq ⟨fun t h => al t h, fun t h => ?_⟩ H2 (gi.tab hpp hh)
        have := hall (.int t) (List.mem_map.mpr ⟨t, h, rfl⟩)
        simpa using this
      · intro hex H2 hh
        refine ⟨_, rfl, ?_⟩
        rw [if_pos (by decide)]
        refine hx (fun g => ?_) H2 (gi.tab hpp hh)
        obtain ⟨v, hv, hd⟩ := hex
        obtain ⟨y, hy, rfl⟩ := List.mem_map.mp hv
        simp [g.2 y hy] at hd
end
end K8

set_option maxRecDepth 100000
set_option maxHeartbeats 4000000
namespace K8
open PySem PySem.Spec PyProof.Rows L2
open XT (Sm pe_msg)
open SkE (pmk_own1)
local macro_rules | `(tactic| walk_at "ev8") => `(tactic| simp only [tSeq, tIfS, tNot, XT.tChain3, rI0, tC, tVar, tRet, tTup, tLst, tCons, tNil, tJs, tFmt, tNext, tTest, tOp, tUn, rI, rU, tCall, tCB, tAnd, tOr, tB, tDrop, tAsg, gName, tAug, tPar, ipI, tBM, rAppend, tSl, rSlS, tPart, tNoPart, tIf, tM1, rEq, rNe, tFld, tMeth, tMake, L2.start, List.map_cons, List.map_nil, List.length_cons, List.length_nil, Nat.reduceAdd, Nat.reduceSub, Nat.sub_self, List.replicate_zero, List.append_nil, List.replicate_succ, List.cons_append, List.nil_append,
  List.getElem?_cons_zero, List.getElem?_cons_succ, Option.some.injEq, exists_eq_left', exists_eq_left, V.int.injEq, V.str.injEq, V.bl.injEq, V.ref.injEq, List.set_cons_zero, List.set_cons_succ, List.cons.injEq, and_true, true_and, reduceCtorEq, false_and, exists_false, false_or, or_false, exists_and_left, and_assoc, decide_eq_true_eq, Bool.not_eq_true', decide_eq_false_iff_not, Bool.not_false, Bool.not_true, if_true, if_false, Bool.false_eq_true, ↓reduceIte])
section
theorem walk_num {K : PySem.W.Frag} {a : Addr} {xs : List V} {k0 : Int} : Walk (RU.Itn1 K a k0) xs.length (fun H => SqT K H a xs) (YPair (fun i => some (.int (k0 + (i : Nat)))) (fun i => xs[i]?)) := by
  refine ⟨fun i _ hi q => ⟨xs, xs[i], q, by simp [hi]⟩, fun _ q => ⟨xs, q, Nat.le_refl _⟩, fun i H v H' _ q y => ?_⟩
  obtain ⟨T, x, h1, h2, h3, h4⟩ := y
  exact ⟨T, .int (k0 + (i : Nat)), x, h1, h2, h3, rfl, h4 xs q⟩
theorem tTupG_rng2 {p : Addr} {ta : TA} {gt : TG} {tt : TT} {te : TE} {ix : List (Option Nat)} {vs : List Nat} {σ : L2.St} {H : Hp} {Q : VK} (i j : Int) (ha : ∀ R : List V → Hp → Prop, R [.int i, .int j] H → ta σ H R) (rc : -(2 ^ 62) ≤ i ∧ i < 2 ^ 62 ∧ -(2 ^ 62) ≤ j ∧ j < 2 ^ 62) (ht : GxR.TabG H p)
    (h : ∀ H2, GxR.Tabbed p H H2 → ∃ W : Nat → Nat → List V → Hp → Prop, (∃ m, W 0 m [] H2) ∧ GX.LTurn (Itr i (j - i).toNat) gt tt te (GX.capt ix σ) vs (fun out H2 => ∀ p, H2 p = none → Q (.ref p) (upd H2 p (.tup out))) W) : GX.tTupG (GX.tGenL p (iRng2 ta) gt tt te ix vs) σ H Q := ha _ ⟨i, j, rfl, rc, ht, h⟩
end
section
variable {P : Program} {w : World} {K : PySem.W.Frag} {mg : Str → Option Value} {base : Heap} {R Pp C0 : Addr} {Ps : List Addr}
abbrev s_tower : Stmt := topS 23
theorem sc_tower : FnScope ["count", "turns"] ["count", "turns"] (defScope s_tower) := ⟨rfl, rfl, rfl, by decide +kernel, rfl, by decide +kernel, by decide +kernel⟩
theorem gs_tower0 : GX.GScp ["count", "turns"] (defScope s_tower) { kind := ScopeKind.function, names := [(".0", NameKind.local), ("turn", NameKind.local), ("count", NameKind.free), ("tape_of", NameKind.globalImplicit)], isGenerator := true, isCoroutine := false } ["turn", "count"] [none, some 0] := GX.gsc_by (by decide +kernel)
/-- the tapes of n turns on m + 1 tapes -/
def towL (m n : Nat) : List Int := (List.range n).map fun i => ((tapeN m (i + 1) : Nat) : Int)
def sp_tower (R : Addr) (Ps : List Addr) : Sp := fun vs H Q E => ∃ (a b : Int), vs = [.int a, .int b] ∧ Sm a ∧ Sm b ∧ Tb Ps H ∧ ((a < 1 ∨ b < 0) → E (.ref R) none H) ∧ ∀ m n : Nat, a = ((m + 1 : Nat) : Int) → b = (n : Nat) → m ≤ 1000 ∧ n ≤ 900 ∧ NewT Ps H ((towL m n).map V.int) Q
theorem ok_tower {f f1 cc pp : Addr} {fd fd1 : FuncData} {k k1 : Nat} (F : FunC K "tower" "tower" s_tower f fd cc) (TB : GxR.TabB base mg cc pp) (hpp : pp ∈ Ps) (T : Txt K mg R Pp C0)
    (G1 : Cal P w K mg base (L2.CX P w) k1 "tape_of" ["turn", "count"] (sp_tape_of Ps) f1 fd1) (h1 : k1 ≤ k) : FnOk P w K mg base (L2.CX P w) (k + 8) f fd ["count", "turns"] (sp_tower R Ps) := by
  refine F.okX sc_tower (fun vs H Q E h => ?_) (fun A outer s H vs Q E hr h => ?_)
  · obtain ⟨a, b, rfl, _⟩ := h
    rfl
  · obtain ⟨a, b, rfl, sa, sb, tb, h1', h2'⟩ := h
    have hr0 : Room k (A.deeper (envOfC "tower" (defScope s_tower) s.heap.objs.size f (.ref cc))) := hr.mono (by omega)
    have hr1 : Room (k + 6) (A.deeper (envOfC "tower" (defScope s_tower) s.heap.objs.size f (.ref cc))) := hr.mono (by omega)
    refine ⟨_, (pss_cons (ps_if (PW.pt (pw_or (pt_cmpR op_lt (pv 0) pe_int (nomark _)) (pw_or1 (pt_cmpR op_lt (pv 1) pe_int (nomark _)))))
      (pss_one (ps_raise rfl (takes_of rfl rfl rfl rfl) (pmk_own1 PySem.F.excBase_ValueError T.x_R T.g_R T.k_R (raises_own T.b_R T.t_R) (by rfl) (pe_msg (.cons (.var (pv 0)) (.cons (.lit (by decide)) (.cons (.var (pv 1)) (.cons (.lit (by decide)) .nil)))))))) pss_nil)
    (pss_one (ps_ret (GX.pe_tupG (k := k + 1) (GX.pgen_exp (Ng := ["turn", "count"]) (ix := [none, some 0]) (vs := [0]) (k := k) hr0 TB rfl gs_tower0 (pi_range2 (by rfl) T.z_range (pa_cons pe_int (pa_cons (pe_op op_add (pv 1) pe_int) pa_nil))) (fun _ _ _ _ _ _ _ => (pg_name (i := 0) gs_tower0.nd rfl (.inl rfl))) (fun _ _ _ _ _ _ _ hr => pts_nil) (fun _ _ _ _ _ _ _ hr => (pe_call G1.ok ((hr _).mono h1) (by rfl) G1.g G1.kp G1.b .nil passF (pa_cons (pv 0) (pa_cons (pv 1) pa_nil))))) hr1 (by rfl) T.z_tuple (by decide +kernel))))), ?_⟩
    walk_at "ev8"
    by_cases ca : a < 1
    · rw [if_pos ca]
      exact ⟨sa, sb, fun _ => h1' (.inl ca)⟩
    rw [if_neg ca]
    by_cases cb : b < 0
    · rw [if_pos cb]
      exact ⟨sa, sb, fun _ => h1' (.inr cb)⟩
    rw [if_neg cb]
    obtain ⟨m, rfl⟩ : ∃ m : Nat, a = ((m + 1 : Nat) : Int) := ⟨(a - 1).toNat, by omega⟩
    obtain ⟨n, rfl⟩ : ∃ n : Nat, b = (n : Nat) := ⟨b.toNat, by omega⟩
    obtain ⟨lm, ln, h3⟩ := h2' m n rfl rfl
    refine tTupG_rng2 1 (n + 1) (fun R r => ?_) (by omega) (tb pp hpp) (fun H2 hh => ?_)
    · walk_at "ev8"
      exact r
    have g2 : Gw Ps H H2 := (Gw.refl tb).tab hpp hh
    have en : (((n : Nat) : Int) + 1 - 1).toNat = n := by omega
    rw [en]
    refine XT.lturn_pure n (fun i => some (.int (tapeN m (i + 1) : Nat))) (Nat.le_trans ln (by decide)) (fun i hi => hi) (Nat.le_refl _) (fun i hi y H' hy ys Nx hl hnx => ?_) ?_
    · obtain ⟨rfl, rfl⟩ := hy
      refine ⟨rfl, ?_⟩
      simp only [tYes, ↓reduceIte, GX.capt, wipe, List.map_cons, List.map_nil, List.getElem?_cons_zero, List.getElem?_cons_succ, Option.getD_some, List.set_cons_zero, List.set_cons_succ]
      walk_at "ev8"
      exact ⟨i + 1, m, by rw [show (1 : Int) + (i : Nat) = ((i + 1 : Nat) : Int) by omega], by omega, lm, hl, hnx⟩
    · rw [XT.fm_some]
      intro q hq
      refine h3 _ q (g2.new hq) (g2.none tb hq) ?_
      rw [upd_same]
      unfold towL
      rw [List.map_map]
      rfl
/-! on_tapes: slots count=0 turns=1 found=2 turn=3 tape=4 -/
abbrev s_on_tapes : Stmt := topS 25
theorem sc_on_tapes : FnScope ["count", "turns", "found", "turn", "tape"] ["count", "turns"] (defScope s_on_tapes) := ⟨rfl, rfl, rfl, by decide +kernel, rfl, by decide +kernel, by decide +kernel⟩
/-- the last turn of each tape, so many turns told -/
def otD (m : Nat) : Nat → List (Key × V)
  | 0 => []
  | i + 1 => putK (otD m i) (.inl (tapeN m (i + 1) : Nat)) (.int ((i + 1 : Nat) : Int))
theorem putK_len (d : List (Key × V)) (k : Key) (v : V) : (putK d k v).length ≤ d.length + 1 := by
  unfold putK
  split
  · rw [List.length_map]; omega
  · rw [List.length_append]; exact Nat.le_refl _
theorem otD_len (m : Nat) : ∀ i, (otD m i).length ≤ i
  | 0 => Nat.le_refl _
  | i + 1 => Nat.le_trans (putK_len _ _ _) (Nat.succ_le_succ (otD_len m i))
def sp_on_tapes (R : Addr) (Ps : List Addr) : Sp := fun vs H Q E => ∃ (a b : Int), vs = [.int a, .int b] ∧ Sm a ∧ Sm b ∧ Tb Ps H ∧ ((a < 1 ∨ b < 0) → ∀ H', Gw Ps H H' → E (.ref R) none H') ∧ ∀ m n : Nat, a = ((m + 1 : Nat) : Int) → b = (n : Nat) → m ≤ 1000 ∧ n ≤ 900 ∧ ∀ H' d, Gw Ps H H' → H d = none → H' d = some (.dK (otD m n)) → Q (.ref d) H'
theorem ok_on_tapes {f f1 : Addr} {fd fd1 : FuncData} {k k1 : Nat} (F : Fun K "on_tapes" "on_tapes" s_on_tapes f fd) (T : Txt K mg R Pp C0)
    (G1 : Cal P w K mg base (L2.CX P w) k1 "tower" ["count", "turns"] (sp_tower R Ps) f1 fd1) (h1 : k1 ≤ k) : FnOk P w K mg base (L2.CX P w) (k + 1) f fd ["count", "turns"] (sp_on_tapes R Ps) := by
  refine F.okX sc_on_tapes (fun vs H Q E h => ?_) (fun cdv A outer s H vs Q E hr h => ?_)
  · obtain ⟨a, b, rfl, _⟩ := h
    rfl
  · obtain ⟨a, b, rfl, sa, sb, tb, h1', h2'⟩ := h
    have hu := hr.units
    have hu1 : (A.deeper (envOfC "on_tapes" (defScope s_on_tapes) s.heap.objs.size f cdv)).units + 1 < cLine := by omega
    refine ⟨_, (pss_cons (ps_set (i := 2) sc_on_tapes.nd rfl (.inl rfl) pe_dnewK)
    (pss_cons (ps_for (passes_of rfl) rfl (RU.pi_num (by rfl) T.z_enum (pa_cons (pe_call G1.ok (hr.mono h1) (by rfl) G1.g G1.kp G1.b .nil (passes_call (takes_of rfl rfl rfl rfl) (fun _ _ _ _ h => h)) (pa_cons (pv 0) (pa_cons (pv 1) pa_nil))) pa_nil) (pk_cons pe_int pk_nil)) (pg_tup (by rfl) (pgs_cons (pg_name (i := 3) sc_on_tapes.nd rfl (.inl rfl)) (pgs_cons (pg_name (i := 4) sc_on_tapes.nd rfl (.inl rfl)) pgs_nil)))
      (pss_one (ps_dput hu1 (pv 2) (pv 4) (pv 3) rfl)))
    (pss_one (ps_ret (pv 2))))), ?_⟩
    walk_at "ev8"
    refine fun d hd => ?_
    have g0 := (Gw.refl tb).new (o := .dK []) hd
    refine ⟨_, rfl, _, rfl, a, b, rfl, sa, sb, g0.1, fun z => h1' z _ g0, fun m n em en => ?_⟩
    obtain ⟨lm, ln, h3⟩ := h2' m n em en
    refine ⟨lm, ln, fun H1 q g1 hq0 hL => ?_⟩
    have ndP : d ∉ Ps := tb.none hd
    have hd1 := g1.2 _ _ ndP upd_same
    have g01 := g0.trans g1
    have nqd : q ≠ d := fun z => by
      rw [z, upd_same] at hq0
      cases hq0
    have el : ((towL m n).map V.int).length = n := by
      unfold towL
      rw [List.length_map, List.length_map, List.length_range]
    refine ⟨q, _, 1, rfl, rfl, ⟨by decide, by decide⟩, SqT_of hL, for_it walk_num (fun i σ H' => (∃ z3 z4, σ = [some (.int a), some (.int b), some (.ref d), z3, z4]) ∧ Gw Ps H H' ∧ H' d = some (.dK (otD m i)) ∧ H' q = some (.tup ((towL m n).map V.int))) ⟨⟨_, _, rfl⟩, g01, hd1, hL⟩ (fun i σ H' _ z => SqT_of z.2.2.2) ?_ ?_⟩
    · rintro i x σ H' H'' hi ⟨⟨z3, z4, rfl⟩, gi, hdi, hqi⟩ ⟨T', y, z, rfl, hT, rfl, e1, e2⟩
      obtain rfl : V.int (1 + (i : Nat)) = y := Option.some.inj e1
      have ez : z = .int ((tapeN m (i + 1) : Nat) : Int) := by
        rw [el] at hi
        have e2 : ((towL m n).map V.int)[i]? = some z := e2
        unfold towL at e2
        rw [List.map_map, List.getElem?_map, List.getElem?_range hi] at e2
        exact (Option.some.inj e2).symm
      subst ez
      have ndT : d ≠ T' := ne_of_none hdi hT
      have nqT : q ≠ T' := ne_of_none hqi hT
      refine gTup2 (SqT_of upd_same) ?_
      walk_at "ev8"
      refine ⟨_, rfl, _, rfl, _, rfl, d, _, rfl, DPut.k (k := .inl ((tapeN m (i + 1) : Nat) : Int)) (by rw [upd_ne ndT]; exact hdi) ?_, ⟨_, _, rfl⟩, ?_, ?_, ?_⟩
      · rw [el] at hi
        exact Nat.lt_of_le_of_lt (otD_len m i) (Nat.lt_of_lt_of_le hi (Nat.le_trans ln (by decide)))
      · exact (gi.new hT).set hd ndP
      · rw [upd_same]
        rw [show (1 : Int) + (i : Nat) = ((i + 1 : Nat) : Int) by omega]
        rfl
      · rw [upd_ne nqd, upd_ne nqT]
        exact hqi
    · rintro σ H' ⟨⟨z3, z4, rfl⟩, gi, hdi, -⟩
      rw [el] at hdi
      walk_at "ev8"
      exact h3 H' d gi hd hdi
end
end K8

set_option maxRecDepth 100000
set_option maxHeartbeats 4000000
namespace K8
open PySem PySem.Spec PyProof.Rows L2
open XT (Sm pe_msg)
open SkE (pmk_own1)
local macro_rules | `(tactic| walk_at "ev8") => `(tactic| simp only [tSeq, tIfS, tNot, XT.tChain3, rI0, tC, tVar, tRet, tTup, tLst, tCons, tNil, tJs, tFmt, tNext, tTest, tOp, tUn, rI, rU, tCall, tCB, tAnd, tOr, tB, tDrop, tAsg, gName, tAug, tPar, ipI, tBM, rAppend, tSl, rSlS, tPart, tNoPart, tIf, tM1, rEq, rNe, tFld, tMeth, tMake, L2.start, List.map_cons, List.map_nil, List.length_cons, List.length_nil, Nat.reduceAdd, Nat.reduceSub, Nat.sub_self, List.replicate_zero, List.append_nil, List.replicate_succ, List.cons_append, List.nil_append,
  List.getElem?_cons_zero, List.getElem?_cons_succ, Option.some.injEq, exists_eq_left', exists_eq_left, V.int.injEq, V.str.injEq, V.bl.injEq, V.ref.injEq, List.set_cons_zero, List.set_cons_succ, List.cons.injEq, and_true, true_and, reduceCtorEq, false_and, exists_false, false_or, or_false, exists_and_left, and_assoc, decide_eq_true_eq, Bool.not_eq_true', decide_eq_false_iff_not, Bool.not_false, Bool.not_true, if_true, if_false, Bool.false_eq_true, ↓reduceIte])
section
theorem pg_tupK {X : Cx} {K0 : PySem.W.Frag} {es : List Expr} {k : Nat} {t : TGs} {n : Nat} {pos : Pos} (hK : X.K = K0) (hc : X.calm = true) (h : PGs X es t)
    (hn : (assignEach es X.env).length = n := by rfl) (hst : (assignEach es X.env).findIdx? (·.1) = none := by rfl) : PG X (.Tuple es k pos) (gTup K0 n t) := by
  subst hK
  exact pg_tup hc h hn hst
/-- the gaps -/
def gapL (L : List Int) : List Int := (List.range (L.length - 1)).map fun i => L.getD (i + 1) 0 - L.getD i 0
end
section
variable {P : Program} {w : World} {K : PySem.W.Frag} {mg : Str → Option Value} {base : Heap} {R Pp C0 : Addr} {Ps : List Addr}
abbrev s_widest_gap : Stmt := topS 22
theorem sc_widest_gap : FnScope ["times", "row", "time", "later"] ["times"] (defScope s_widest_gap) := ⟨rfl, rfl, rfl, by decide +kernel, rfl, by decide +kernel, by decide +kernel⟩
theorem bk_wg : BlkOk ["times", "row", "time", "later"] (defScope s_widest_gap) { kind := ScopeKind.function, names := [(".0", NameKind.local), ("time", NameKind.local), ("later", NameKind.local)], isGenerator := false, isCoroutine := false } [("time", 2), ("later", 3)] := blkOk_by (by decide +kernel)
def sp_widest_gap (K : PySem.W.Frag) (Ps : List Addr) : Sp := fun vs H Q E => ∃ (a : Addr) (L : List Int), vs = [.ref a] ∧ SqL K H a (L.reverse.map V.int) ∧ SS L ∧ L.length < 64 ∧ Tb Ps H ∧ ∀ H', Gw Ps H H' → ∀ m : Int, m ∈ 0 :: gapL L → (∀ y ∈ 0 :: gapL L, y ≤ m) → Q (.int m) H'
theorem ss_of_le {L ns : List Int} (h : SS L) (p : ns.Perm L) (s : ns.Pairwise (· ≤ ·)) : ns = L := by
  refine ss_ext ?_ h fun x => p.mem_iff
  have nd : ns.Nodup := p.nodup_iff.mpr h.nodup
  unfold SS
  refine List.Pairwise.imp₂ (R := fun a b : Int => a ≤ b) (S := fun a b => a ≠ b) (fun a b h1 h2 => ?_) s nd
  omega
theorem ok_widest_gap {f : Addr} {fd : FuncData} {k : Nat} (F : Fun K "widest_gap" "widest_gap" s_widest_gap f fd) (T : Txt K mg R Pp C0) : FnOk P w K mg base (L2.CX P w) (k + 1) f fd ["times"] (sp_widest_gap K Ps) := by
  refine F.okX sc_widest_gap (fun vs H Q E h => ?_) (fun cdv A outer s H vs Q E hr h => ?_)
  · obtain ⟨a, L, rfl, _⟩ := h
    rfl
  · obtain ⟨a, L, rfl, ha, ss, l64, tb, hq⟩ := h
    have hu := hr.units
    refine ⟨_, (pss_cons (ps_set (i := 1) sc_widest_gap.nd rfl (.inl rfl) (pe_callB cr_sorted (by rfl) T.z_sorted (by decide +kernel) (pa_cons (pv 0) pa_nil)))
    (pss_one (ps_ret (pe_callBK (RU.cr_maxDf rfl hr.units) (by rfl) T.z_max (by decide +kernel) (pa_cons (pe_lc (own := [("time", 2), ("later", 3)]) rfl sc_widest_gap.nd (RZ.pi_zipA (by rfl) T.z_zip (pa_cons (pv 1) (pa_cons (pe_slice sl_list (pv 1) (po_some pe_int) po_none) pa_nil))) bk_wg (fun _ _ _ _ _ => (pg_tupK (K0 := K) (n := 2) rfl rfl (pgs_cons (pg_name (i := 2) sc_widest_gap.nd rfl (.inl rfl)) (pgs_cons (pg_name (i := 3) sc_widest_gap.nd rfl (.inl rfl)) pgs_nil)))) (fun _ _ _ _ _ => pts_nil) (fun _ _ _ _ _ => (pe_op op_sub (pv 3) (pv 2)))) pa_nil) (pk_cons pe_int pk_nil))))), ?_⟩
    walk_at "ev8"
    refine ⟨a, L.reverse, rfl, ha, by rw [List.length_reverse]; exact l64, fun ns b pm so hb => ?_⟩
    have e : ns = L := ss_of_le ss (pm.trans (List.reverse_perm L)) so
    subst e
    have g1 := (Gw.refl tb).new (o := .lst (ns.map V.int)) hb
    have nbP : b ∉ Ps := tb.none hb
    refine ⟨_, rfl, _, rfl, 1, rfl, b, _, rfl, SqL.of upd_same, fun q hq0 => ?_⟩
    have nbq : b ≠ q := ne_of_none upd_same hq0
    have e1 : cutV (ns.map V.int) (some 1) none = (ns.drop 1).map V.int := by
      rw [show (1 : Int) = ((1 : Nat) : Int) from rfl, cutV_drop, List.map_drop]
    rw [e1]
    have g2 := g1.new (o := .lst ((ns.drop 1).map V.int)) hq0
    have hb2 : upd (upd H b (.lst (ns.map V.int))) q (.lst ((ns.drop 1).map V.int)) b = some (.lst (ns.map V.int)) := by rw [upd_ne nbq]; exact upd_same
    have hq2 : upd (upd H b (.lst (ns.map V.int))) q (.lst ((ns.drop 1).map V.int)) q = some (.lst ((ns.drop 1).map V.int)) := upd_same
    generalize upd (upd H b (.lst (ns.map V.int))) q (.lst ((ns.drop 1).map V.int)) = G at g2 hb2 hq2 ⊢
    refine ⟨b, q, _, _, rfl, .inl ⟨SqL.of hb2, SqL.of hq2, fun D hD => ?_⟩⟩
    have nbD : b ≠ D := ne_of_none hb2 hD
    have nqD : q ≠ D := ne_of_none hq2 hD
    have hDH : H D = none := g2.none tb hD
    have nDP : D ∉ Ps := g2.1.none hD
    have lg : (gapL ns).length = ns.length - 1 := by
      unfold gapL
      rw [List.length_map, List.length_range]
    refine lc_it (walk_zip (xs := ns.map V.int) (ys := (ns.drop 1).map V.int) (n := ns.length - 1) (by rw [List.length_map, List.length_map, List.length_drop]; omega)) (fun i H' => Gw Ps H H' ∧ H' D = some (.lst (((gapL ns).take i).map V.int)) ∧ H' b = some (.lst (ns.map V.int)) ∧ H' q = some (.lst ((ns.drop 1).map V.int))) ⟨g2.new hD, upd_same, by rw [upd_ne nbD]; exact hb2, by rw [upd_ne nqD]; exact hq2⟩ (fun i H' _ z => ⟨SqL.of z.2.2.1, SqL.of z.2.2.2⟩) ?_ ?_
    · rintro i x H' H'' hi ⟨gi, hDi, hbi, hqi⟩ ⟨T', y, z, rfl, hT, rfl, e1, e2⟩
      have nDT : D ≠ T' := ne_of_none hDi hT
      have nbT : b ≠ T' := ne_of_none hbi hT
      have nqT : q ≠ T' := ne_of_none hqi hT
      have i1 : i < ns.length := by omega
      have i2 : i + 1 < ns.length := by omega
      have e1 : (ns.map V.int)[i]? = some y := e1
      have e2 : ((ns.drop 1).map V.int)[i]? = some z := e2
      rw [List.getElem?_map, List.getElem?_eq_getElem i1] at e1
      rw [List.getElem?_map, List.getElem?_drop, show 1 + i = i + 1 by omega, List.getElem?_eq_getElem i2] at e2
      obtain rfl : V.int ns[i] = y := Option.some.inj e1
      obtain rfl : V.int ns[i + 1] = z := Option.some.inj e2
      refine gTup2 (SqT_of upd_same) ?_
      refine ⟨rfl, ?_⟩
      simp only [tYes, wipe, List.set_cons_zero, List.set_cons_succ, ↓reduceIte]
      walk_at "ev8"
      have e3 : (gapL ns)[i]? = some (ns[i + 1] - ns[i]) := by
        unfold gapL
        rw [List.getElem?_map, List.getElem?_range hi]
        simp [List.getD_eq_getElem?_getD, List.getElem?_eq_getElem i1, List.getElem?_eq_getElem i2]
      refine ⟨_, by rw [upd_ne nDT]; exact hDi, ?_, (gi.new hT).set hDH nDP, ?_, ?_, ?_⟩
      · rw [List.length_map, List.length_take, lg]
        have : 100 ≤ sizeLine := by decide
        omega
      · rw [upd_same, List.take_add_one, e3, List.map_append]
        rfl
      · rw [upd_ne nbD, upd_ne nbT]; exact hbi
      · rw [upd_ne nqD, upd_ne nqT]; exact hqi
    · rintro H' ⟨gi, hDi, -, -⟩
      rw [← lg, List.take_length] at hDi
      have pos : ∀ y ∈ gapL ns, 0 < y := fun y hy => by
        unfold gapL at hy
        obtain ⟨i, hi, rfl⟩ := List.mem_map.mp hy
        have hi := List.mem_range.mp hi
        have i1 : i < ns.length := by omega
        have i2 : i + 1 < ns.length := by omega
        have := List.pairwise_iff_getElem.mp ss i (i + 1) i1 i2 (by omega)
        simp [List.getD_eq_getElem?_getD, List.getElem?_eq_getElem i1, List.getElem?_eq_getElem i2]
        omega
      refine ⟨D, gapL ns, 0, rfl, rfl, SqL.of hDi, fun e => hq H' gi 0 (List.mem_cons_self ..) fun y hy => ?_, fun m m1 m2 => hq H' gi m (List.mem_cons_of_mem _ m1) fun y hy => ?_⟩
      · rw [e] at hy
        rw [List.mem_singleton.mp hy]
        exact Int.le_refl _
      · rcases List.mem_cons.mp hy with z | z
        · have := pos m m1
          omega
        · exact m2 y z
end
end K8

set_option maxRecDepth 100000
set_option maxHeartbeats 4000000
namespace K8
open PySem PySem.Spec PyProof.Rows L2
open XT (Sm pe_msg pt_chain3)
open SkE (pmk_own1)
local macro_rules | `(tactic| walk_at "ev8") => `(tactic| simp only [tSeq, tIfS, tNot, XT.tChain3, rI0, tC, tVar, tRet, tTup, tLst, tCons, tNil, tJs, tFmt, tNext, tTest, tOp, tUn, rI, rU, tCall, tCB, tAnd, tOr, tB, tDrop, tAsg, gName, tAug, tPar, ipI, tBM, rAppend, tSl, rSlS, tPart, tNoPart, tIf, tM1, rEq, rNe, tFld, tMeth, tMake, L2.start, List.map_cons, List.map_nil, List.length_cons, List.length_nil, Nat.reduceAdd, Nat.reduceSub, Nat.sub_self, List.replicate_zero, List.append_nil, List.replicate_succ, List.cons_append, List.nil_append,
  List.getElem?_cons_zero, List.getElem?_cons_succ, Option.some.injEq, exists_eq_left', exists_eq_left, V.int.injEq, V.str.injEq, V.bl.injEq, V.ref.injEq, List.set_cons_zero, List.set_cons_succ, List.cons.injEq, and_true, true_and, reduceCtorEq, false_and, exists_false, false_or, or_false, exists_and_left, and_assoc, decide_eq_true_eq, Bool.not_eq_true', decide_eq_false_iff_not, Bool.not_false, Bool.not_true, if_true, if_false, Bool.false_eq_true, ↓reduceIte])
section
variable {P : Program} {w : World} {K : PySem.W.Frag} {mg : Str → Option Value} {base : Heap} {R Pp C0 : Addr} {Ps : List Addr}
abbrev s__law_dice : Stmt := topS 27
theorem sc__law_dice : FnScope ["cell"] ["cell"] (defScope s__law_dice) := ⟨rfl, rfl, rfl, by decide +kernel, rfl, by decide +kernel, by decide +kernel⟩
def sp__law_dice : Sp := fun vs H Q E => ∃ cell : Int, vs = [.int cell] ∧ ∀ p a b c, H p = none → Q (.ref p) (upd H p (.lst [.int a, .int b, .int c]))
theorem ok__law_dice {f : Addr} {fd : FuncData} {k : Nat} (F : Fun K "_law_dice" "_law_dice" s__law_dice f fd) (T : Txt K mg R Pp C0) : FnOk P w K mg base (L2.CX P w) (k + 1) f fd ["cell"] sp__law_dice := by
  refine F.okX sc__law_dice (fun vs H Q E h => ?_) (fun cdv A outer s H vs Q E hr h => ?_)
  · obtain ⟨c, rfl, _⟩ := h
    rfl
  · obtain ⟨c, rfl, hq⟩ := h
    refine ⟨_, (pss_cons (ps_if (pt_chain op_lt op_lt (pe_op op_sub pe_int pe_int) (pv 0) pe_int)
      (pss_one (ps_ret (pe_lst (pa_cons (pe_callB call_abs (by rfl) T.z_abs (by decide +kernel) (pa_cons (pv 0) pa_nil)) (pa_cons pe_int (pa_cons pe_int pa_nil)))))) pss_nil)
    (pss_one (ps_ret (pe_lst (pa_cons (pv 0) (pa_cons (pe_op op_add pe_int (pe_op op_modN (pe_callTy call_int1 (by rfl) T.z_int (by decide +kernel) (pa_cons (pv 0) pa_nil)) pe_int)) (pa_cons (pe_callTy call_int1 (by rfl) T.z_int (by decide +kernel) (pa_cons (pe_cmpR op_ge (pv 0) (pe_op op_pow pe_int pe_int) (nomark _)) pa_nil)) pa_nil))))))), ?_⟩
    walk_at "ev8"
    simp only [tChain]
    walk_at "ev8"
    have e18 : CPow 10 18 := ⟨by decide, by decide, by decide⟩
    by_cases c1 : 0 - 10 < c
    · rw [if_pos c1]
      by_cases c2 : c < 10
      · rw [if_pos c2]
        exact ⟨by decide, fun p hp => hq p _ _ _ hp⟩
      · rw [if_neg c2]
        exact ⟨by decide, e18, by decide, fun p hp => hq p _ _ _ hp⟩
    · rw [if_neg c1]
      exact ⟨by decide, e18, by decide, fun p hp => hq p _ _ _ hp⟩
abbrev s__law_roll : Stmt := topS 28
theorem sc__law_roll : FnScope ["dice", "many", "found"] ["dice", "many"] (defScope s__law_roll) := ⟨rfl, rfl, rfl, by decide +kernel, rfl, by decide +kernel, by decide +kernel⟩
def sp__law_roll : Sp := fun vs H Q E => ∃ (d : Addr) (many : Int), vs = [.ref d, .int many] ∧ Dice H d ∧ 1 ≤ many ∧ many ≤ 1000 ∧ ∀ (r : Nat) a b c, (r : Int) < many → Q (.int (r : Nat)) (upd H d (.lst [.int a, .int b, .int c]))
theorem ok__law_roll {f : Addr} {fd : FuncData} {k : Nat} (F : Fun K "_law_roll" "_law_roll" s__law_roll f fd) (T : Txt K mg R Pp C0) : FnOk P w K mg base (L2.CX P w) (k + 1) f fd ["dice", "many"] sp__law_roll := by
  refine F.okX sc__law_roll (fun vs H Q E h => ?_) (fun cdv A outer s H vs Q E hr h => ?_)
  · obtain ⟨d, m, rfl, _⟩ := h
    rfl
  · obtain ⟨d, m, rfl, ⟨a, b, c, hd⟩, m1, m2, hq⟩ := h
    refine ⟨_, (pss_cons (ps_if (PW.pt (pw_or (pt_cmpR op_eq (pe_ix ix_list (pv 0) pe_int (fun _ _ => rfl)) pe_int (nomark _)) (pw_or1 (PW.pt (pw_and (pt_cmpR op_eq (pe_ix ix_list (pv 0) pe_int (fun _ _ => rfl)) pe_int (nomark _)) (pw_and1 (pt_cmpR op_gt (pe_ix ix_list (pv 0) pe_int (fun _ _ => rfl)) pe_int (nomark _))))))))
      (pss_cons (ps_set (i := 2) sc__law_roll.nd rfl (.inl rfl) (pe_op op_modN (pe_callTy call_int1 (by rfl) T.z_int (by decide +kernel) (pa_cons (pe_ix ix_list (pv 0) pe_int (fun _ _ => rfl)) pa_nil)) (pv 1)))
    (pss_cons (ps_asg (pe_op op_fdivN (pe_ix ix_list (pv 0) pe_int (fun _ _ => rfl)) (pv 1)) (pg_sub (pv 0) pe_int set_list))
    (pss_one (ps_ret (pv 2))))) pss_nil)
    (pss_cons (ps_asg pe_int (pg_sub (pv 0) pe_int set_list))
    (pss_cons (ps_asg (pe_op op_modN (pe_callTy call_int1 (by rfl) T.z_int (by decide +kernel) (pa_cons (pe_op op_add (pe_op op_add (pe_op op_mul (pe_ix ix_list (pv 0) pe_int (fun _ _ => rfl)) pe_int) (pe_op op_mul (pe_ix ix_list (pv 0) pe_int (fun _ _ => rfl)) pe_int)) pe_int) pa_nil)) pe_int) (pg_sub (pv 0) pe_int set_list))
    (pss_cons (ps_asg (pe_op op_add (pe_ix ix_list (pv 0) pe_int (fun _ _ => rfl)) pe_int) (pg_sub (pv 0) pe_int set_list))
    (pss_one (ps_ret (pe_op op_modN (pe_callTy call_int1 (by rfl) T.z_int (by decide +kernel) (pa_cons (pe_op op_add (pe_op op_fdivN (pe_ix ix_list (pv 0) pe_int (fun _ _ => rfl)) pe_int) (pe_ix ix_list (pv 0) pe_int (fun _ _ => rfl))) pa_nil)) (pv 1)))))))), ?_⟩
    walk_at "ev8"
    have hdS : ∀ (x y z : Int) (G : Hp), upd G d (.lst [.int x, .int y, .int z]) d = some (.lst [.int x, .int y, .int z]) := fun x y z G => upd_same
    have fm : ∀ x : Int, x.fmod m = ((x.fmod m).toNat : Int) ∧ x.fmod m < m := fun x => by
      have h1 := Int.fmod_nonneg_of_pos x (show 0 < m by omega)
      have h2 := Int.fmod_lt_of_pos x (show 0 < m by omega)
      exact ⟨by omega, h2⟩
    refine ⟨d, _, 2, _, rfl, rfl, SqL.of hd, rfl, rfl, ?_⟩
    by_cases c1 : c = 2
    · rw [if_pos (by rw [c1])]
      refine ⟨d, _, 0, _, rfl, rfl, SqL.of hd, rfl, .inl ⟨_, rfl, by omega, d, _, 0, _, rfl, rfl, SqL.of hd, rfl, _, rfl, ⟨by omega, by omega⟩, ?_⟩⟩
      refine ⟨_, rfl, d, _, 0, 0, rfl, rfl, hd, rfl, _, rfl, ?_⟩
      rw [(fm a).1]
      exact hq _ _ _ _ (by rw [← (fm a).1]; exact (fm a).2)
    rw [if_neg (fun z => c1 (V.int.inj z))]
    refine ⟨d, _, 2, _, rfl, rfl, SqL.of hd, rfl, rfl, ?_⟩
    by_cases c2 : c = 1
    · rw [if_pos (by rw [c2])]
      refine ⟨d, _, 0, _, rfl, rfl, SqL.of hd, rfl, _, rfl, ?_⟩
      by_cases c3 : 0 < a
      · rw [if_pos c3]
        refine ⟨d, _, 0, _, rfl, rfl, SqL.of hd, rfl, .inl ⟨_, rfl, by omega, d, _, 0, _, rfl, rfl, SqL.of hd, rfl, _, rfl, ⟨by omega, by omega⟩, ?_⟩⟩
        refine ⟨_, rfl, d, _, 0, 0, rfl, rfl, hd, rfl, _, rfl, ?_⟩
        rw [(fm a).1]
        exact hq _ _ _ _ (by rw [← (fm a).1]; exact (fm a).2)
      rw [if_neg c3]
      refine ⟨_, rfl, d, _, 2, 2, rfl, rfl, hd, rfl, ?_⟩
      walk_at "ev8"
      refine ⟨d, _, 0, _, rfl, rfl, SqL.of upd_same, rfl, _, rfl, .inr ⟨by decide, by decide⟩, ?_⟩
      refine ⟨d, _, 1, _, rfl, rfl, SqL.of upd_same, rfl, _, rfl, .inr ⟨by decide, by decide⟩, ?_⟩
      refine ⟨by decide, _, rfl, d, _, 0, 0, rfl, rfl, upd_same, rfl, ?_⟩
      rw [upd_upd]
      walk_at "ev8"
      refine ⟨d, _, 1, _, rfl, rfl, SqL.of upd_same, rfl, _, rfl, ?_⟩
      refine ⟨_, rfl, d, _, 1, 1, rfl, rfl, upd_same, rfl, ?_⟩
      rw [upd_upd]
      walk_at "ev8"
      refine ⟨d, _, 0, _, rfl, rfl, SqL.of upd_same, rfl, _, rfl, ⟨by decide, by decide⟩, ?_⟩
      refine ⟨d, _, 0, _, rfl, rfl, SqL.of upd_same, rfl, _, rfl, by omega, ?_⟩
      rw [(fm _).1]
      exact hq _ _ _ _ (by rw [← (fm _).1]; exact (fm _).2)
    rw [if_neg (fun z => c2 (V.int.inj z))]
    refine ⟨_, rfl, d, _, 2, 2, rfl, rfl, hd, rfl, ?_⟩
    walk_at "ev8"
    refine ⟨d, _, 0, _, rfl, rfl, SqL.of upd_same, rfl, _, rfl, .inr ⟨by decide, by decide⟩, ?_⟩
    refine ⟨d, _, 1, _, rfl, rfl, SqL.of upd_same, rfl, _, rfl, .inr ⟨by decide, by decide⟩, ?_⟩
    refine ⟨by decide, _, rfl, d, _, 0, 0, rfl, rfl, upd_same, rfl, ?_⟩
    rw [upd_upd]
    walk_at "ev8"
    refine ⟨d, _, 1, _, rfl, rfl, SqL.of upd_same, rfl, _, rfl, ?_⟩
    refine ⟨_, rfl, d, _, 1, 1, rfl, rfl, upd_same, rfl, ?_⟩
    rw [upd_upd]
    walk_at "ev8"
    refine ⟨d, _, 0, _, rfl, rfl, SqL.of upd_same, rfl, _, rfl, ⟨by decide, by decide⟩, ?_⟩
    refine ⟨d, _, 0, _, rfl, rfl, SqL.of upd_same, rfl, _, rfl, by omega, ?_⟩
    rw [(fm _).1]
    exact hq _ _ _ _ (by rw [← (fm _).1]; exact (fm _).2)
abbrev s__law_rounds : Stmt := topS 29
theorem sc__law_rounds : FnScope ["script", "most", "cells", "cell"] ["script", "most"] (defScope s__law_rounds) := ⟨rfl, rfl, rfl, by decide +kernel, rfl, by decide +kernel, by decide +kernel⟩
theorem bk_lr : BlkOk ["script", "most", "cells", "cell"] (defScope s__law_rounds) { kind := ScopeKind.function, names := [(".0", NameKind.local), ("cell", NameKind.local), ("_law_dice", NameKind.globalImplicit)], isGenerator := false, isCoroutine := false } [("cell", 3)] := blkOk_by (by decide +kernel)
def sp__law_rounds (K : PySem.W.Frag) (Ps : List Addr) : Sp := fun vs H Q E => ∃ (a : Addr) (ns : List Int), vs = [.ref a, .int 1] ∧ SqL K H a (ns.map V.int) ∧ Tb Ps H ∧ ∀ H' p d, Gw Ps H H' → H p = none → H d = none → d ≠ p → H' p = some (.lst [.ref d]) → Dice H' d → Q (.ref p) H'
theorem ok__law_rounds {f fe : Addr} {fd fde : FuncData} {k ke : Nat} (F : Fun K "_law_rounds" "_law_rounds" s__law_rounds f fd) (T : Txt K mg R Pp C0) (Ge : Cal P w K mg base (L2.CX P w) ke "_law_dice" ["cell"] sp__law_dice fe fde) (hk : ke ≤ k) : FnOk P w K mg base (L2.CX P w) (k + 1) f fd ["script", "most"] (sp__law_rounds K Ps) := by
  refine F.okX sc__law_rounds (fun vs H Q E h => ?_) (fun cdv A outer s H vs Q E hr h => ?_)
  · obtain ⟨a, ns, rfl, _⟩ := h
    rfl
  · obtain ⟨a, ns, rfl, hx, tb, hq⟩ := h
    refine ⟨_, (pss_cons (ps_set (i := 2) sc__law_rounds.nd rfl (.inl rfl) (pe_slice sl_list (pv 0) po_none (po_some (pv 1))))
    (pss_cons (ps_if (pt_cmpR (op_eqK rfl hr.units) (pv 2) (pe_lst pa_nil) (nomark _))
      (pss_one (ps_set (i := 2) sc__law_rounds.nd rfl (.inl rfl) (pe_lst (pa_cons pe_int pa_nil)))) pss_nil)
    (pss_one (ps_ret (pe_lc (own := [("cell", 3)]) rfl sc__law_rounds.nd (pi_list (pv 2)) bk_lr (fun _ _ _ _ _ => (pg_name (i := 3) sc__law_rounds.nd rfl (.inl rfl))) (fun _ _ _ _ _ => pts_nil) (fun _ _ _ _ _ => (pe_call Ge.ok (hr.mono hk) (by rfl) Ge.g Ge.kp Ge.b .nil passF (pa_cons (pv 3) pa_nil)))))))), ?_⟩
    walk_at "ev8"
    have fin : ∀ (q : Addr) (c : Int) (G : Hp) (σ : L2.St), σ[2]? = some (some (.ref q)) → Gw Ps H G → G q = some (.lst [V.int c]) → tLc (iList K (tVar 2)) (gName 3) tYes (tCall sp__law_dice [] (fun x x_2 x_3 => False) (tCons (tVar 3) tNil)) [3] [some (.ref a), some (.int 1), some (.ref q), none] G Q := by
      intro q c G σ _ g hl
      refine ⟨_, rfl, q, rfl, ⟨_, SqL.of hl⟩, fun D hD => ?_⟩
      have nqD : q ≠ D := fun z => by
        rw [z, hD] at hl
        cases hl
      have hDH : H D = none := g.none tb hD
      refine lc_list (xs := [V.int c]) (fun i H' => H' q = some (.lst [V.int c]) ∧ Gw Ps H H' ∧ (i = 0 → H' D = some (.lst [])) ∧ (i = 1 → ∃ d, H d = none ∧ d ≠ D ∧ H' D = some (.lst [.ref d]) ∧ Dice H' d)) ⟨by rw [upd_ne nqD]; exact hl, g.new hD, fun _ => upd_same, fun z => by cases z⟩ (fun i H' _ z => SqL.of z.1) ?_ ?_
      · intro i x H' hx hP
        obtain ⟨p1, p2, p3, p4⟩ := hP
        cases i with
        | succ i => simp at hx
        | zero =>
          obtain rfl : V.int c = x := Option.some.inj hx
          refine ⟨rfl, ?_⟩
          simp only [tYes, wipe, List.set_cons_zero, List.set_cons_succ, ↓reduceIte]
          walk_at "ev8"
          refine ⟨c, rfl, fun p a1 b1 c1 hp => ?_⟩
          have hD0 := p3 rfl
          have np : D ≠ p := fun z => by
            rw [z, hp] at hD0
            cases hD0
          refine ⟨[], by rw [upd_ne np]; exact hD0, by decide, ?_, ?_, (fun z => z.elim), fun _ => ⟨p, p2.none tb hp, np.symm, upd_same, a1, b1, c1, by rw [upd_ne np.symm]; exact upd_same⟩⟩
          · rw [upd_ne nqD, upd_ne (fun z => by rw [z, hp] at p1; cases p1)]
            exact p1
          · exact (p2.new hp).set hDH (g.1.none hD)
      · intro H' hP
        obtain ⟨p1, p2, p3, p4⟩ := hP
        obtain ⟨d, h1, h2, h3, h4⟩ := p4 rfl
        exact hq H' D d p2 hDH h1 h2 h3 h4
    refine ⟨a, _, rfl, hx, fun q hq1 => ⟨by decide, fun e he => ?_⟩⟩
    have g1 : Gw Ps H (upd H q (.lst (cutV (ns.map V.int) none (some 1)))) := (Gw.refl tb).new hq1
    have nqe : q ≠ e := (upd_none he).2.symm
    cases ns with
    | nil =>
      refine rEq_lI (ns := []) (ms := []) (SqL.of (by rw [upd_ne nqe]; exact upd_same)) (SqL.of upd_same) ⟨_, rfl, ?_⟩
      rw [if_pos (by decide)]
      exact ⟨by decide, fun p2 hp2 => fin p2 0 _ [none, none, some (.ref p2)] rfl ((g1.new he).new hp2) upd_same⟩
    | cons n r =>
      have ec : cutV ((n :: r).map V.int) none (some 1) = [n].map V.int := by
        unfold cutV
        have e1 : HT.sIx ((n :: r).map V.int).length 0 none = 0 := rfl
        have e2 : HT.sIx ((n :: r).map V.int).length ((n :: r).map V.int).length (some 1) = 1 := by
          rw [show ((1 : Int)) = ((1 : Nat) : Int) from rfl, HT.sIx_nat]
          simp
        rw [e1, e2]
        rfl
      rw [ec] at g1 he ⊢
      refine rEq_lI (ns := [n]) (ms := []) (SqL.of (by rw [upd_ne nqe]; exact upd_same)) (SqL.of upd_same) ⟨_, rfl, ?_⟩
      rw [if_neg (by simp)]
      exact fin q n _ [none, none, some (.ref q)] rfl (g1.new he) (by rw [upd_ne nqe]; exact upd_same)
end
end K8

set_option maxRecDepth 100000
set_option maxHeartbeats 4000000
namespace K8
open PySem PySem.Spec PyProof.Rows L2
open XT (Sm pe_msg pt_chain3)
open SkE (pmk_own1)
section
variable {P : Program} {w : World} {K : PySem.W.Frag} {mg : Str → Option Value} {base : Heap} {R Pp C0 : Addr} {Ps : List Addr}
/-- the nine kinds, by a refusal of the kind R (the third) or Pp (the fourth) -/
structure Nine (K : PySem.W.Frag) (mg : Str → Option Value) (R Pp : Addr) : Prop where
  path : ∃ c, mg "BadPath" = some (.ref c) ∧ PySem.W.exmOne K (.ref R) (.ref c) = some false ∧ PySem.W.exmOne K (.ref Pp) (.ref c) = some false
  piece : ∃ c, mg "BadPiece" = some (.ref c) ∧ PySem.W.exmOne K (.ref R) (.ref c) = some false ∧ PySem.W.exmOne K (.ref Pp) (.ref c) = some false
  rule : mg "BadRule" = some (.ref R) ∧ PySem.W.exmOne K (.ref R) (.ref R) = some true ∧ PySem.W.exmOne K (.ref Pp) (.ref R) = some false
  paper : mg "BadPaper" = some (.ref Pp) ∧ PySem.W.exmOne K (.ref Pp) (.ref Pp) = some true
  size : ∃ c, mg "BadSize" = some (.ref c)
  store : ∃ c, mg "BadStore" = some (.ref c)
  text : ∃ c, mg "BadText" = some (.ref c)
  lost : ∃ c, mg "Lost" = some (.ref c)
  such : ∃ c, mg "NoSuch" = some (.ref c)
abbrev s__law_told : Stmt := topS 30
theorem sc__law_told : FnScope ["what"] ["what"] (defScope s__law_told) := ⟨rfl, rfl, rfl, by decide +kernel, rfl, by decide +kernel, by decide +kernel⟩
abbrev rw9 (x : Str) : Addr → Value → Option Addr → TS := fun _ _ _ => tRet (tC (.str x))
/-- what() refused with the kind R or Pp is told so -/
def E9 (R Pp : Addr) (Q : VK) : XK := fun cls _ H' => (cls = .ref R ∧ Q (.str "rule") H') ∨ (cls = .ref Pp ∧ Q (.str "paper") H')
theorem many9 {D : L2.Ends} {Wout : WX} {c1 c2 c5 c6 c7 c8 c9 : Addr} {Q : VK} {cls : Value} {d : Option Addr} {σ : L2.St} {H : Hp} (e1 : PySem.W.exmOne K (.ref R) (.ref c1) = some false) (e2 : PySem.W.exmOne K (.ref R) (.ref c2) = some false) (e3 : PySem.W.exmOne K (.ref R) (.ref R) = some true)
    (f1 : PySem.W.exmOne K (.ref Pp) (.ref c1) = some false) (f2 : PySem.W.exmOne K (.ref Pp) (.ref c2) = some false) (f3 : PySem.W.exmOne K (.ref Pp) (.ref R) = some false) (f4 : PySem.W.exmOne K (.ref Pp) (.ref Pp) = some true)
    (hD : D.rt = Q) (h : E9 R Pp Q cls d H) : wMany K Wout D [(.ref c1, rw9 "path"), (.ref c2, rw9 "piece"), (.ref R, rw9 "rule"), (.ref Pp, rw9 "paper"), (.ref c5, rw9 "size"), (.ref c6, rw9 "store"), (.ref c7, rw9 "text"), (.ref c8, rw9 "lost"), (.ref c9, rw9 "no such")] cls d σ H := by
  rcases h with ⟨rfl, h⟩ | ⟨rfl, h⟩
  · refine ⟨false, e1, fun z => (by cases z), fun _ => ⟨false, e2, fun z => (by cases z), fun _ => ⟨true, e3, fun _ a _ => ?_, fun z => (by cases z)⟩⟩⟩
    show D.rt (.str "rule") H
    rw [hD]
    exact h
  · refine ⟨false, f1, fun z => (by cases z), fun _ => ⟨false, f2, fun z => (by cases z), fun _ => ⟨false, f3, fun z => (by cases z), fun _ => ⟨true, f4, fun _ a _ => ?_, fun z => (by cases z)⟩⟩⟩⟩
    show D.rt (.str "paper") H
    rw [hD]
    exact h
def sp__law_told (P : Program) (w : World) (K : PySem.W.Frag) (mg : Str → Option Value) (base : Heap) (k : Nat) (R Pp : Addr) : Sp := fun vs H Q E => ∃ (f : Addr) (L : LX.LF) (tl : XK → Hp → VK → Prop), vs = [.ref f] ∧ H f = some (LX.LamO f L) ∧ H L.c = some (LamX.CodeO L.c L.qual) ∧ LX.LamOk P w K mg base k L tl ∧ tl (E9 R Pp Q) H Q
theorem ok__law_told {f : Addr} {fd : FuncData} {k : Nat} (F : Fun K "_law_told" "_law_told" s__law_told f fd) (N : Nine K mg R Pp) : FnOk P w K mg base (L2.CX P w) (k + 2) f fd ["what"] (sp__law_told P w K mg base k R Pp) := by
  refine F.okX sc__law_told (fun vs H Q E h => ?_) (fun cdv A outer s H vs Q E hr h => ?_)
  · obtain ⟨f, L, tl, rfl, _⟩ := h
    rfl
  · obtain ⟨g, L, tl, rfl, hg, hc, lok, ht⟩ := h
    obtain ⟨c1, m1, e1, f1⟩ := N.path
    obtain ⟨c2, m2, e2, f2⟩ := N.piece
    obtain ⟨m3, e3, f3⟩ := N.rule
    obtain ⟨m4, f4⟩ := N.paper
    obtain ⟨c5, m5⟩ := N.size
    obtain ⟨c6, m6⟩ := N.store
    obtain ⟨c7, m7⟩ := N.text
    obtain ⟨c8, m8⟩ := N.lost
    obtain ⟨c9, m9⟩ := N.such
    refine ⟨_, pss_one (ps_try_many (Wout := fun _ _ _ _ => False) (tb := fun W D σ H => ∃ Ech : XK, (∀ cls d σ' H', Ech cls d H' → W cls d σ' H') ∧ LX.tAct P w K mg base k 0 Ech σ H D.rt) rfl rfl LamX.takes0 (fun W pn xe tk _ => ?_)
      (.cons (c := .ref c1) (ts := rw9 "path") ⟨by rfl, by decide, .inl m1⟩ (fun a oe cls d pn _ _ => pss_one (ps_ret pe_str))
      (.cons (c := .ref c2) (ts := rw9 "piece") ⟨by rfl, by decide, .inl m2⟩ (fun a oe cls d pn _ _ => pss_one (ps_ret pe_str))
      (.cons (c := .ref R) (ts := rw9 "rule") ⟨by rfl, by decide, .inl m3⟩ (fun a oe cls d pn _ _ => pss_one (ps_ret pe_str))
      (.cons (c := .ref Pp) (ts := rw9 "paper") ⟨by rfl, by decide, .inl m4⟩ (fun a oe cls d pn _ _ => pss_one (ps_ret pe_str))
      (.cons (c := .ref c5) (ts := rw9 "size") ⟨by rfl, by decide, .inl m5⟩ (fun a oe cls d pn _ _ => pss_one (ps_ret pe_str))
      (.cons (c := .ref c6) (ts := rw9 "store") ⟨by rfl, by decide, .inl m6⟩ (fun a oe cls d pn _ _ => pss_one (ps_ret pe_str))
      (.cons (c := .ref c7) (ts := rw9 "text") ⟨by rfl, by decide, .inl m7⟩ (fun a oe cls d pn _ _ => pss_one (ps_ret pe_str))
      (.cons (c := .ref c8) (ts := rw9 "lost") ⟨by rfl, by decide, .inl m8⟩ (fun a oe cls d pn _ _ => pss_one (ps_ret pe_str))
      (.cons (c := .ref c9) (ts := rw9 "no such") ⟨by rfl, by decide, .inl m9⟩ (fun a oe cls d pn _ _ => pss_one (ps_ret pe_str)) .nil)))))))))), ?_⟩
    · refine ⟨fun pins s' σ H' D I h' => ?_⟩
      obtain ⟨Ech, hW, h1⟩ := h'
      exact (pss_one (ps_ret (LX.pe_act (Z := (cxOf (L2.CX P w) P w K mg base ["what"] "_law_told" (defScope s__law_told) f cdv A outer s H E).tr pn xe) (k := k) (i := 0) (a := "what") (E := Ech) (passes_call tk hW) hr rfl (.inl rfl)))).run pins s' σ H' D I h1
    · refine ⟨E9 R Pp Q, fun cls d σ' H' h => many9 e1 e2 e3 f1 f2 f3 f4 rfl h, g, L, tl, rfl, hg, hc, lok, ht⟩
/-- the lambda that captures, given to it -/
def TT9 (R Pp : Addr) : (XK → Hp → VK → Prop) → Hp → VK → Prop := fun tl H Q => tl (E9 R Pp Q) H Q
theorem told9_gives {X : Cx} {g : Addr} {cdg : Value} {q : Str} (N : Nine X.K X.mg R Pp) : LamX.GivesTo X ["what"] "_law_told" (defScope s__law_told) g cdg (defBody s__law_told) "what" q (TT9 R Pp) := by
  intro f c' s H Q tl act hc h
  obtain ⟨c1, m1, e1, f1⟩ := N.path
  obtain ⟨c2, m2, e2, f2⟩ := N.piece
  obtain ⟨m3, e3, f3⟩ := N.rule
  obtain ⟨m4, f4⟩ := N.paper
  obtain ⟨c5, m5⟩ := N.size
  obtain ⟨c6, m6⟩ := N.store
  obtain ⟨c7, m7⟩ := N.text
  obtain ⟨c8, m8⟩ := N.lost
  obtain ⟨c9, m9⟩ := N.such
  refine ⟨_, pss_one (ps_try_many (X := (cxOf C8.CX0 X.prog X.w X.K X.mg X.base ["what"] "_law_told" (defScope s__law_told) g cdg X.A X.stack s H C8.E0).nox) (Wout := fun _ _ _ _ => False) (tb := fun W D σ H => ∃ Ech : XK, (∀ cls d σ' H', Ech cls d H' → W cls d σ' H') ∧ σ[0]? = some (some (.ref f)) ∧ H c' = some (LamX.CodeO c' q) ∧ tl Ech H D.rt) rfl rfl LamX.takes0 (fun W pn xe tk _ => ?_)
      (.cons (c := .ref c1) (ts := rw9 "path") ⟨by rfl, by decide, .inl m1⟩ (fun a oe cls d pn _ _ => pss_one (ps_ret pe_str))
      (.cons (c := .ref c2) (ts := rw9 "piece") ⟨by rfl, by decide, .inl m2⟩ (fun a oe cls d pn _ _ => pss_one (ps_ret pe_str))
      (.cons (c := .ref R) (ts := rw9 "rule") ⟨by rfl, by decide, .inl m3⟩ (fun a oe cls d pn _ _ => pss_one (ps_ret pe_str))
      (.cons (c := .ref Pp) (ts := rw9 "paper") ⟨by rfl, by decide, .inl m4⟩ (fun a oe cls d pn _ _ => pss_one (ps_ret pe_str))
      (.cons (c := .ref c5) (ts := rw9 "size") ⟨by rfl, by decide, .inl m5⟩ (fun a oe cls d pn _ _ => pss_one (ps_ret pe_str))
      (.cons (c := .ref c6) (ts := rw9 "store") ⟨by rfl, by decide, .inl m6⟩ (fun a oe cls d pn _ _ => pss_one (ps_ret pe_str))
      (.cons (c := .ref c7) (ts := rw9 "text") ⟨by rfl, by decide, .inl m7⟩ (fun a oe cls d pn _ _ => pss_one (ps_ret pe_str))
      (.cons (c := .ref c8) (ts := rw9 "lost") ⟨by rfl, by decide, .inl m8⟩ (fun a oe cls d pn _ _ => pss_one (ps_ret pe_str))
      (.cons (c := .ref c9) (ts := rw9 "no such") ⟨by rfl, by decide, .inl m9⟩ (fun a oe cls d pn _ _ => pss_one (ps_ret pe_str)) .nil)))))))))), ?_⟩
  · refine ⟨fun pins s' σ H' D I h' => ?_⟩
    obtain ⟨Ech, hW, h1, h2, h3⟩ := h'
    exact (pss_one (ps_ret (act W pn xe Ech _ _ tk hW))).run pins s' σ H' D I ⟨h1, h2, h3⟩
  · exact ⟨E9 R Pp Q, fun cls d σ' H' h => many9 e1 e2 e3 f1 f2 f3 f4 rfl h, rfl, hc, h⟩
end
end K8

set_option maxHeartbeats 4000000
namespace K8
open PySem PySem.Spec PyProof.Rows L2
def ddK (l : List Int) : List Int := l.foldl (fun acc y => if y ∈ acc then acc else acc ++ [y]) []
theorem keys_put1 {kvs : List (Key × V)} {k : Key} (v : V) (h : k ∈ kvs.map (·.1)) : (putK kvs k v).map (·.1) = kvs.map (·.1) := by
  unfold putK
  have h2 : (kvs.any fun kv => decide (kv.1 = k)) = true := by
    obtain ⟨p, hp, e⟩ := List.mem_map.mp h
    rw [List.any_eq_true]
    exact ⟨p, hp, by simp [e]⟩
  rw [if_pos h2, List.map_map]
  refine List.map_congr_left fun p hp => ?_
  show (if p.1 = k then (p.1, v) else p).1 = p.1
  split <;> rfl
theorem keys_put2 {kvs : List (Key × V)} {k : Key} (v : V) (h : k ∉ kvs.map (·.1)) : (putK kvs k v).map (·.1) = kvs.map (·.1) ++ [k] := by
  unfold putK
  have h2 : ¬ (kvs.any fun kv => decide (kv.1 = k)) = true := fun z => h (by
    obtain ⟨p, hp, e⟩ := List.any_eq_true.mp z
    exact List.mem_map.mpr ⟨p, hp, by simpa using e⟩)
  rw [if_neg h2, List.map_append]
  rfl
theorem keys_merge_go (v : Int → V) : ∀ (l acc : List Int) (kvs : List (Key × V)), kvs.map (·.1) = acc.map Sum.inl → (mergeK kvs (l.map fun y => ((.inl y : Key), v y))).map (·.1) = (l.foldl (fun acc y => if y ∈ acc then acc else acc ++ [y]) acc).map Sum.inl
  | [], acc, kvs, h => h
  | y :: r, acc, kvs, h => by
    show (mergeK (putK kvs (.inl y) (v y)) (r.map fun y => ((.inl y : Key), v y))).map (·.1) = _
    rw [List.foldl_cons]
    refine keys_merge_go v r _ _ ?_
    have e : ((Sum.inl y : Key) ∈ acc.map Sum.inl) ↔ y ∈ acc := by simp
    by_cases m : y ∈ acc
    · rw [keys_put1 _ (by rw [h]; exact e.mpr m), if_pos m, h]
    · rw [keys_put2 _ (by rw [h]; exact fun z => m (e.mp z)), if_neg m, List.map_append, h]
      rfl
theorem keys_merge (v : Int → V) (l : List Int) : (mergeK [] (l.map fun y => ((.inl y : Key), v y))).map (·.1) = (ddK l).map Sum.inl := keys_merge_go v l [] [] rfl
theorem ddK_go : ∀ (l acc : List Int), acc.Nodup → (l.foldl (fun acc y => if y ∈ acc then acc else acc ++ [y]) acc).Nodup ∧ (∀ x, x ∈ l.foldl (fun acc y => if y ∈ acc then acc else acc ++ [y]) acc ↔ x ∈ acc ∨ x ∈ l) ∧ (l.foldl (fun acc y => if y ∈ acc then acc else acc ++ [y]) acc).length ≤ acc.length + l.length
  | [], acc, h => ⟨h, fun x => by simp, by simp⟩
  | y :: r, acc, h => by
    rw [List.foldl_cons]
    by_cases m : y ∈ acc
    · rw [if_pos m]
      obtain ⟨a, b, c⟩ := ddK_go r acc h
      refine ⟨a, fun x => ?_, by rw [List.length_cons]; omega⟩
      rw [b x, List.mem_cons]
      constructor
      · rintro (z | z)
        · exact .inl z
        · exact .inr (.inr z)
      · rintro (z | rfl | z)
        · exact .inl z
        · exact .inl m
        · exact .inr z
    · rw [if_neg m]
      obtain ⟨a, b, c⟩ := ddK_go r (acc ++ [y]) (by
        rw [List.nodup_append]
        exact ⟨h, by simp, fun x hx z hz => by rw [List.mem_singleton.mp hz]; exact fun e => m (by rw [← e]; exact hx)⟩)
      refine ⟨a, fun x => ?_, by rw [List.length_append] at c; rw [List.length_cons]; simp at c; omega⟩
      rw [b x, List.mem_cons, List.mem_append, List.mem_singleton, or_assoc]
theorem ddK_nodup (l : List Int) : (ddK l).Nodup := (ddK_go l [] List.nodup_nil).1
theorem mem_ddK {l : List Int} {x : Int} : x ∈ ddK l ↔ x ∈ l := by
  have := (ddK_go l [] List.nodup_nil).2.1 x
  simpa [ddK] using this
theorem ddK_len (l : List Int) : (ddK l).length ≤ l.length := by
  have := (ddK_go l [] List.nodup_nil).2.2
  simpa [ddK] using this
theorem merge_new : ∀ (l kvs : List (Key × V)), ((kvs ++ l).map (·.1)).Nodup → mergeK kvs l = kvs ++ l
  | [], kvs, _ => by simp [mergeK]
  | p :: r, kvs, h => by
    show mergeK (putK kvs p.1 p.2) r = _
    have e : putK kvs p.1 p.2 = kvs ++ [p] := by
      unfold putK
      rw [if_neg]
      intro z
      obtain ⟨q, hq, e⟩ := List.any_eq_true.mp z
      have e : q.1 = p.1 := by simpa using e
      rw [List.map_append, List.nodup_append] at h
      exact h.2.2 q.1 (List.mem_map.mpr ⟨q, hq, rfl⟩) p.1 (by simp) e
    rw [e, merge_new r (kvs ++ [p]) (by rw [List.append_assoc]; exact h), List.append_assoc]
    rfl
theorem ss_sorted {ys ks : List Int} (p : ys.Perm ks) (nd : ks.Nodup) (s : ys.Pairwise (· ≤ ·)) : SS ys := by
  have nd2 : ys.Nodup := p.nodup_iff.mpr nd
  unfold SS
  refine List.Pairwise.imp₂ (R := fun a b : Int => a ≤ b) (S := fun a b => a ≠ b) (fun a b h1 h2 => ?_) s nd2
  omega
/-- the spans are those of the ends -/
theorem spans_ends {q : Int → Int} (hq : Mono q) {L sp : List Int} (h : SS L) (hs : SS sp) (m : ∀ x, x ∈ sp ↔ ∃ t ∈ L, q t = x) : sp = (ends q L).map q := by
  refine ss_ext hs (ends_key hq h) fun x => ?_
  rw [m x, List.mem_map]
  constructor
  · rintro ⟨t, ht, rfl⟩
    obtain ⟨e, a, b, _⟩ := ends_has (q := q) h ht
    exact ⟨e, a, b⟩
  · rintro ⟨e, he, rfl⟩
    exact ⟨e, (mem_ends.mp he).1, rfl⟩
end K8

set_option maxRecDepth 100000
set_option maxHeartbeats 4000000
namespace K8
open PySem PySem.Spec PyProof.Rows L2
open XT (Sm pe_msg)
open SkE (pmk_own1)
open LamX (Tabs TabS CodeO ExtN codeO_ne)
section
abbrev s_law : Stmt := topS 31
abbrev Nlaw : List Str := ["script", "dice", "counts", "k", "rule", "times", "why_now", "time", "word", "length", "count", "spans", "span", "last", "stays", "other", "one", "kept", "more", "whole", "tapes", "turns", "due", "turn", "tape", "wrong", "pair"]
theorem sc_law : FnScope Nlaw ["script"] (defScope s_law) := ⟨rfl, rfl, rfl, by decide +kernel, rfl, by decide +kernel, by decide +kernel⟩
def lawS (i : Nat) : Stmt := (defBody s_law).getD i (.Pass ⟨0, 0, 0, 0⟩)
def forB : Stmt → List Stmt
  | .For _ _ b _ _ => b
  | .If _ b _ _ => b
  | _ => []
/-- the i-th statement of the round -/
def lb (i : Nat) : Stmt := (forB (lawS 0)).getD i (.Pass ⟨0, 0, 0, 0⟩)
variable {P : Program} {w : World} {K : PySem.W.Frag} {mg : Str → Option Value} {base : Heap} {R Pp C0 : Addr} {Ps : List Addr}
/-- the law's callees -/
structure Callees (P : Program) (w : World) (K : PySem.W.Frag) (mg : Str → Option Value) (base : Heap) (R Pp C0 : Addr) (Ps : List Addr) (k : Nat) : Prop where
  stays : ∃ f fd j, j ≤ k ∧ MCal P w K mg base (L2.CX P w) j C0 "stays" ["self", "times"] (sp_stays K C0 Ps) f fd
  goes : ∃ f fd j, j ≤ k ∧ MCal P w K mg base (L2.CX P w) j C0 "goes" ["self", "times"] (sp_goes K C0 Ps) f fd
  why : ∃ f fd j, j ≤ k ∧ MCal P w K mg base (L2.CX P w) j C0 "why" ["self", "times", "time"] (sp_why K R C0 Ps) f fd
  shown : ∃ f fd j, j ≤ k ∧ MCal P w K mg base (L2.CX P w) j C0 "shown" ["self"] (sp_shown C0 Ps) f fd
  check : ∃ f fd j, j ≤ k ∧ Cal P w K mg base (L2.CX P w) j "check_stays" ["rule", "times", "stays"] (sp_check_stays K Pp C0 Ps) f fd
  most : ∃ f fd j, j ≤ k ∧ Cal P w K mg base (L2.CX P w) j "most_kept" ["rule"] (sp_most_kept C0 Ps) f fd
  after : ∃ f fd j, j ≤ k ∧ Cal P w K mg base (L2.CX P w) j "after_each" ["rule", "times"] (sp_after_each K C0 Ps) f fd
  both : ∃ f fd j, j ≤ k ∧ Cal P w K mg base (L2.CX P w) j "both" ["one", "other"] (sp_both C0 Ps) f fd
  gap : ∃ f fd j, j ≤ k ∧ Cal P w K mg base (L2.CX P w) j "widest_gap" ["times"] (sp_widest_gap K Ps) f fd
  tower : ∃ f fd j, j ≤ k ∧ Cal P w K mg base (L2.CX P w) j "tower" ["count", "turns"] (sp_tower R Ps) f fd
  tapes : ∃ f fd j, j ≤ k ∧ Cal P w K mg base (L2.CX P w) j "on_tapes" ["count", "turns"] (sp_on_tapes R Ps) f fd
  mkr : ∃ f fd j, j + 1 ≤ k ∧ Mk K C0 f ∧ FnOk P w K mg base (L2.CX P w) j f fd ["self", "last", "days", "weeks", "months"] (sp_init R C0 Ps) ∧ Binds K fd ["self", "last", "days", "weeks", "months"] []
  roll : ∃ f fd j, j ≤ k ∧ Cal P w K mg base (L2.CX P w) j "_law_roll" ["dice", "many"] sp__law_roll f fd
  rounds : ∃ f fd j, j ≤ k ∧ Cal P w K mg base (L2.CX P w) j "_law_rounds" ["script", "most"] (sp__law_rounds K Ps) f fd
/-- the law's own frame -/
abbrev LX0 (P : Program) (w : World) (K : PySem.W.Frag) (mg : Str → Option Value) (base : Heap) (f c : Addr) (A : Around) (outer : List Env) (s : Shared) (H : Hp) (E : XK) : Cx := cxOf (L2.CX P w) P w K mg base Nlaw "law" (defScope s_law) f (.ref c) A outer s H E
/-- what was there stays, but the dice; the objects os stand -/
structure Hk (Ps : List Addr) (d : Addr) (HB : Hp) (os : List (Addr × HO)) (H : Hp) : Prop where
  gd : Gd Ps d HB H
  ob : ∀ x ∈ os, H x.1 = some x.2 ∧ x.1 ≠ d ∧ x.1 ∉ Ps
variable {f c d : Addr} {k : Nat} {A : Around} {outer : List Env} {s : Shared} {H0 HB : Hp} {E : XK} {os : List (Addr × HO)} {H H' : Hp} {l : Addr} {o : HO}
theorem Hk.tb (h : Hk Ps d HB os H) : Tb Ps H := h.gd.tb
theorem Hk.gw (h : Hk Ps d HB os H) (g : Gw Ps H H') : Hk Ps d HB os H' := ⟨h.gd.gw g, fun x hx => ⟨g.2 _ _ (h.ob x hx).2.2 (h.ob x hx).1, (h.ob x hx).2⟩⟩
theorem Hk.gdd (h : Hk Ps d HB os H) (g : Gd Ps d H H') : Hk Ps d HB os H' := ⟨h.gd.trans g, fun x hx => ⟨g.keep _ _ (h.ob x hx).2.2 (h.ob x hx).2.1 (h.ob x hx).1, (h.ob x hx).2⟩⟩
theorem Hk.roll (h : Hk Ps d HB os H) (a b c : Int) : Hk Ps d HB os (upd H d (.lst [.int a, .int b, .int c])) := h.gdd ((Gd.refl h.tb h.gd.dice).roll a b c)
theorem Hk.new (h : Hk Ps d HB os H) (n : H l = none) : Hk Ps d HB os (upd H l o) := h.gw ((Gw.refl h.tb).new n)
theorem Hk.add (h : Hk Ps d HB os H) (e : H l = some o) (nd : l ≠ d) (nP : l ∉ Ps) : Hk Ps d HB ((l, o) :: os) H := ⟨h.gd, fun x hx => by
  rcases List.mem_cons.mp hx with rfl | hx
  · exact ⟨e, nd, nP⟩
  · exact h.ob x hx⟩
theorem Hk.nd (h : Hk Ps d HB os H) (n : H l = none) : l ≠ d := h.gd.ne n
theorem Hk.nP (h : Hk Ps d HB os H) (n : H l = none) : l ∉ Ps := h.tb.none n
theorem Hk.newA (h : Hk Ps d HB os H) (n : H l = none) : Hk Ps d HB ((l, o) :: os) (upd H l o) := (h.new n).add upd_same (h.nd n) (h.nP n)
theorem Hk.sub {os' : List (Addr × HO)} (h : Hk Ps d HB os H) (q : ∀ x ∈ os', x ∈ os) : Hk Ps d HB os' H := ⟨h.gd, fun x hx => h.ob x (q x hx)⟩
theorem Hk.at_ (h : Hk Ps d HB os H) {i : Nat} {x : Addr × HO} (e : os[i]? = some x) : H x.1 = some x.2 := (h.ob x (List.mem_of_getElem? e)).1
theorem Hk.atd (h : Hk Ps d HB os H) {i : Nat} {x : Addr × HO} (e : os[i]? = some x) : x.1 ≠ d := (h.ob x (List.mem_of_getElem? e)).2.1
theorem Hk.atP (h : Hk Ps d HB os H) {i : Nat} {x : Addr × HO} (e : os[i]? = some x) : x.1 ∉ Ps := (h.ob x (List.mem_of_getElem? e)).2.2
theorem Hk.refl (t : Tb Ps H) (di : Dice H d) : Hk Ps d H [] H := ⟨Gd.refl t di, fun x hx => nomatch hx⟩
def Cs (c : Cn) : Prop := c.n ≤ 3 ∧ c.d ≤ 3 ∧ c.w ≤ 3 ∧ c.m ≤ 3
theorem Cs.ok {c : Cn} (h : Cs c) : c.ok := by
  obtain ⟨h1, h2, h3, h4⟩ := h
  show _ ≤ 40
  omega
/-- [_law_roll(dice, 4) for k in range(4)] -/
theorem rolls4 {σ : L2.St} {G : Hp} {Q : VK} (h1 : σ[1]? = some (some (.ref d))) (tb : Tb Ps G) (di : Dice G d) (h : ∀ c pc G', Cs c → Gd Ps d G G' → G pc = none → G' pc = some (.lst ((cnL c).map V.int)) → Q (.ref pc) G') :
    tLc (iRng1 (tCons (tC (.int 4)) tNil)) (gName 3) tYes (tCall sp__law_roll [] (fun _ _ _ => False) (tCons (tVar 1) (tCons (tC (.int 4)) tNil))) [3] σ G Q := by
  refine tLc_rng1 4 4 (fun R r => r) ⟨by decide, by decide⟩ rfl (fun D hD => ?_)
  have g0 := Gd.refl tb di
  have nDd : D ≠ d := g0.ne hD
  have nDP : D ∉ Ps := tb.none hD
  refine lc_range (fun i G' => Gd Ps d G G' ∧ ∃ xs : List Nat, G' D = some (.lst (xs.map fun n => V.int (n : Nat))) ∧ xs.length = i ∧ ∀ x ∈ xs, x ≤ 3) ⟨g0.new hD, [], upd_same, rfl, fun x h => nomatch h⟩ ?_ ?_
  · rintro i G' hi ⟨g2, xs, hG, hw, hall⟩
    have es : ((σ.set 3 none).set 3 (some (V.int (0 + (i : Nat)))))[1]? = some (some (.ref d)) := by
      rw [List.getElem?_set_ne (by decide), List.getElem?_set_ne (by decide), h1]
    refine ⟨by simp [wipe], ?_⟩
    simp only [tYes, wipe, ↓reduceIte]
    refine ⟨_, es, ⟨d, 4, rfl, g2.dice, by decide, by decide, fun r a b c hr => ?_⟩⟩
    have g3 := g2.roll a b c
    refine ⟨_, by rw [upd_ne nDd]; exact hG, ?_, g3.set hD nDP nDd, xs ++ [r], ?_, ?_, ?_⟩
    · rw [List.length_map, hw]
      exact Nat.lt_of_lt_of_le (show i < 5 by omega) (by decide)
    · rw [upd_same, List.map_append]
      rfl
    · rw [List.length_append, hw]
      rfl
    · intro x hx
      rcases List.mem_append.mp hx with hx | hx
      · exact hall x hx
      · rw [List.mem_singleton.mp hx]
        omega
  · rintro G' ⟨g2, xs, hG, hw, hall⟩
    match xs, hw with
    | [x1, x2, x3, x4], _ => exact h ⟨x1, x2, x3, x4⟩ D G' ⟨hall _ (by simp), hall _ (by simp), hall _ (by simp), hall _ (by simp)⟩ g2 hD hG
def Pre0 (Ps : List Addr) (d : Addr) (HB : Hp) : L2.St → Hp → Prop := fun σ H => (∃ z0 z2 z3 z4 z5 z6 z7 z8 z9 z10 z11 z12 z13 z14 z15 z16 z17 z18 z19 z20 z21 z22 z23 z24 z25 z26, σ = [z0, some (.ref d), z2, z3, z4, z5, z6, z7, z8, z9, z10, z11, z12, z13, z14, z15, z16, z17, z18, z19, z20, z21, z22, z23, z24, z25, z26]) ∧ Hk Ps d HB [] H
def O1 (c : Cn) (pc : Addr) : List (Addr × HO) := [(pc, .lst ((cnL c).map V.int))]
def Pre1 (Ps : List Addr) (d : Addr) (HB : Hp) (c : Cn) (pc : Addr) : L2.St → Hp → Prop := fun σ H => (∃ z0 z3 z4 z5 z6 z7 z8 z9 z10 z11 z12 z13 z14 z15 z16 z17 z18 z19 z20 z21 z22 z23 z24 z25 z26, σ = [z0, some (.ref d), some (.ref pc), z3, z4, z5, z6, z7, z8, z9, z10, z11, z12, z13, z14, z15, z16, z17, z18, z19, z20, z21, z22, z23, z24, z25, z26]) ∧ Hk Ps d HB (O1 c pc) H
theorem law0 (Z : Callees P w K mg base R Pp C0 Ps k) (T : Txt K mg R Pp C0) (hr : Room k (A.deeper (envOfC "law" (defScope s_law) s.heap.objs.size f (.ref c)))) : Step (LX0 P w K mg base f c A outer s H0 E) (lb 0) (Pre0 Ps d HB) (fun σ H => ∃ c pc, Cs c ∧ Pre1 Ps d HB c pc σ H) := by
  obtain ⟨_, _, _, k2, G2⟩ := Z.roll
  refine ⟨_, ps_set (i := 2) sc_law.nd rfl (.inr rfl) (pe_lc (own := [("k", 3)]) rfl sc_law.nd (pi_range1 (by rfl) T.z_range (pa_cons pe_int pa_nil)) (blkOk_by (by show blkC Nlaw (defScope s_law) _ _ = true; decide +kernel)) (fun _ _ _ _ _ => (pg_name (i := 3) sc_law.nd rfl (.inl rfl))) (fun _ _ _ _ _ => pts_nil) (fun _ _ _ _ _ => (pe_call G2.ok (hr.mono k2) (by rfl) G2.g G2.kp G2.b .nil passF (pa_cons (pv 1) (pa_cons pe_int pa_nil))))), fun D σ H hp hn => ?_⟩
  obtain ⟨⟨z0, z2, z3, z4, z5, z6, z7, z8, z9, z10, z11, z12, z13, z14, z15, z16, z17, z18, z19, z20, z21, z22, z23, z24, z25, z26, rfl⟩, g⟩ := hp
  refine rolls4 rfl g.tb g.gd.dice fun c pc G' hc g2 hn0 hG => ?_
  refine hn _ _ ⟨c, pc, hc, ⟨_, _, _, _, _, _, _, _, _, _, _, _, _, _, _, _, _, _, _, _, _, _, _, _, _, rfl⟩, (g.gdd g2).add hG (g.nd hn0) (g.nP hn0)⟩
def O2 (C0 : Addr) (c : Cn) (pc pr dr : Addr) : List (Addr × HO) := (pr, .ins C0 dr (ruF c)) :: O1 c pc
def Pre2 (Ps : List Addr) (d : Addr) (HB : Hp) (C0 : Addr) (c : Cn) (pc pr dr : Addr) : L2.St → Hp → Prop := fun σ H => (∃ z0 z3 z5 z6 z7 z8 z9 z10 z11 z12 z13 z14 z15 z16 z17 z18 z19 z20 z21 z22 z23 z24 z25 z26, σ = [z0, some (.ref d), some (.ref pc), z3, some (.ref pr), z5, z6, z7, z8, z9, z10, z11, z12, z13, z14, z15, z16, z17, z18, z19, z20, z21, z22, z23, z24, z25, z26]) ∧ Hk Ps d HB (O2 C0 c pc pr dr) H
/-- Rule(a[0], a[1], a[2], a[3]) -/
theorem mkRule {a : Addr} {i : Nat} {σ : L2.St} {G : Hp} {Q : VK} {cn : Cn} (hi : σ[i]? = some (some (.ref a))) (ha : G a = some (.lst ((cnL cn).map V.int))) (tb : Tb Ps G) (hc : Cs cn)
    (h : ∀ r dr G', Gw Ps G G' → G r = none → G' r = some (.ins C0 dr (ruF cn)) → Q (.ref r) G') :
    tMake C0 (sp_init R C0 Ps) [] (fun _ _ _ => False) (tCons (tOp (rIxL K) (tVar i) (tC (.int 0))) (tCons (tOp (rIxL K) (tVar i) (tC (.int 1))) (tCons (tOp (rIxL K) (tVar i) (tC (.int 2))) (tCons (tOp (rIxL K) (tVar i) (tC (.int 3))) tNil)))) σ G Q := by
  refine ⟨_, hi, a, _, 0, _, rfl, rfl, SqL.of ha, rfl, ?_⟩
  refine ⟨_, hi, a, _, 1, _, rfl, rfl, SqL.of ha, rfl, ?_⟩
  refine ⟨_, hi, a, _, 2, _, rfl, rfl, SqL.of ha, rfl, ?_⟩
  refine ⟨_, hi, a, _, 3, _, rfl, rfl, SqL.of ha, rfl, ?_⟩
  intro x dx hx hdx ndx
  obtain ⟨h1, h2, h3, h4⟩ := hc
  have gr := ((Gw.refl tb).new (o := .own x) hdx).new (o := .ins C0 dx []) (l := x) (by rw [upd_ne ndx.symm]; exact hx)
  refine ⟨x, dx, (cn.n : Nat), (cn.d : Nat), (cn.w : Nat), (cn.m : Nat), rfl, upd_same, ⟨by omega, by omega⟩, ⟨by omega, by omega⟩, ⟨by omega, by omega⟩, ⟨by omega, by omega⟩, gr.1, fun n n1 n2 n3 n4 => ⟨rfl, ?_⟩, fun z => by omega⟩
  rw [upd_upd]
  have : n = cn := by
    obtain ⟨a1, a2, a3, a4⟩ := n
    obtain ⟨b1, b2, b3, b4⟩ := cn
    simp only at n1 n2 n3 n4
    congr 1 <;> omega
  rw [this]
  exact h x dx _ (((Gw.refl tb).new (o := .own x) hdx).new (by rw [upd_ne ndx.symm]; exact hx)) hx upd_same
theorem law1 (Z : Callees P w K mg base R Pp C0 Ps k) (T : Txt K mg R Pp C0) (hr : Room k (A.deeper (envOfC "law" (defScope s_law) s.heap.objs.size f (.ref c)))) {cn : Cn} {pc : Addr} (hc : Cs cn) : Step (LX0 P w K mg base f c A outer s H0 E) (lb 1) (Pre1 Ps d HB cn pc) (fun σ H => ∃ pr dr, Pre2 Ps d HB C0 cn pc pr dr σ H) := by
  obtain ⟨_, _, _, k2, MK, FI, BI⟩ := Z.mkr
  refine ⟨_, ps_set (i := 4) sc_law.nd rfl (.inr rfl) (pe_make MK FI (hr.mono k2) (by rfl) T.g_Rule BI .nil passF (pa_cons (pe_ix ix_list (pv 2) pe_int (fun _ _ => rfl)) (pa_cons (pe_ix ix_list (pv 2) pe_int (fun _ _ => rfl)) (pa_cons (pe_ix ix_list (pv 2) pe_int (fun _ _ => rfl)) (pa_cons (pe_ix ix_list (pv 2) pe_int (fun _ _ => rfl)) pa_nil))))), fun D σ H hp hn => ?_⟩
  obtain ⟨⟨z0, z3, z4, z5, z6, z7, z8, z9, z10, z11, z12, z13, z14, z15, z16, z17, z18, z19, z20, z21, z22, z23, z24, z25, z26, rfl⟩, g⟩ := hp
  refine mkRule (i := 2) rfl (g.at_ (i := 0) rfl) g.tb hc fun r dr G' gw hr0 hG => ?_
  exact hn _ _ ⟨r, dr, ⟨_, _, _, _, _, _, _, _, _, _, _, _, _, _, _, _, _, _, _, _, _, _, _, _, rfl⟩, (g.gw gw).add hG (g.nd hr0) (g.nP hr0)⟩
end
end K8

set_option maxRecDepth 100000
set_option maxHeartbeats 4000000
namespace K8
open PySem PySem.Spec PyProof.Rows L2
open XT (Sm pe_msg)
open SkE (pmk_own1)
open LamX (Tabs TabS CodeO ExtN codeO_ne)
section
variable {X : Cx} {K0 : PySem.W.Frag}
theorem ix_listK (hK : X.K = K0) : IxR X (rIxL K0) := by
  subst hK
  exact ix_list
def rDictP (K : PySem.W.Frag) : List V → Hp → VK → Prop := fun xs H Q => ∃ (a : Addr) (ps : List Addr) (kvs : List (Key × V)), xs = [.ref a] ∧ SqL K H a (ps.map V.ref) ∧ Paired (fun p kv => SqT K H p [kV kv.1, kv.2]) ps kvs ∧
    ∀ p, H p = none → Q (.ref p) (upd H p (.dK (mergeK [] kvs)))
theorem cr_dictP (hc : X.calm = true) : CallR X (.type "dict") (rDictP X.K) := call_dictP hc
def rSortDI : List V → Hp → VK → Prop := fun xs H Q => ∃ (a : Addr) (kvs : List (Key × V)) (ks : List Int), xs = [.ref a] ∧ Rd H a (.dK kvs) ∧ kvs.map (·.1) = ks.map Sum.inl ∧ ks.length < 64 ∧
    ∀ (ys : List Int) (p : Addr), ys.Perm ks → ys.Pairwise (· ≤ ·) → H p = none → Q (.ref p) (upd H p (.lst (ys.map V.int)))
theorem cr_sortDI (hc : X.calm = true) : CallR X (.builtin "sorted") rSortDI := call_sortedDI hc
theorem paired_of {α : Type} {F : Addr → Key × V → Prop} {u : α → Addr} {v : α → Key × V} : ∀ l : List α, (∀ e ∈ l, F (u e) (v e)) → Paired F (l.map u) (l.map v)
  | [], _ => .nil
  | x :: r, h => .cons (h x (List.mem_cons_self ..)) (paired_of r fun e he => h e (List.mem_cons_of_mem _ he))
variable {P : Program} {w : World} {K : PySem.W.Frag} {mg : Str → Option Value} {base : Heap} {R Pp C0 : Addr} {Ps : List Addr}
/-- sorted(dict([(x, 1) for ..])) -/
theorem sortD {D : Addr} {G : Hp} {Q : VK} {l : List (Addr × Int)} (tb : Tb Ps G) (hD : G D = some (.lst (l.map fun e => V.ref e.1))) (hl : ∀ e ∈ l, G e.1 = some (.tup [.int e.2, .int 1])) (ln : l.length < 64)
    (h : ∀ L p G', SS L → (∀ x, x ∈ L ↔ ∃ e ∈ l, e.2 = x) → L.length ≤ l.length → Gw Ps G G' → G p = none → G' p = some (.lst (L.map V.int)) → Q (.ref p) G') : rDictP K [.ref D] G (fun x H1 => rSortDI [x] H1 Q) := by
  refine ⟨D, l.map (·.1), l.map fun e => (.inl e.2, .int 1), rfl, SqL.of (by rw [hD, List.map_map]; rfl), paired_of l fun e he => SqT_of (hl e he), fun p hp => ?_⟩
  have e1 : (l.map fun e => ((.inl e.2 : Key), V.int 1)) = (l.map (·.2)).map fun y => ((.inl y : Key), (fun _ => V.int 1) y) := by
    rw [List.map_map]
    rfl
  refine ⟨p, _, ddK (l.map (·.2)), rfl, .inl upd_same, ?_, ?_, fun ys q pm so hq => ?_⟩
  · rw [e1, keys_merge]
  · have := ddK_len (l.map (·.2))
    rw [List.length_map] at this
    omega
  · have g1 := (Gw.refl tb).new (o := .dK (mergeK [] (l.map fun e => (.inl e.2, .int 1)))) hp
    refine h ys q _ (ss_sorted pm (ddK_nodup _) so) (fun x => ?_) ?_ (g1.new hq) (upd_none hq).1 upd_same
    · rw [pm.mem_iff, mem_ddK, List.mem_map]
    · rw [pm.length_eq]
      have := ddK_len (l.map (·.2))
      rw [List.length_map] at this
      exact this
variable {f c d : Addr} {k : Nat} {A : Around} {outer : List Env} {s : Shared} {H0 HB : Hp} {E : XK}
/-- the times -/
def Tm (L : List Int) : Prop := SS L ∧ L.length ≤ 8 ∧ ∀ x ∈ L, 0 ≤ x ∧ x ≤ 3000
def O3 (C0 : Addr) (c : Cn) (L : List Int) (pc pr dr pt : Addr) : List (Addr × HO) := (pt, .lst (L.map V.int)) :: O2 C0 c pc pr dr
def Pre3 (Ps : List Addr) (d : Addr) (HB : Hp) (C0 : Addr) (c : Cn) (L : List Int) (pc pr dr pt : Addr) : L2.St → Hp → Prop := fun σ H => (∃ z0 z3 z6 z7 z8 z9 z10 z11 z12 z13 z14 z15 z16 z17 z18 z19 z20 z21 z22 z23 z24 z25 z26, σ = [z0, some (.ref d), some (.ref pc), z3, some (.ref pr), some (.ref pt), z6, z7, z8, z9, z10, z11, z12, z13, z14, z15, z16, z17, z18, z19, z20, z21, z22, z23, z24, z25, z26]) ∧ Hk Ps d HB (O3 C0 c L pc pr dr pt) H
theorem law2 (Z : Callees P w K mg base R Pp C0 Ps k) (T : Txt K mg R Pp C0) (hr : Room k (A.deeper (envOfC "law" (defScope s_law) s.heap.objs.size f (.ref c)))) {cn : Cn} {pc pr dr : Addr} : Step (LX0 P w K mg base f c A outer s H0 E) (lb 2) (Pre2 Ps d HB C0 cn pc pr dr) (fun σ H => ∃ L pt, Tm L ∧ Pre3 Ps d HB C0 cn L pc pr dr pt σ H) := by
  obtain ⟨_, _, _, k2, G2⟩ := Z.roll
  refine ⟨_, ps_set (i := 5) sc_law.nd rfl (.inr rfl) (pe_callB (cr_sortDI rfl) (by rfl) T.z_sorted (by decide +kernel) (pa_cons (pe_callTy (cr_dictP rfl) (by rfl) T.z_dict (by decide +kernel) (pa_cons (pe_lc (own := [("k", 3)]) rfl sc_law.nd (pi_range1 (by rfl) T.z_range (pa_cons (pe_call G2.ok (hr.mono k2) (by rfl) G2.g G2.kp G2.b .nil passF (pa_cons (pv 1) (pa_cons pe_int pa_nil))) pa_nil)) (blkOk_by (by show blkC Nlaw (defScope s_law) _ _ = true; decide +kernel)) (fun _ _ _ _ _ => (pg_name (i := 3) sc_law.nd rfl (.inl rfl))) (fun _ _ _ _ _ => pts_nil)
    (fun _ _ _ _ _ => (pe_tup (pa_cons (pe_op op_add (pe_call G2.ok (hr.mono k2) (by rfl) G2.g G2.kp G2.b .nil passF (pa_cons (pv 1) (pa_cons pe_int pa_nil))) (pe_op op_mul pe_int (pe_call G2.ok (hr.mono k2) (by rfl) G2.g G2.kp G2.b .nil passF (pa_cons (pv 1) (pa_cons (pe_ix (ix_listK (K0 := K) rfl) (pe_lst (pa_cons pe_int (pa_cons pe_int (pa_cons pe_int pa_nil)))) (pe_call G2.ok (hr.mono k2) (by rfl) G2.g G2.kp G2.b .nil passF (pa_cons (pv 1) (pa_cons pe_int pa_nil))) (fun _ _ => rfl)) pa_nil))))) (pa_cons pe_int pa_nil))))) pa_nil)) pa_nil)), fun D σ H hp hn => ?_⟩
  obtain ⟨⟨z0, z3, z5, z6, z7, z8, z9, z10, z11, z12, z13, z14, z15, z16, z17, z18, z19, z20, z21, z22, z23, z24, z25, z26, rfl⟩, g⟩ := hp
  refine ⟨_, rfl, ⟨d, 9, rfl, g.gd.dice, by decide, by decide, fun r a b c' hr2 => ⟨(r : Nat), rfl, by omega, by omega, fun D' hD => ?_⟩⟩⟩
  have g1 := g.roll a b c'
  generalize upd H d (.lst [.int a, .int b, .int c']) = H1 at hD g1 ⊢
  have nDd := g1.nd hD
  have nDP := g1.nP hD
  have hDB := g1.gd.isn hD
  rw [Int.toNat_natCast]
  refine lc_range (fun i G => Hk Ps d HB (O2 C0 cn pc pr dr) G ∧ ∃ l : List (Addr × Int), G D' = some (.lst (l.map fun e => V.ref e.1)) ∧ l.length = i ∧ ∀ e ∈ l, G e.1 = some (.tup [.int e.2, .int 1]) ∧ e.1 ≠ D' ∧ 0 ≤ e.2 ∧ e.2 ≤ 3000) ⟨g1.new hD, [], upd_same, rfl, fun x h => nomatch h⟩ ?_ ?_
  · rintro i G hi ⟨gi, l, hG, hw, hall⟩
    refine ⟨rfl, ?_⟩
    simp only [tYes, wipe, List.set_cons_zero, List.set_cons_succ, ↓reduceIte]
    refine ⟨_, rfl, ⟨d, 24, rfl, gi.gd.dice, by decide, by decide, fun r1 a1 b1 c1 hr1 => ?_⟩⟩
    have i1 := gi.roll a1 b1 c1
    have k1 : ∀ b u, b ≠ d → G b = some u → upd G d (.lst [.int a1, .int b1, .int c1]) b = some u := fun b u n e => by rw [upd_ne n]; exact e
    generalize upd G d (.lst [.int a1, .int b1, .int c1]) = G1 at i1 k1 ⊢
    refine ⟨_, rfl, (show 3 ≤ sizeLine by decide), fun p3 hp3 => ?_⟩
    have i2 := i1.new (o := .lst [.int 3, .int 30, .int 90]) hp3
    have k2' : ∀ b u, b ≠ d → G b = some u → upd G1 p3 (.lst [.int 3, .int 30, .int 90]) b = some u := fun b u n e => by
      have e1 := k1 b u n e
      rw [upd_ne (ne_of_none e1 hp3)]
      exact e1
    have e3 : upd G1 p3 (.lst [.int 3, .int 30, .int 90]) p3 = some (.lst [.int 3, .int 30, .int 90]) := upd_same
    have np3 := i1.nd hp3
    generalize upd G1 p3 (.lst [.int 3, .int 30, .int 90]) = G2 at i2 k2' e3 ⊢
    refine ⟨_, rfl, ⟨d, 3, rfl, i2.gd.dice, by decide, by decide, fun r2 a2 b2 c2 hr3 => ?_⟩⟩
    have i3 := i2.roll a2 b2 c2
    have k3 : ∀ b u, b ≠ d → G b = some u → upd G2 d (.lst [.int a2, .int b2, .int c2]) b = some u := fun b u n e => by rw [upd_ne n]; exact k2' b u n e
    have e4 : upd G2 d (.lst [.int a2, .int b2, .int c2]) p3 = some (.lst [.int 3, .int 30, .int 90]) := by rw [upd_ne np3]; exact e3
    generalize upd G2 d (.lst [.int a2, .int b2, .int c2]) = G3 at i3 k3 e4 ⊢
    have pick : ∃ n : Nat, ([V.int 3, V.int 30, V.int 90] : List V)[r2]? = some (.int (n : Nat)) ∧ 1 ≤ n ∧ n ≤ 90 := by
      have : r2 = 0 ∨ r2 = 1 ∨ r2 = 2 := by omega
      rcases this with rfl | rfl | rfl
      · exact ⟨3, rfl, by decide, by decide⟩
      · exact ⟨30, rfl, by decide, by decide⟩
      · exact ⟨90, rfl, by decide, by decide⟩
    obtain ⟨n, en, n1, n2⟩ := pick
    refine ⟨p3, _, (r2 : Nat), _, rfl, rfl, SqL.of e4, atI_nat en, ?_⟩
    refine ⟨d, (n : Nat), rfl, i3.gd.dice, by omega, by omega, fun r3 a3 b3 c3 hr4 => ?_⟩
    have i4 := i3.roll a3 b3 c3
    have k4 : ∀ b u, b ≠ d → G b = some u → upd G3 d (.lst [.int a3, .int b3, .int c3]) b = some u := fun b u n e => by rw [upd_ne n]; exact k3 b u n e
    generalize upd G3 d (.lst [.int a3, .int b3, .int c3]) = G4 at i4 k4 ⊢
    refine ⟨24, (r3 : Nat), rfl, rfl, ?_, (r1 : Nat), _, rfl, rfl, (show 2 ≤ sizeLine by decide), fun p hp => ?_⟩
    · exact .inl ⟨by decide, by decide⟩
    have hG4 := k4 _ _ nDd hG
    have nDp : D' ≠ p := ne_of_none hG4 hp
    refine ⟨_, by rw [upd_ne nDp]; exact hG4, ?_, ?_, l ++ [(p, ((r1 : Nat) : Int) + 24 * (r3 : Nat))], ?_, ?_, ?_⟩
    · rw [List.length_map, hw]
      exact Nat.lt_of_lt_of_le (show i < 10 by omega) (by decide)
    · have i5 := i4.new (o := .tup [.int (((r1 : Nat) : Int) + 24 * (r3 : Nat)), .int 1]) hp
      exact ⟨i5.gd.set hDB nDP nDd, fun x hx => by
        have := i5.ob x hx
        have ne : x.1 ≠ D' := fun z => by
          have h0 := g1.ob x hx
          rw [z, hD] at h0
          cases h0.1
        exact ⟨by rw [upd_ne ne]; exact this.1, this.2⟩⟩
    · rw [upd_same, List.map_append]
      rfl
    · rw [List.length_append, hw]
      rfl
    · intro e he
      rcases List.mem_append.mp he with he | he
      · obtain ⟨h1, h2, h3⟩ := hall e he
        have ned : e.1 ≠ d := fun z => by
          obtain ⟨x, y, v, hd⟩ := gi.gd.dice
          rw [z, hd] at h1
          cases h1
        have h4 := k4 _ _ ned h1
        exact ⟨by rw [upd_ne h2, upd_ne (ne_of_none h4 hp)]; exact h4, h2, h3⟩
      · rw [List.mem_singleton.mp he]
        exact ⟨by rw [upd_ne nDp.symm]; exact upd_same, nDp.symm, by simp only; omega⟩
  · rintro G ⟨gi, l, hG, hw, hall⟩
    show rDictP K [.ref D'] G (fun x H1 => rSortDI [x] H1 (fun v G' => gName 5 v [z0, some (.ref d), some (.ref pc), z3, some (.ref pr), z5, z6, z7, z8, z9, z10, z11, z12, z13, z14, z15, z16, z17, z18, z19, z20, z21, z22, z23, z24, z25, z26] G' D.nx))
    refine sortD gi.tb hG (fun e he => (hall e he).1) (by omega) fun L p G' ss hm hl gw hp0 hG' => ?_
    refine hn _ _ ⟨L, p, ⟨ss, by omega, fun x hx => ?_⟩, ⟨_, _, _, _, _, _, _, _, _, _, _, _, _, _, _, _, _, _, _, _, _, _, _, rfl⟩, (gi.gw gw).add hG' (gi.nd hp0) (gi.nP hp0)⟩
    obtain ⟨e, he, rfl⟩ := (hm x).1 hx
    exact (hall e he).2.2
end
end K8

set_option maxRecDepth 100000
set_option maxHeartbeats 4000000
namespace K8
open PySem PySem.Spec PyProof.Rows L2
open XT (Sm pe_msg)
open SkE (pmk_own1)
open LamX (Tabs TabS CodeO ExtN codeO_ne)
local macro_rules | `(tactic| walk_at "ev8") => `(tactic| simp only [tSeq, tIfS, tNot, XT.tChain3, rI0, tC, tVar, tRet, tTup, tLst, tCons, tNil, tJs, tFmt, tNext, tTest, tOp, tUn, rI, rU, tCall, tCB, tAnd, tOr, tB, tDrop, tAsg, gName, tAug, tPar, ipI, tBM, rAppend, tSl, rSlS, tPart, tNoPart, tIf, tM1, rEq, rNe, tFld, tMeth, tMake, L2.start, List.map_cons, List.map_nil, List.length_cons, List.length_nil, Nat.reduceAdd, Nat.reduceSub, Nat.sub_self, List.replicate_zero, List.append_nil, List.replicate_succ, List.cons_append, List.nil_append,
  List.getElem?_cons_zero, List.getElem?_cons_succ, Option.some.injEq, exists_eq_left', exists_eq_left, V.int.injEq, V.str.injEq, V.bl.injEq, V.ref.injEq, List.set_cons_zero, List.set_cons_succ, List.cons.injEq, and_true, true_and, reduceCtorEq, false_and, exists_false, false_or, or_false, exists_and_left, and_assoc, decide_eq_true_eq, Bool.not_eq_true', decide_eq_false_iff_not, Bool.not_false, Bool.not_true, if_true, if_false, Bool.false_eq_true, ↓reduceIte])
section
variable {P : Program} {w : World} {K : PySem.W.Frag} {mg : Str → Option Value} {base : Heap} {R Pp C0 : Addr} {Ps : List Addr}
variable {f c d : Addr} {k : Nat} {A : Around} {outer : List Env} {s : Shared} {H0 HB : Hp} {E : XK}
/-- the table of reasons at pw -/
def WhyAt (H : Hp) (pw : Addr) (fw : Int → List Str) (L : List Int) : Prop := ∃ ad : Int → Addr, H pw = some (.dK (L.map fun t => (.inl t, .ref (ad t)))) ∧ ∀ t ∈ L, H (ad t) = some (.lst ((fw t).map V.str))
theorem str_nd {H : Hp} {a : Addr} {xs : List Str} (h : H a = some (.lst (xs.map V.str))) (di : Dice H d) : a ≠ d := fun z => by
  obtain ⟨x, y, v, hd⟩ := di
  rw [z, hd] at h
  cases xs with
  | nil => cases h
  | cons y r =>
    have := HO.lst.inj (Option.some.inj h)
    rw [List.map_cons] at this
    cases (List.cons.inj this).1
theorem WhyAt.gd {H H' : Hp} {pw : Addr} {fw : Int → List Str} {L : List Int} (h : WhyAt H pw fw L) (tb : Tb Ps H) (di : Dice H d) (g : Gd Ps d H H') : WhyAt H' pw fw L := by
  obtain ⟨ad, h1, h2⟩ := h
  refine ⟨ad, g.keep _ _ (tb.not h1 fun _ z => by cases z) (fun z => ?_) h1, fun t ht => g.keep _ _ (tb.not (h2 t ht) fun _ z => by cases z) (str_nd (h2 t ht) di) (h2 t ht)⟩
  obtain ⟨x, y, v, hd⟩ := di
  rw [z, hd] at h1
  cases h1
theorem WhyAt.gw {H H' : Hp} {pw : Addr} {fw : Int → List Str} {L : List Int} (h : WhyAt H pw fw L) (tb : Tb Ps H) (g : Gw Ps H H') : WhyAt H' pw fw L := by
  obtain ⟨ad, h1, h2⟩ := h
  exact ⟨ad, g.2 _ _ (tb.not h1 fun _ z => by cases z) h1, fun t ht => g.2 _ _ (tb.not (h2 t ht) fun _ z => by cases z) (h2 t ht)⟩
def Pre4 (Ps : List Addr) (d : Addr) (HB : Hp) (C0 : Addr) (c : Cn) (L : List Int) (pc pr dr pt pw : Addr) (fw : Int → List Str) : L2.St → Hp → Prop := fun σ H => (∃ z0 z3 z7 z8 z9 z10 z11 z12 z13 z14 z15 z16 z17 z18 z19 z20 z21 z22 z23 z24 z25 z26, σ = [z0, some (.ref d), some (.ref pc), z3, some (.ref pr), some (.ref pt), some (.ref pw), z7, z8, z9, z10, z11, z12, z13, z14, z15, z16, z17, z18, z19, z20, z21, z22, z23, z24, z25, z26]) ∧ Hk Ps d HB (O3 C0 c L pc pr dr pt) H ∧ WhyAt H pw fw L ∧ pw ≠ d ∧ pw ∉ Ps ∧ HB pw = none
theorem mx0 (a b : Nat) : (if ((a : Nat) : Int) - (b : Nat) > 0 then ((a : Nat) : Int) - (b : Nat) else 0) = ((a - b : Nat) : Int) := by split <;> omega
theorem law3 (Z : Callees P w K mg base R Pp C0 Ps k) (T : Txt K mg R Pp C0) (hr : Room k (A.deeper (envOfC "law" (defScope s_law) s.heap.objs.size f (.ref c)))) {cn : Cn} {L : List Int} {pc pr dr pt : Addr} (hT : Tm L) : Step (LX0 P w K mg base f c A outer s H0 E) (lb 3) (Pre3 Ps d HB C0 cn L pc pr dr pt) (fun σ H => ∃ pw, Pre4 Ps d HB C0 cn L pc pr dr pt pw (fun t => Wd cn L t 0) σ H) := by
  refine ⟨_, ps_set (i := 6) sc_law.nd rfl (.inr rfl) (pe_callTy (cr_dictP rfl) (by rfl) T.z_dict (by decide +kernel) (pa_cons (pe_lc (own := [("time", 7)]) rfl sc_law.nd (pi_list (pv 5)) (blkOk_by (by show blkC Nlaw (defScope s_law) _ _ = true; decide +kernel)) (fun _ _ _ _ _ => (pg_name (i := 7) sc_law.nd rfl (.inl rfl))) (fun _ _ _ _ _ => pts_nil)
    (fun _ _ _ _ _ => (pe_tup (pa_cons (pv 7) (pa_cons (pe_ifExp (pt_cmpR (op_inK (K0 := K) rfl) (pv 7) (pe_sliceL (K0 := K) rfl (pv 5) (po_some (pe_callB (call_max2 rfl) (by rfl) T.z_max (by decide +kernel) (pa_cons pe_int (pa_cons (pe_op op_sub (pe_callB (call_lenK (K0 := K) rfl) (by rfl) T.z_len (by decide +kernel) (pa_cons (pv 5) pa_nil)) (pe_ix (ix_listK (K0 := K) rfl) (pv 2) pe_int (fun _ _ => rfl))) pa_nil)))) po_none) (by with_unfolding_all rfl)) (pe_lst (pa_cons pe_str pa_nil)) (pe_lst pa_nil)) pa_nil))))) pa_nil)), fun D σ H hp hn => ?_⟩
  obtain ⟨⟨z0, z3, z6, z7, z8, z9, z10, z11, z12, z13, z14, z15, z16, z17, z18, z19, z20, z21, z22, z23, z24, z25, z26, rfl⟩, g⟩ := hp
  obtain ⟨ss, l8, lo⟩ := hT
  have et := g.at_ (i := 0) rfl
  have etP := g.atP (i := 0) rfl
  refine ⟨_, rfl, pt, rfl, ⟨_, SqL.of et⟩, fun D' hD => ?_⟩
  have nDd := g.nd hD
  have nDP := g.nP hD
  have hDB := g.gd.isn hD
  have g0 : Hk Ps d HB (O3 C0 cn L pc pr dr pt) (upd H D' (.lst [])) := g.new hD
  refine lc_list (xs := L.map V.int) (fun i G => Hk Ps d HB (O3 C0 cn L pc pr dr pt) G ∧ Gw Ps H G ∧ ∃ pp ad : Int → Addr, G D' = some (.lst ((L.take i).map fun t => V.ref (pp t))) ∧ ∀ t ∈ L.take i, G (pp t) = some (.tup [.int t, .ref (ad t)]) ∧ G (ad t) = some (.lst ((Wd cn L t 0).map V.str)) ∧ ad t ≠ D') ⟨g0, (Gw.refl g.tb).new hD, fun _ => 0, fun _ => 0, upd_same, fun t ht => by simp at ht⟩ ?_ ?_ ?_
  · rintro i G _ ⟨gi, _⟩
    exact SqL.of (gi.at_ (i := 0) rfl)
  · rintro i x G hx ⟨gi, gw, pp, ad, hG, hall⟩
    rw [List.getElem?_map] at hx
    obtain ⟨t, ht2, rfl⟩ := Option.map_eq_some_iff.mp hx
    refine ⟨rfl, ?_⟩
    simp only [tYes, wipe, List.map_cons, List.map_nil, List.set_cons_zero, List.set_cons_succ, ↓reduceIte]
    have tl : t ∉ L.take i := fun z => by
      have := take_lt ss ht2 t z
      omega
    have ek : L.take (i + 1) = L.take i ++ [t] := by rw [List.take_add_one, ht2]; rfl
    have fin : ∀ (Gq : Hp) (xs : List V) (p p1 : Addr), Gw Ps G Gq → xs = (Wd cn L t 0).map V.str → Gq p = none → upd Gq p (.lst xs) p1 = none →
        ∃ acc, upd (upd Gq p (.lst xs)) p1 (.tup [.int t, .ref p]) D' = some (.lst acc) ∧ acc.length < sizeLine ∧ Hk Ps d HB (O3 C0 cn L pc pr dr pt) (upd (upd (upd Gq p (.lst xs)) p1 (.tup [.int t, .ref p])) D' (.lst (acc ++ [.ref p1]))) ∧ Gw Ps H (upd (upd (upd Gq p (.lst xs)) p1 (.tup [.int t, .ref p])) D' (.lst (acc ++ [.ref p1]))) ∧
          ∃ pp : Int → Addr, upd (upd (upd Gq p (.lst xs)) p1 (.tup [.int t, .ref p])) D' (.lst (acc ++ [.ref p1])) D' = some (.lst ((L.take (i + 1)).map fun t => V.ref (pp t))) ∧ ∃ x : Int → Addr, ∀ t_1 ∈ L.take (i + 1), upd (upd (upd Gq p (.lst xs)) p1 (.tup [.int t, .ref p])) D' (.lst (acc ++ [.ref p1])) (pp t_1) = some (.tup [.int t_1, .ref (x t_1)]) ∧
            upd (upd (upd Gq p (.lst xs)) p1 (.tup [.int t, .ref p])) D' (.lst (acc ++ [.ref p1])) (x t_1) = some (.lst ((Wd cn L t_1 0).map V.str)) ∧ x t_1 ≠ D' := by
      rintro Gq xs p p1 gq rfl hp hp1
      have hGq := gq.2 _ _ nDP hG
      have gp := (gq.new (o := .lst ((Wd cn L t 0).map V.str)) hp).new (o := .tup [.int t, .ref p]) hp1
      have up : ∀ b u, b ∉ Ps → b ≠ D' → G b = some u → upd (upd (upd Gq p (.lst ((Wd cn L t 0).map V.str))) p1 (.tup [.int t, .ref p])) D' (.lst (((L.take i).map fun t => V.ref (pp t)) ++ [.ref p1])) b = some u := fun b u nb nd e => by rw [upd_ne nd]; exact gp.2 b u nb e
      have nDp : D' ≠ p := ne_of_none hGq hp
      have hp1' := upd_none hp1
      have nDp1 : D' ≠ p1 := ne_of_none hGq hp1'.1
      refine ⟨_, by rw [upd_ne nDp1, upd_ne nDp]; exact hGq, ?_, ⟨(gi.gd.gw gp).set hDB nDP nDd, fun x hx => ?_⟩, (gw.trans gp).set hD nDP, fun y => if y = t then p1 else pp y, ?_, fun y => if y = t then p else ad y, fun y hy => ?_⟩
      · rw [List.length_map, List.length_take]
        have : 100 ≤ sizeLine := by decide
        omega
      · obtain ⟨o1, o2, o3⟩ := gi.ob x hx
        have ne : x.1 ≠ D' := fun z => by
          have h0 := g.ob x hx
          rw [z, hD] at h0
          cases h0.1
        exact ⟨up _ _ o3 ne o1, o2, o3⟩
      · rw [upd_same, ek, List.map_append]
        congr 3
        · refine List.map_congr_left fun y hy => ?_
          have ny : ¬ y = t := fun z => tl (by rw [← z]; exact hy)
          simp only [if_neg ny]
        · simp
      · rw [ek] at hy
        rcases List.mem_append.mp hy with hy | hy
        · obtain ⟨a1, a2, a3⟩ := hall y hy
          have ny : ¬ y = t := fun z => tl (by rw [← z]; exact hy)
          simp only [if_neg ny]
          have na : pp y ≠ D' := fun z => by
            rw [z, hG] at a1
            cases a1
          exact ⟨up _ _ (gi.tb.not a1 fun _ z => by cases z) na a1, up _ _ (gi.tb.not a2 fun _ z => by cases z) a3 a2, a3⟩
        · rw [List.mem_singleton.mp hy]
          simp only [if_true]
          exact ⟨by rw [upd_ne nDp1.symm]; exact upd_same, by rw [upd_ne nDp.symm, upd_ne hp1'.2.symm]; exact upd_same, nDp.symm⟩
    walk_at "ev8"
    have eG := gi.at_ (i := 0) rfl
    refine ⟨pt, _, rfl, .inl (SqL.of eG), ?_⟩
    refine ⟨pc, _, 0, _, rfl, rfl, SqL.of (gi.at_ (i := 2) rfl), rfl, _, rfl, _, rfl, ?_⟩
    rw [List.length_map, mx0]
    refine ⟨pt, _, rfl, SqL.of eG, fun q hq => ?_⟩
    rw [cutV_drop]
    have e1 : (L.map V.int).drop (L.length - cn.n) = (A0 cn L).map V.int := by
      unfold A0 lastN
      rw [List.map_drop]
    rw [e1]
    have gq := (Gw.refl gi.tb).new (o := .lst ((A0 cn L).map V.int)) hq
    refine ⟨q, _, rfl, .inl (SqL.of upd_same), rfl, flat_I _, ?_⟩
    rw [inV_I]
    refine ⟨_, rfl, ?_⟩
    by_cases m : t ∈ A0 cn L
    · simp only [m, decide_true, Bool.false_eq_true, if_true, if_false]
      refine ⟨by decide, fun p hp => ⟨by decide, fun p1 hp1 => fin _ _ p p1 gq ?_ hp hp1⟩⟩
      unfold Wd wd
      rw [if_pos m]
      rfl
    · simp only [m, decide_false, Bool.false_eq_true, if_true, if_false]
      refine ⟨by decide, fun p hp => ⟨by decide, fun p1 hp1 => fin _ _ p p1 gq ?_ hp hp1⟩⟩
      unfold Wd wd
      rw [if_neg m]
      rfl
  · rintro G ⟨gi, gw, pp, ad, hG, hall⟩
    rw [List.length_map, List.take_length] at hG hall
    refine ⟨D', L.map pp, L.map fun t => (.inl t, .ref (ad t)), rfl, SqL.of (by rw [hG, List.map_map]; rfl), paired_of L fun t ht => SqT_of (hall t ht).1, fun p hp => ?_⟩
    have em : mergeK [] (L.map fun t => ((.inl t : Key), V.ref (ad t))) = L.map fun t => ((.inl t : Key), V.ref (ad t)) := by
      rw [merge_new]
      · rfl
      · rw [List.nil_append, List.map_map]
        refine List.pairwise_map.mpr (List.Pairwise.imp (fun {a b} h e => h (Sum.inl.inj e)) ss.nodup)
    rw [em]
    refine hn _ _ ⟨p, ⟨_, _, _, _, _, _, _, _, _, _, _, _, _, _, _, _, _, _, _, _, _, _, rfl⟩, gi.new hp, ⟨ad, upd_same, fun t ht => ?_⟩, gi.nd hp, gi.nP hp, gi.gd.isn hp⟩
    rw [upd_ne (ne_of_none (hall t ht).2.1 hp)]
    exact (hall t ht).2.1
end
end K8

set_option maxRecDepth 100000
set_option maxHeartbeats 4000000
namespace K8
open PySem PySem.Spec PyProof.Rows L2
open XT (Sm pe_msg)
open SkE (pmk_own1)
open LamX (Tabs TabS CodeO ExtN codeO_ne)
local macro_rules | `(tactic| walk_at "ev8") => `(tactic| simp only [tSeq, tIfS, tNot, XT.tChain3, rI0, tC, tVar, tRet, tTup, tLst, tCons, tNil, tJs, tFmt, tNext, tTest, tOp, tUn, rI, rU, tCall, tCB, tAnd, tOr, tB, tDrop, tAsg, gName, tAug, tPar, ipI, tBM, rAppend, tSl, rSlS, tPart, tNoPart, tIf, tM1, rEq, rNe, tFld, tMeth, tMake, L2.start, List.map_cons, List.map_nil, List.length_cons, List.length_nil, Nat.reduceAdd, Nat.reduceSub, Nat.sub_self, List.replicate_zero, List.append_nil, List.replicate_succ, List.cons_append, List.nil_append,
  List.getElem?_cons_zero, List.getElem?_cons_succ, Option.some.injEq, exists_eq_left', exists_eq_left, V.int.injEq, V.str.injEq, V.bl.injEq, V.ref.injEq, List.set_cons_zero, List.set_cons_succ, List.cons.injEq, and_true, true_and, reduceCtorEq, false_and, exists_false, false_or, or_false, exists_and_left, and_assoc, decide_eq_true_eq, Bool.not_eq_true', decide_eq_false_iff_not, Bool.not_false, Bool.not_true, if_true, if_false, Bool.false_eq_true, ↓reduceIte])
section
variable {P : Program} {w : World} {K : PySem.W.Frag} {mg : Str → Option Value} {base : Heap} {R Pp C0 : Addr} {Ps : List Addr}
variable {f c d : Addr} {k : Nat} {A : Around} {outer : List Env} {s : Shared} {H0 HB : Hp} {E : XK}
/-- [x for x in xs if ..] -/
theorem filtC {i : Nat} {σ : L2.St} {G : Hp} {Q : VK} {te0 : TE} {tt : TT} {L : List Int} {pt : Addr} (fx : Int → Bool) (hi : i < σ.length) (tb : Tb Ps G) (hpt : G pt = some (.lst (L.map V.int))) (ln : L.length ≤ 100) (ha : ∀ R : VK, R (.ref pt) G → te0 σ G R)
    (hs : ∀ t ∈ L, ∀ G' : Hp, Gw Ps G G' → ∀ R : Bool → Hp → Prop, (∀ G'', Gw Ps G' G'' → R (fx t) G'') → tt ((σ.set i none).set i (some (.int t))) G' R)
    (hq : ∀ D G', Gw Ps G G' → G D = none → G' D = some (.lst ((L.filter fx).map V.int)) → Q (.ref D) G') : tLc (iList K te0) (gName i) tt (tVar i) [i] σ G Q := by
  refine ha _ ⟨pt, rfl, ⟨_, SqL.of hpt⟩, fun D hD => ?_⟩
  have nDP : D ∉ Ps := tb.none hD
  have nptP : pt ∉ Ps := tb.not hpt fun _ z => by cases z
  refine lc_list (xs := L.map V.int) (fun j G' => Gw Ps G G' ∧ G' D = some (.lst (((L.take j).filter fx).map V.int))) ⟨(Gw.refl tb).new hD, upd_same⟩ (fun j G' _ z => SqL.of (z.1.2 _ _ nptP hpt)) ?_ ?_
  · rintro j x G' hx ⟨gw, hG⟩
    rw [List.getElem?_map] at hx
    obtain ⟨t, ht, rfl⟩ := Option.map_eq_some_iff.mp hx
    refine ⟨by simp [wipe, List.set_set], ?_⟩
    refine hs t (List.mem_of_getElem? ht) G' gw _ fun G'' g2 => ?_
    have ek : L.take (j + 1) = L.take j ++ [t] := by rw [List.take_add_one, ht]; rfl
    have hG2 := g2.2 _ _ nDP hG
    rw [ek, List.filter_append]
    by_cases m : fx t = true
    · rw [if_pos m]
      have hv : ((wipe σ [i]).set i (some (V.int t)))[i]? = some (some (V.int t)) := by
        rw [List.getElem?_set_self]
        show i < (σ.set i none).length
        rw [List.length_set]
        exact hi
      refine ⟨_, hv, _, hG2, ?_, (gw.trans g2).set hD nDP, ?_⟩
      · rw [List.length_map]
        refine Nat.lt_of_le_of_lt (List.length_filter_le _ _) ?_
        rw [List.length_take]
        have : 1000 ≤ sizeLine := by decide
        omega
      · rw [upd_same, List.map_append]
        simp [m]
    · rw [if_neg m]
      refine ⟨gw.trans g2, ?_⟩
      rw [hG2]
      simp [m]
  · rintro G' ⟨gw, hG⟩
    rw [List.length_map, List.take_length] at hG
    exact hq D G' gw hD hG
/-! the kinds of spans -/
/-- what stands before a kind -/
structure Bs (Ps : List Addr) (d : Addr) (HB : Hp) (os : List (Addr × HO)) (pw : Addr) (fw : Int → List Str) (L : List Int) (H : Hp) : Prop where
  hk : Hk Ps d HB os H
  wy : WhyAt H pw fw L
  nd : pw ≠ d
  nP : pw ∉ Ps
  nB : HB pw = none
theorem Bs.gw {os : List (Addr × HO)} {pw : Addr} {fw : Int → List Str} {L : List Int} {H H' : Hp} (h : Bs Ps d HB os pw fw L H) (g : Gw Ps H H') : Bs Ps d HB os pw fw L H' := ⟨h.hk.gw g, h.wy.gw h.hk.tb g, h.nd, h.nP, h.nB⟩
theorem Bs.add {os : List (Addr × HO)} {pw l : Addr} {o : HO} {fw : Int → List Str} {L : List Int} {H : Hp} (h : Bs Ps d HB os pw fw L H) (e : H l = some o) (nd : l ≠ d) (nP : l ∉ Ps) : Bs Ps d HB ((l, o) :: os) pw fw L H := ⟨h.hk.add e nd nP, h.wy, h.nd, h.nP, h.nB⟩
theorem Bs.sub {os os' : List (Addr × HO)} {pw : Addr} {fw : Int → List Str} {L : List Int} {H : Hp} (h : Bs Ps d HB os pw fw L H) (q : ∀ x ∈ os', x ∈ os) : Bs Ps d HB os' pw fw L H := ⟨h.hk.sub q, h.wy, h.nd, h.nP, h.nB⟩
def lc4 (i : Nat) : Stmt := (forB (lb 4)).getD i (.Pass ⟨0, 0, 0, 0⟩)
def lc4b (i : Nat) : Stmt := (forB (lc4 1)).getD i (.Pass ⟨0, 0, 0, 0⟩)
def PK0 (Ps : List Addr) (d : Addr) (HB : Hp) (os : List (Addr × HO)) (pc pr pt pw : Addr) (fw : Int → List Str) (L : List Int) (wr : Str) (l : Int) (n : Nat) : L2.St → Hp → Prop := fun σ H => (∃ z0 z3 z7 z11 z12 z13 z14 z15 z16 z17 z18 z19 z20 z21 z22 z23 z24 z25 z26, σ = [z0, some (.ref d), some (.ref pc), z3, some (.ref pr), some (.ref pt), some (.ref pw), z7, some (.str wr), some (.int l), some (.int (n : Nat)), z11, z12, z13, z14, z15, z16, z17, z18, z19, z20, z21, z22, z23, z24, z25, z26]) ∧ Bs Ps d HB os pw fw L H
def PK1 (Ps : List Addr) (d : Addr) (HB : Hp) (os : List (Addr × HO)) (pc pr pt pw : Addr) (fw : Int → List Str) (L : List Int) (wr : Str) (l : Int) (n : Nat) (psn : Addr) : L2.St → Hp → Prop := fun σ H => (∃ z0 z3 z7 z12 z13 z14 z15 z16 z17 z18 z19 z20 z21 z22 z23 z24 z25 z26, σ = [z0, some (.ref d), some (.ref pc), z3, some (.ref pr), some (.ref pt), some (.ref pw), z7, some (.str wr), some (.int l), some (.int (n : Nat)), some (.ref psn), z12, z13, z14, z15, z16, z17, z18, z19, z20, z21, z22, z23, z24, z25, z26]) ∧ Bs Ps d HB ((psn, .lst (((ends (fun t => t / l) L).map fun t => t / l).map V.int)) :: os) pw fw L H
theorem l4a (Z : Callees P w K mg base R Pp C0 Ps k) (T : Txt K mg R Pp C0) (hr : Room k (A.deeper (envOfC "law" (defScope s_law) s.heap.objs.size f (.ref c)))) {os : List (Addr × HO)} {fw : Int → List Str} {L : List Int} {pc pr pt pw : Addr} {wr : Str} {l : Int} {n : Nat} (hT : Tm L) (l0 : 0 < l) (l1 : l ≤ 1000) (ho : (pt, .lst (L.map V.int)) ∈ os) :
    Step (LX0 P w K mg base f c A outer s H0 E) (lc4 0) (PK0 Ps d HB os pc pr pt pw fw L wr l n) (fun σ H => ∃ psn, PK1 Ps d HB os pc pr pt pw fw L wr l n psn σ H) := by
  refine ⟨_, ps_set (i := 11) sc_law.nd rfl (.inl rfl) (pe_callB (cr_sortDI rfl) (by rfl) T.z_sorted (by decide +kernel) (pa_cons (pe_callTy (cr_dictP rfl) (by rfl) T.z_dict (by decide +kernel) (pa_cons (pe_lc (own := [("time", 7)]) rfl sc_law.nd (pi_list (pv 5)) (blkOk_by (by show blkC Nlaw (defScope s_law) _ _ = true; decide +kernel)) (fun _ _ _ _ _ => (pg_name (i := 7) sc_law.nd rfl (.inl rfl))) (fun _ _ _ _ _ => pts_nil) (fun _ _ _ _ _ => (pe_tup (pa_cons (pe_op op_fdiv (pv 7) (pv 9)) (pa_cons pe_int pa_nil))))) pa_nil)) pa_nil)), fun D σ H hp hn => ?_⟩
  obtain ⟨⟨z0, z3, z7, z11, z12, z13, z14, z15, z16, z17, z18, z19, z20, z21, z22, z23, z24, z25, z26, rfl⟩, g⟩ := hp
  obtain ⟨ss, l8, lo⟩ := hT
  obtain ⟨et, etd, etP⟩ := g.hk.ob _ ho
  refine ⟨_, rfl, pt, rfl, ⟨_, SqL.of et⟩, fun D' hD => ?_⟩
  have nDP := g.hk.nP hD
  refine lc_list (xs := L.map V.int) (fun i G => Gw Ps H G ∧ ∃ pp : Int → Addr, G D' = some (.lst ((L.take i).map fun t => V.ref (pp t))) ∧ ∀ t ∈ L.take i, G (pp t) = some (.tup [.int (t / l), .int 1])) ⟨(Gw.refl g.hk.tb).new hD, fun _ => 0, upd_same, fun t ht => by simp at ht⟩ ?_ ?_ ?_
  · rintro i G _ ⟨gw, _⟩
    exact SqL.of (gw.2 _ _ etP et)
  · rintro i x G hx ⟨gw, pp, hG, hall⟩
    rw [List.getElem?_map] at hx
    obtain ⟨t, ht2, rfl⟩ := Option.map_eq_some_iff.mp hx
    have tl : t ∉ L.take i := fun z => by
      have := take_lt ss ht2 t z
      omega
    have ek : L.take (i + 1) = L.take i ++ [t] := by rw [List.take_add_one, ht2]; rfl
    refine ⟨rfl, ?_⟩
    simp only [tYes, wipe, List.map_cons, List.map_nil, List.set_cons_zero, List.set_cons_succ, ↓reduceIte]
    refine ⟨_, rfl, _, rfl, ?_⟩
    walk_at "ev8"
    refine ⟨⟨l0, by omega⟩, by decide, fun p hp => ?_⟩
    have nDp : D' ≠ p := ne_of_none hG hp
    refine ⟨_, by rw [upd_ne nDp]; exact hG, ?_, (gw.new hp).set hD nDP, fun y => if y = t then p else pp y, ?_, fun y hy => ?_⟩
    · rw [List.length_map, List.length_take]
      have : 100 ≤ sizeLine := by decide
      omega
    · rw [upd_same, ek, List.map_append]
      congr 3
      · refine List.map_congr_left fun y hy => ?_
        have ny : ¬ y = t := fun z => tl (by rw [← z]; exact hy)
        simp only [if_neg ny]
      · simp
    · rw [ek] at hy
      rcases List.mem_append.mp hy with hy | hy
      · have a1 := hall y hy
        have ny : ¬ y = t := fun z => tl (by rw [← z]; exact hy)
        simp only [if_neg ny]
        have na : pp y ≠ D' := fun z => by
          rw [z, hG] at a1
          cases a1
        rw [upd_ne na, upd_ne (ne_of_none a1 hp)]
        exact a1
      · rw [List.mem_singleton.mp hy]
        simp only [if_true]
        rw [upd_ne nDp.symm]
        exact upd_same
  · rintro G ⟨gw, pp, hG, hall⟩
    rw [List.length_map, List.take_length] at hG hall
    show rDictP K [.ref D'] G (fun x H1 => rSortDI [x] H1 (fun v G' => gName 11 v [z0, some (.ref d), some (.ref pc), z3, some (.ref pr), some (.ref pt), some (.ref pw), z7, some (.str wr), some (.int l), some (.int (n : Nat)), z11, z12, z13, z14, z15, z16, z17, z18, z19, z20, z21, z22, z23, z24, z25, z26] G' D.nx))
    refine sortD (l := L.map fun t => (pp t, t / l)) gw.1 (by rw [hG, List.map_map]; rfl) (fun e he => ?_) (by rw [List.length_map]; omega) fun sp p G' hs hm hl gw2 hp0 hG' => ?_
    · obtain ⟨t, ht, rfl⟩ := List.mem_map.mp he
      exact hall t ht
    · have esp : sp = (ends (fun t => t / l) L).map fun t => t / l := spans_ends (fun a b ab => Int.ediv_le_ediv l0 ab) ss hs fun x => by
        rw [hm x]
        constructor
        · rintro ⟨e, he, rfl⟩
          obtain ⟨t, ht, rfl⟩ := List.mem_map.mp he
          exact ⟨t, ht, rfl⟩
        · rintro ⟨t, ht, rfl⟩
          exact ⟨_, List.mem_map.mpr ⟨t, ht, rfl⟩, rfl⟩
      have g2 := (g.gw gw).gw gw2
      refine hn _ _ ⟨p, ⟨_, _, _, _, _, _, _, _, _, _, _, _, _, _, _, _, _, _, rfl⟩, g2.add (by rw [hG', esp]) ((g.gw gw).hk.nd hp0) ((g.gw gw).hk.nP hp0)⟩
/-- before a span's end is told of: i spans told -/
def fwI (fw : Int → List Str) (L : List Int) (wr : Str) (l : Int) (n i : Nat) : Int → List Str := fun t => fw t ++ wd (t ∈ (lastN n (ends (fun t => t / l) L)).take i) wr
def OK4 (os : List (Addr × HO)) (L : List Int) (l : Int) (n : Nat) (psn q : Addr) : List (Addr × HO) := (q, .lst (((lastN n (ends (fun t => t / l) L)).map fun t => t / l).map V.int)) :: (psn, .lst (((ends (fun t => t / l) L).map fun t => t / l).map V.int)) :: os
def PB (Ps : List Addr) (d : Addr) (HB : Hp) (os : List (Addr × HO)) (pc pr pt pw : Addr) (fw : Int → List Str) (L : List Int) (wr : Str) (l : Int) (n : Nat) (psn q : Addr) (i : Nat) : L2.St → Hp → Prop := fun σ H => (∃ z0 z3 z7 z12 z13 z14 z15 z16 z17 z18 z19 z20 z21 z22 z23 z24 z25 z26, σ = [z0, some (.ref d), some (.ref pc), z3, some (.ref pr), some (.ref pt), some (.ref pw), z7, some (.str wr), some (.int l), some (.int (n : Nat)), some (.ref psn), z12, z13, z14, z15, z16, z17, z18, z19, z20, z21, z22, z23, z24, z25, z26]) ∧ Bs Ps d HB (OK4 os L l n psn q) pw (fwI fw L wr l n i) L H
def PB0 (Ps : List Addr) (d : Addr) (HB : Hp) (os : List (Addr × HO)) (pc pr pt pw : Addr) (fw : Int → List Str) (L : List Int) (wr : Str) (l : Int) (n : Nat) (psn q : Addr) (i : Nat) (e : Int) : L2.St → Hp → Prop := fun σ H => (∃ z0 z3 z7 z13 z14 z15 z16 z17 z18 z19 z20 z21 z22 z23 z24 z25 z26, σ = [z0, some (.ref d), some (.ref pc), z3, some (.ref pr), some (.ref pt), some (.ref pw), z7, some (.str wr), some (.int l), some (.int (n : Nat)), some (.ref psn), some (.int (e / l)), z13, z14, z15, z16, z17, z18, z19, z20, z21, z22, z23, z24, z25, z26]) ∧ Bs Ps d HB (OK4 os L l n psn q) pw (fwI fw L wr l n i) L H
def PB1 (Ps : List Addr) (d : Addr) (HB : Hp) (os : List (Addr × HO)) (pc pr pt pw : Addr) (fw : Int → List Str) (L : List Int) (wr : Str) (l : Int) (n : Nat) (psn q : Addr) (i : Nat) (e : Int) : L2.St → Hp → Prop := fun σ H => (∃ z0 z3 z7 z12 z14 z15 z16 z17 z18 z19 z20 z21 z22 z23 z24 z25 z26, σ = [z0, some (.ref d), some (.ref pc), z3, some (.ref pr), some (.ref pt), some (.ref pw), z7, some (.str wr), some (.int l), some (.int (n : Nat)), some (.ref psn), z12, some (.int e), z14, z15, z16, z17, z18, z19, z20, z21, z22, z23, z24, z25, z26]) ∧ Bs Ps d HB (OK4 os L l n psn q) pw (fwI fw L wr l n i) L H
theorem l4b (Z : Callees P w K mg base R Pp C0 Ps k) (T : Txt K mg R Pp C0) {os : List (Addr × HO)} {fw : Int → List Str} {L : List Int} {pc pr pt pw psn q : Addr} {wr : Str} {l : Int} {n i : Nat} {e : Int} (hT : Tm L) (l0 : 0 < l) (l1 : l ≤ 1000) (ho : (pt, .lst (L.map V.int)) ∈ os) (he : (lastN n (ends (fun t => t / l) L))[i]? = some e) :
    Step (LX0 P w K mg base f c A outer s H0 E) (lc4b 0) (PB0 Ps d HB os pc pr pt pw fw L wr l n psn q i e) (PB1 Ps d HB os pc pr pt pw fw L wr l n psn q i e) := by
  refine ⟨_, ps_set (i := 13) sc_law.nd rfl (.inl rfl) (pe_callB (cr_max rfl) (by rfl) T.z_max (by decide +kernel) (pa_cons (pe_lc (own := [("time", 7)]) rfl sc_law.nd (pi_list (pv 5)) (blkOk_by (by show blkC Nlaw (defScope s_law) _ _ = true; decide +kernel)) (fun _ _ _ _ _ => (pg_name (i := 7) sc_law.nd rfl (.inl rfl))) (fun _ _ _ _ _ => (pts_one (pt_cmpR op_eq (pe_op op_fdiv (pv 7) (pv 9)) (pv 12) (nomark _)))) (fun _ _ _ _ _ => (pv 7))) pa_nil)), fun D σ H hp hn => ?_⟩
  obtain ⟨⟨z0, z3, z7, z13, z14, z15, z16, z17, z18, z19, z20, z21, z22, z23, z24, z25, z26, rfl⟩, g⟩ := hp
  obtain ⟨ss, l8, lo⟩ := hT
  obtain ⟨et, etd, etP⟩ := g.hk.ob (pt, .lst (L.map V.int)) (List.mem_cons_of_mem _ (List.mem_cons_of_mem _ ho))
  have hee := mem_ends.mp (lastN_sub (List.mem_of_getElem? he))
  show tLc (iList K (tVar 5)) (gName 7) _ (tVar 7) [7] [z0, some (.ref d), some (.ref pc), z3, some (.ref pr), some (.ref pt), some (.ref pw), z7, some (.str wr), some (.int l), some (.int (n : Nat)), some (.ref psn), some (.int (e / l)), z13, z14, z15, z16, z17, z18, z19, z20, z21, z22, z23, z24, z25, z26] H (fun v H1 => rMax K [v] H1 (fun v G' => gName 13 v [z0, some (.ref d), some (.ref pc), z3, some (.ref pr), some (.ref pt), some (.ref pw), z7, some (.str wr), some (.int l), some (.int (n : Nat)), some (.ref psn), some (.int (e / l)), z13, z14, z15, z16, z17, z18, z19, z20, z21, z22, z23, z24, z25, z26] G' D.nx))
  refine filtC (fun t => decide (t / l = e / l)) (by show 7 < 27; decide) g.hk.tb et (by omega) (fun R r => ⟨_, rfl, r⟩) (fun t ht G' gw R r => ?_) (fun D' G' gw hD hG => ?_)
  · simp only [List.set_cons_zero, List.set_cons_succ]
    refine ⟨_, rfl, _, rfl, ?_⟩
    walk_at "ev8"
    refine ⟨⟨l0, by omega⟩, rfl, ?_⟩
    have r := r G' (Gw.refl gw.1)
    by_cases m : t / l = e / l
    · simp only [m, decide_true] at r ⊢
      exact r
    · simp only [m, decide_false] at r ⊢
      exact r
  · have hem : e ∈ L.filter fun t => decide (t / l = e / l) := List.mem_filter.mpr ⟨hee.1, by simp⟩
    refine ⟨D', _, rfl, SqL.of hG, List.length_pos_of_mem hem, fun m m1 m2 => ?_⟩
    have h1 := m2 e hem
    obtain ⟨h2, h3⟩ := List.mem_filter.mp m1
    have h3 : m / l = e / l := by simpa using h3
    have em : m = e := by
      by_cases lt : e < m
      · exact absurd h3 (hee.2 m h2 lt)
      · omega
    subst em
    exact hn _ _ ⟨⟨_, _, _, _, _, _, _, _, _, _, _, _, _, _, _, _, _, rfl⟩, g.gw gw⟩
theorem l4c (T : Txt K mg R Pp C0) (hr : Room k (A.deeper (envOfC "law" (defScope s_law) s.heap.objs.size f (.ref c)))) {os : List (Addr × HO)} {fw : Int → List Str} {L : List Int} {pc pr pt pw psn q : Addr} {wr : Str} {l : Int} {n i : Nat} {e : Int} (hT : Tm L) (hfw : ∀ t ∈ L, (fw t).length ≤ 10) (hos : ∀ x ∈ os, ∀ kv, x.2 ≠ .dK kv) (he : (lastN n (ends (fun t => t / l) L))[i]? = some e) :
    Step (LX0 P w K mg base f c A outer s H0 E) (lc4b 1) (PB1 Ps d HB os pc pr pt pw fw L wr l n psn q i e) (PB Ps d HB os pc pr pt pw fw L wr l n psn q (i + 1)) := by
  have hu := hr.units
  have hu1 : (A.deeper (envOfC "law" (defScope s_law) s.heap.objs.size f (.ref c))).units + 1 < cLine := by omega
  refine ⟨_, ps_dput hu1 (pv 6) (pv 13) (pe_op op_cat (pe_dget hu1 (pv 6) (pv 13) (fun _ _ => rfl)) (pe_lst (pa_cons (pv 8) pa_nil))) rfl, fun D σ H hp hn => ?_⟩
  obtain ⟨⟨z0, z3, z7, z12, z14, z15, z16, z17, z18, z19, z20, z21, z22, z23, z24, z25, z26, rfl⟩, g⟩ := hp
  obtain ⟨ss, l8, lo⟩ := hT
  obtain ⟨ad, hw, hl⟩ := g.wy
  have heL : e ∈ L := (mem_ends.mp (lastN_sub (List.mem_of_getElem? he))).1
  have keys : ((L.map fun t => ((.inl t : Key), V.ref (ad t))).map (·.1)).Nodup := by
    rw [List.map_map]
    exact List.pairwise_map.mpr (List.Pairwise.imp (fun {a b} h e => h (Sum.inl.inj e)) ss.nodup)
  have ev : valV (L.map fun t => ((.inl t : Key), V.ref (ad t))) (.inl e) = some (.ref (ad e)) := val_nodup keys (.inl e, .ref (ad e)) (List.mem_map.mpr ⟨e, heL, rfl⟩)
  have hle := hl e heL
  refine ⟨_, rfl, _, rfl, pw, .ref (ad e), rfl, ?_, ?_⟩
  · have := DGet.k (k := .inl e) hw
    rw [ev] at this
    exact this
  · refine ⟨_, rfl, (by show 1 ≤ sizeLine; decide), fun u hu' => ?_⟩
    have nPe : ad e ∉ Ps := g.hk.tb.not hle fun _ z => by cases z
    have gu := (Gw.refl g.hk.tb).new (o := .lst [V.str wr]) hu'
    have neu : ad e ≠ u := ne_of_none hle hu'
    have enot : e ∉ (lastN n (ends (fun t => t / l) L)).take i := fun z => by
      have := take_lt (lastN_ss (ends_ss ss)) he e z
      omega
    have ek : (lastN n (ends (fun t => t / l) L)).take (i + 1) = (lastN n (ends (fun t => t / l) L)).take i ++ [e] := by rw [List.take_add_one, he]; rfl
    have fe : fwI fw L wr l n i e = fw e := by
      unfold fwI
      unfold wd
      rw [if_neg enot, List.append_nil]
    refine ⟨ad e, u, _, _, rfl, rfl, by rw [upd_ne neu]; exact hle, upd_same, ?_, fun r hr' => ?_⟩
    · rw [List.length_map, fe]
      have h1 := hfw e heL
      have h2 : 100 ≤ sizeLine := by decide
      have h3 : [V.str wr].length = 1 := rfl
      omega
    have gr := gu.new (o := .lst ((fwI fw L wr l n i e).map V.str ++ [V.str wr])) hr'
    have hw' := gr.2 _ _ g.nP hw
    refine ⟨_, rfl, _, rfl, pw, _, rfl, DPut.k (k := .inl e) hw' ?_, ?_⟩
    · rw [List.length_map]
      have h2 : 100 ≤ sizeLine := by decide
      omega
    have npr : r ≠ pw := fun z => by
      have := upd_none hr'
      have h3 := ne_of_none (gu.2 _ _ g.nP hw) hr'
      exact h3 z.symm
    have ep : putK (L.map fun t => ((.inl t : Key), V.ref (ad t))) (.inl e) (.ref r) = L.map fun t => ((.inl t : Key), V.ref (if t = e then r else ad t)) := by
      unfold putK
      rw [if_pos, List.map_map]
      · refine List.map_congr_left fun t ht => ?_
        show (if (Sum.inl t : Key) = Sum.inl e then ((Sum.inl t : Key), V.ref r) else (Sum.inl t, V.ref (ad t))) = _
        by_cases m : t = e
        · rw [if_pos (by rw [m]), if_pos m]
        · rw [if_neg (fun z => m (Sum.inl.inj z)), if_neg m]
      · rw [List.any_eq_true]
        exact ⟨_, List.mem_map.mpr ⟨e, heL, rfl⟩, by simp⟩
    rw [ep]
    have gd := (Gd.refl g.hk.tb g.hk.gd.dice).gw gr
    have hk2 := g.hk.gw gr
    refine hn _ _ ⟨⟨_, _, _, _, _, _, _, _, _, _, _, _, _, _, _, _, _, _, rfl⟩, ⟨⟨hk2.gd.set g.nB g.nP g.nd, fun x hx => ?_⟩, ⟨fun t => if t = e then r else ad t, upd_same, fun t ht => ?_⟩, g.nd, g.nP, g.nB⟩⟩
    · obtain ⟨o1, o2, o3⟩ := hk2.ob x hx
      have ne : x.1 ≠ pw := fun z => by
        have h0 := (g.hk.ob x hx).1
        rw [z, hw] at h0
        have h0 := Option.some.inj h0
        rcases List.mem_cons.mp hx with rfl | hx
        · cases h0
        · rcases List.mem_cons.mp hx with rfl | hx
          · cases h0
          · exact hos x hx _ h0.symm
      exact ⟨by rw [upd_ne ne]; exact o1, o2, o3⟩
    · by_cases m : t = e
      · subst m
        simp only [if_true]
        rw [upd_ne npr, upd_same, fe]
        unfold fwI wd
        rw [if_pos (by rw [ek]; simp), List.map_append]
        rfl
      · simp only [if_neg m]
        have h1 := hl t ht
        have npa : ad t ≠ pw := fun z => by
          rw [z, hw] at h1
          cases h1
        rw [upd_ne npa]
        have h2 := gr.2 _ _ (g.hk.tb.not h1 fun _ z => by cases z) h1
        rw [h2]
        unfold fwI wd
        have em : (t ∈ (lastN n (ends (fun t => t / l) L)).take (i + 1)) ↔ (t ∈ (lastN n (ends (fun t => t / l) L)).take i) := by
          rw [ek, List.mem_append, List.mem_singleton]
          exact ⟨fun z => z.resolve_right m, .inl⟩
        simp only [em]
end
end K8

set_option maxRecDepth 100000
set_option maxHeartbeats 4000000
namespace K8
open PySem PySem.Spec PyProof.Rows L2
open XT (Sm pe_msg)
open SkE (pmk_own1)
open LamX (Tabs TabS CodeO ExtN codeO_ne)
section
variable {P : Program} {w : World} {K : PySem.W.Frag} {mg : Str → Option Value} {base : Heap} {R Pp C0 : Addr} {Ps : List Addr}
variable {f c d : Addr} {k : Nat} {A : Around} {outer : List Env} {s : Shared} {H0 HB : Hp} {E : XK}
theorem two4 : forB (lc4 1) = [lc4b 0, lc4b 1] := rfl
/-- the kind told -/
def fwK (fw : Int → List Str) (L : List Int) (wr : Str) (l : Int) (n : Nat) : Int → List Str := fun t => fw t ++ wd (t ∈ lastN n (ends (fun t => t / l) L)) wr
theorem l4in (Z : Callees P w K mg base R Pp C0 Ps k) (T : Txt K mg R Pp C0) (hr : Room k (A.deeper (envOfC "law" (defScope s_law) s.heap.objs.size f (.ref c)))) {os : List (Addr × HO)} {fw : Int → List Str} {L : List Int} {pc pr pt pw psn : Addr} {wr : Str} {l : Int} {n : Nat} (hT : Tm L) (l0 : 0 < l) (l1 : l ≤ 1000) (ho : (pt, .lst (L.map V.int)) ∈ os) (hfw : ∀ t ∈ L, (fw t).length ≤ 10) (hos : ∀ x ∈ os, ∀ kv, x.2 ≠ .dK kv) :
    Step (LX0 P w K mg base f c A outer s H0 E) (lc4 1) (PK1 Ps d HB os pc pr pt pw fw L wr l n psn) (PK0 Ps d HB os pc pr pt pw (fwK fw L wr l n) L wr l n) := by
  have body := Steps.all (X := LX0 P w K mg base f c A outer s H0 E) (ls := forB (lc4 1)) (α := Nat × Int × Addr) (Pre := fun y σ H => ((lastN n (ends (fun t => t / l) L))[y.1]? = some y.2.1) ∧ PB0 Ps d HB os pc pr pt pw fw L wr l n psn y.2.2 y.1 y.2.1 σ H) (Pos := fun y => PB Ps d HB os pc pr pt pw fw L wr l n psn y.2.2 (y.1 + 1)) (fun y => by
    rw [two4]
    exact Steps.of fun he => Steps.cons (l4b Z T hT l0 l1 ho he) (Steps.one (l4c T hr hT hfw hos he)))
  obtain ⟨tb, hb, kb⟩ := body
  refine ⟨_, ps_for (passes_of rfl) rfl (pi_list (pe_slice sl_list (pv 11) (po_some (pe_callB (call_max2 rfl) (by rfl) T.z_max (by decide +kernel) (pa_cons pe_int (pa_cons (pe_op op_sub (pe_callB (call_lenK (K0 := K) rfl) (by rfl) T.z_len (by decide +kernel) (pa_cons (pv 11) pa_nil)) (pv 10)) pa_nil)))) po_none)) (pg_name (i := 12) sc_law.nd rfl (.inr rfl)) hb, fun D σ H hp hn => ?_⟩
  obtain ⟨⟨z0, z3, z7, z12, z13, z14, z15, z16, z17, z18, z19, z20, z21, z22, z23, z24, z25, z26, rfl⟩, g⟩ := hp
  obtain ⟨es, esd, esP⟩ := g.hk.ob _ (List.mem_cons_self ..)
  refine ⟨_, rfl, _, rfl, psn, _, rfl, .inl (SqL.of es), _, rfl, _, _, rfl, rfl, _, _, rfl, _, rfl, psn, _, rfl, SqL.of es, fun q hq => ?_⟩
  have eq : cutV (((ends (fun t => t / l) L).map fun t => t / l).map V.int) (some (if ((((((ends (fun t => t / l) L).map fun t => t / l).map V.int).length : Nat) : Int) - (n : Nat)) > 0 then (((((ends (fun t => t / l) L).map fun t => t / l).map V.int).length : Nat) : Int) - (n : Nat) else 0)) none = ((lastN n (ends (fun t => t / l) L)).map fun t => t / l).map V.int := by
    rw [mx0, cutV_drop]
    unfold lastN
    rw [List.length_map, List.length_map, List.map_drop, List.map_drop]
  rw [eq]
  have gw := (Gw.refl g.hk.tb).new (o := .lst (((lastN n (ends (fun t => t / l) L)).map fun t => t / l).map V.int)) hq
  have f0 : fw = fwI fw L wr l n 0 := by
    funext t
    unfold fwI wd
    rw [if_neg (by simp), List.append_nil]
  have b0 : Bs Ps d HB (OK4 os L l n psn q) pw (fwI fw L wr l n 0) L (upd H q (.lst (((lastN n (ends (fun t => t / l) L)).map fun t => t / l).map V.int))) := by
    rw [← f0]
    exact (g.gw gw).add upd_same (g.hk.nd hq) (g.hk.nP hq)
  refine ⟨q, rfl, ⟨_, SqL.of upd_same⟩, for_list (xs := ((lastN n (ends (fun t => t / l) L)).map fun t => t / l).map V.int) (fun i σ H' => PB Ps d HB os pc pr pt pw fw L wr l n psn q i σ H') ⟨⟨_, _, _, _, _, _, _, _, _, _, _, _, _, _, _, _, _, _, rfl⟩, b0⟩ ?_ ?_ ?_⟩
  · rintro i σ H' hi ⟨_, gi⟩
    exact SqL.of (gi.hk.ob _ (List.mem_cons_self ..)).1
  · rintro i x σ H' hx ⟨⟨z0, z3, z7, z12, z13, z14, z15, z16, z17, z18, z19, z20, z21, z22, z23, z24, z25, z26, rfl⟩, gi⟩
    rw [List.getElem?_map, List.getElem?_map] at hx
    obtain ⟨y, hy, rfl⟩ := Option.map_eq_some_iff.mp hx
    obtain ⟨e, he, rfl⟩ := Option.map_eq_some_iff.mp hy
    exact kb (i, e, q) _ _ _ ⟨he, ⟨_, _, _, _, _, _, _, _, _, _, _, _, _, _, _, _, _, rfl⟩, gi⟩ fun σ' H2 hz => hz
  · rintro σ H' ⟨⟨z0, z3, z7, z12, z13, z14, z15, z16, z17, z18, z19, z20, z21, z22, z23, z24, z25, z26, rfl⟩, gi⟩
    have e1 : fwI fw L wr l n (((lastN n (ends (fun t => t / l) L)).map fun t => t / l).map V.int).length = fwK fw L wr l n := by
      unfold fwI fwK
      rw [List.length_map, List.length_map, List.take_length]
    rw [e1] at gi
    exact hn _ _ ⟨⟨_, _, _, _, _, _, _, _, _, _, _, _, _, _, _, _, _, _, _, rfl⟩, gi.sub fun x hx => List.mem_cons_of_mem _ (List.mem_cons_of_mem _ hx)⟩
/-! the three kinds -/
theorem two4o : forB (lb 4) = [lc4 0, lc4 1] := rfl
def kndW : Nat → Str
  | 0 => Str.ofString "day"
  | 1 => Str.ofString "week"
  | _ => Str.ofString "month"
def kndL : Nat → Int
  | 0 => 24
  | 1 => 168
  | _ => 672
def kndN (c : Cn) : Nat → Nat
  | 0 => c.d
  | 1 => c.w
  | _ => c.m
theorem kndL_ok : ∀ i, 0 < kndL i ∧ kndL i ≤ 1000
  | 0 => by decide
  | 1 => by decide
  | n + 2 => ⟨by show (0 : Int) < 672; decide, by show (672 : Int) ≤ 1000; decide⟩
theorem knd_wd (cn : Cn) (L : List Int) : ∀ i, i < 3 → fwK (fun t => Wd cn L t i) L (kndW i) (kndL i) (kndN cn i) = fun t => Wd cn L t (i + 1)
  | 0, _ => rfl
  | 1, _ => rfl
  | 2, _ => rfl
  | n + 3, h => absurd h (by omega)
theorem gTup3 {i j m : Nat} {p : Addr} {v y z : V} {σ : L2.St} {H : Hp} {Q : L2.St → Hp → Prop} (h : SqT K H p [v, y, z]) (q : Q (((σ.set i (some v)).set j (some y)).set m (some z)) H) : gTup K 3 (gCons (gName i) (gCons (gName j) (gCons (gName m) gNil))) (.ref p) σ H Q := ⟨p, _, rfl, h, rfl, _, _, rfl, _, _, rfl, _, _, rfl, rfl, q⟩
theorem law4 (Z : Callees P w K mg base R Pp C0 Ps k) (T : Txt K mg R Pp C0) (hr : Room k (A.deeper (envOfC "law" (defScope s_law) s.heap.objs.size f (.ref c)))) {cn : Cn} {L : List Int} {pc pr dr pt pw : Addr} (hT : Tm L) :
    Step (LX0 P w K mg base f c A outer s H0 E) (lb 4) (Pre4 Ps d HB C0 cn L pc pr dr pt pw (fun t => Wd cn L t 0)) (Pre4 Ps d HB C0 cn L pc pr dr pt pw (fun t => WD cn L t)) := by
  have hosO : ∀ x ∈ O3 C0 cn L pc pr dr pt, ∀ kv, x.2 ≠ .dK kv := by
    intro x hx kv
    unfold O3 O2 O1 at hx
    simp only [List.mem_cons, List.not_mem_nil, or_false] at hx
    rcases hx with rfl | rfl | rfl <;> (intro z; cases z)
  have body := Steps.all (X := LX0 P w K mg base f c A outer s H0 E) (ls := forB (lb 4)) (α := Nat × List (Addr × HO)) (Pre := fun y σ H => ((pt, .lst (L.map V.int)) ∈ y.2 ∧ ∀ x ∈ y.2, ∀ kv, x.2 ≠ .dK kv) ∧ PK0 Ps d HB y.2 pc pr pt pw (fun t => Wd cn L t y.1) L (kndW y.1) (kndL y.1) (kndN cn y.1) σ H) (Pos := fun y => PK0 Ps d HB y.2 pc pr pt pw (fwK (fun t => Wd cn L t y.1) L (kndW y.1) (kndL y.1) (kndN cn y.1)) L (kndW y.1) (kndL y.1) (kndN cn y.1)) (fun y => by
    rw [two4o]
    refine Steps.of fun hy => Steps.cons (l4a Z T hr hT (kndL_ok y.1).1 (kndL_ok y.1).2 hy.1) (Steps.ex fun psn => Steps.one (l4in Z T hr hT (kndL_ok y.1).1 (kndL_ok y.1).2 hy.1 (fun t _ => Wd_len cn L t y.1) hy.2)))
  obtain ⟨tb, hb, kb⟩ := body
  refine ⟨_, ps_for (passes_of rfl) rfl (pi_list (pe_lst (pa_cons (pe_tup (pa_cons pe_str (pa_cons pe_int (pa_cons (pe_ix ix_list (pv 2) pe_int (fun _ _ => rfl)) pa_nil)))) (pa_cons (pe_tup (pa_cons pe_str (pa_cons pe_int (pa_cons (pe_ix ix_list (pv 2) pe_int (fun _ _ => rfl)) pa_nil)))) (pa_cons (pe_tup (pa_cons pe_str (pa_cons pe_int (pa_cons (pe_ix ix_list (pv 2) pe_int (fun _ _ => rfl)) pa_nil)))) pa_nil))))) (pg_tup rfl (pgs_cons (pg_name (i := 8) sc_law.nd rfl (.inl rfl)) (pgs_cons (pg_name (i := 9) sc_law.nd rfl (.inr rfl)) (pgs_cons (pg_name (i := 10) sc_law.nd rfl (.inl rfl)) pgs_nil)))) hb, fun D σ H hp hn => ?_⟩
  obtain ⟨⟨z0, z3, z7, z8, z9, z10, z11, z12, z13, z14, z15, z16, z17, z18, z19, z20, z21, z22, z23, z24, z25, z26, rfl⟩, hk, wy, npd, npP, npB⟩ := hp
  have g : Bs Ps d HB (O3 C0 cn L pc pr dr pt) pw (fun t => Wd cn L t 0) L H := ⟨hk, wy, npd, npP, npB⟩
  have ec := g.hk.at_ (i := 2) rfl
  have ecP := g.hk.atP (i := 2) rfl
  refine ⟨_, rfl, pc, _, 1, _, rfl, rfl, SqL.of ec, rfl, (by show 3 ≤ sizeLine; decide), fun t1 h1 => ?_⟩
  have g1 := (g.gw ((Gw.refl g.hk.tb).new (o := .tup [.str (kndW 0), .int 24, .int (cn.d : Nat)]) h1)).add upd_same (g.hk.nd h1) (g.hk.nP h1)
  have ec1 := g1.hk.at_ (i := 3) rfl
  refine ⟨_, rfl, pc, _, 2, _, rfl, rfl, SqL.of ec1, rfl, (by show 3 ≤ sizeLine; decide), fun t2 h2 => ?_⟩
  have g2 := (g1.gw ((Gw.refl g1.hk.tb).new (o := .tup [.str (kndW 1), .int 168, .int (cn.w : Nat)]) h2)).add upd_same (g1.hk.nd h2) (g1.hk.nP h2)
  have ec2 := g2.hk.at_ (i := 4) rfl
  refine ⟨_, rfl, pc, _, 3, _, rfl, rfl, SqL.of ec2, rfl, (by show 3 ≤ sizeLine; decide), fun t3 h3 => ?_⟩
  have g3 := (g2.gw ((Gw.refl g2.hk.tb).new (o := .tup [.str (kndW 2), .int 672, .int (cn.m : Nat)]) h3)).add upd_same (g2.hk.nd h3) (g2.hk.nP h3)
  refine ⟨(by show 3 ≤ sizeLine; decide), fun q hq => ?_⟩
  have g4 := (g3.gw ((Gw.refl g3.hk.tb).new (o := .lst [.ref t1, .ref t2, .ref t3]) hq)).add upd_same (g3.hk.nd hq) (g3.hk.nP hq)
  have hT3 : (pt, HO.lst (L.map V.int)) ∈ O3 C0 cn L pc pr dr pt := List.mem_cons_self ..
  refine ⟨q, rfl, ⟨_, SqL.of upd_same⟩, for_list (xs := [.ref t1, .ref t2, .ref t3]) (fun i σ H' => (∃ z0 z3 z7 z8 z9 z10 z11 z12 z13 z14 z15 z16 z17 z18 z19 z20 z21 z22 z23 z24 z25 z26, σ = [z0, some (.ref d), some (.ref pc), z3, some (.ref pr), some (.ref pt), some (.ref pw), z7, z8, z9, z10, z11, z12, z13, z14, z15, z16, z17, z18, z19, z20, z21, z22, z23, z24, z25, z26]) ∧ Bs Ps d HB ((q, .lst [.ref t1, .ref t2, .ref t3]) :: (t3, .tup [.str (kndW 2), .int 672, .int (cn.m : Nat)]) :: (t2, .tup [.str (kndW 1), .int 168, .int (cn.w : Nat)]) :: (t1, .tup [.str (kndW 0), .int 24, .int (cn.d : Nat)]) :: O3 C0 cn L pc pr dr pt) pw (fun t => Wd cn L t i) L H') ⟨⟨_, _, _, _, _, _, _, _, _, _, _, _, _, _, _, _, _, _, _, _, _, _, rfl⟩, g4⟩ ?_ ?_ ?_⟩
  · rintro i σ H' hi ⟨_, gi⟩
    exact SqL.of (gi.hk.ob _ (List.mem_cons_self ..)).1
  · rintro i x σ H' hx ⟨⟨z0, z3, z7, z8, z9, z10, z11, z12, z13, z14, z15, z16, z17, z18, z19, z20, z21, z22, z23, z24, z25, z26, rfl⟩, gi⟩
    have sel : ∃ tj, x = .ref tj ∧ H' tj = some (.tup [.str (kndW i), .int (kndL i), .int (kndN cn i : Nat)]) ∧ i < 3 := by
      match i, hx with
      | 0, hx => exact ⟨t1, (Option.some.inj hx).symm, gi.hk.at_ (i := 3) rfl, by decide⟩
      | 1, hx => exact ⟨t2, (Option.some.inj hx).symm, gi.hk.at_ (i := 2) rfl, by decide⟩
      | 2, hx => exact ⟨t3, (Option.some.inj hx).symm, gi.hk.at_ (i := 1) rfl, by decide⟩
      | n + 3, hx => simp at hx
    obtain ⟨tj, rfl, etj, hi3⟩ := sel
    refine gTup3 (SqT_of etj) ?_
    refine kb (i, _) _ _ _ ⟨⟨?_, ?_⟩, ⟨_, _, _, _, _, _, _, _, _, _, _, _, _, _, _, _, _, _, _, rfl⟩, gi⟩ fun σ' H2 hz => ?_
    · exact List.mem_cons_of_mem _ (List.mem_cons_of_mem _ (List.mem_cons_of_mem _ (List.mem_cons_of_mem _ hT3)))
    · intro x hx kv
      rcases List.mem_cons.mp hx with rfl | hx
      · intro z; cases z
      rcases List.mem_cons.mp hx with rfl | hx
      · intro z; cases z
      rcases List.mem_cons.mp hx with rfl | hx
      · intro z; cases z
      rcases List.mem_cons.mp hx with rfl | hx
      · intro z; cases z
      exact hosO x hx kv
    · obtain ⟨⟨z0, z3, z7, z11, z12, z13, z14, z15, z16, z17, z18, z19, z20, z21, z22, z23, z24, z25, z26, rfl⟩, gz⟩ := hz
      rw [knd_wd cn L i hi3] at gz
      exact ⟨⟨_, _, _, _, _, _, _, _, _, _, _, _, _, _, _, _, _, _, _, _, _, _, rfl⟩, gz⟩
  · rintro σ H' ⟨⟨z0, z3, z7, z8, z9, z10, z11, z12, z13, z14, z15, z16, z17, z18, z19, z20, z21, z22, z23, z24, z25, z26, rfl⟩, gi⟩
    have gf := gi.sub (os' := O3 C0 cn L pc pr dr pt) fun x hx => List.mem_cons_of_mem _ (List.mem_cons_of_mem _ (List.mem_cons_of_mem _ (List.mem_cons_of_mem _ hx)))
    exact hn _ _ ⟨⟨_, _, _, _, _, _, _, _, _, _, _, _, _, _, _, _, _, _, _, _, _, _, rfl⟩, gf.hk, gf.wy, gf.nd, gf.nP, gf.nB⟩
end
end K8

set_option maxRecDepth 100000
set_option maxHeartbeats 4000000
namespace K8
open PySem PySem.Spec PyProof.Rows L2
open XT (Sm pe_msg)
open SkE (pmk_own1)
open LamX (Tabs TabS CodeO ExtN codeO_ne)
section
theorem pe_revLK {X : Cx} {K0 : PySem.W.Frag} {e : Expr} {te : TE} {k : Nat} {p1 p2 p3 pos : Pos} (hK : X.K = K0) (he : PE X e te) : PE X (.Subscript e (.Slice none none (some (.UnaryOp .USub (.Constant (.int 1) k p1) p2)) p3) pos) (tRevL K0 te) := by
  subst hK
  exact pe_revL he
variable {P : Program} {w : World} {K : PySem.W.Frag} {mg : Str → Option Value} {base : Heap} {R Pp C0 : Addr} {Ps : List Addr}
variable {f c d : Addr} {k : Nat} {A : Around} {outer : List Env} {s : Shared} {H0 HB : Hp} {E : XK}
def O4 (C0 : Addr) (c : Cn) (L : List Int) (pc pr dr pt ps : Addr) : List (Addr × HO) := (ps, .lst ((ST c L).map V.int)) :: O3 C0 c L pc pr dr pt
def Pre5 (Ps : List Addr) (d : Addr) (HB : Hp) (C0 : Addr) (c : Cn) (L : List Int) (pc pr dr pt pw ps : Addr) : L2.St → Hp → Prop := fun σ H => (∃ z0 z3 z7 z8 z9 z10 z11 z12 z13 z15 z16 z17 z18 z19 z20 z21 z22 z23 z24 z25 z26, σ = [z0, some (.ref d), some (.ref pc), z3, some (.ref pr), some (.ref pt), some (.ref pw), z7, z8, z9, z10, z11, z12, z13, some (.ref ps), z15, z16, z17, z18, z19, z20, z21, z22, z23, z24, z25, z26]) ∧ Bs Ps d HB (O4 C0 c L pc pr dr pt ps) pw (fun t => WD c L t) L H
theorem Bs.nw {os : List (Addr × HO)} {pw l : Addr} {o : HO} {fw : Int → List Str} {L : List Int} {H : Hp} (h : Bs Ps d HB os pw fw L H) (n : H l = none) : Bs Ps d HB os pw fw L (upd H l o) := h.gw ((Gw.refl h.hk.tb).new n)
theorem Bs.nwA {os : List (Addr × HO)} {pw l : Addr} {o : HO} {fw : Int → List Str} {L : List Int} {H : Hp} (h : Bs Ps d HB os pw fw L H) (n : H l = none) : Bs Ps d HB ((l, o) :: os) pw fw L (upd H l o) := (h.nw n).add upd_same (h.hk.nd n) (h.hk.nP n)
theorem tms_of {H : Hp} {q : Addr} {ns L : List Int} (hT : Tm L) (h : H q = some (.lst (ns.map V.int))) (hm : ∀ x, x ∈ L ↔ x ∈ ns) (ln : ns.length ≤ 40) : Tms K H q ns L := ⟨.inl (SqL.of h), hT.1, hm, ln, fun x hx => by
  have := hT.2.2 x ((hm x).2 hx)
  omega⟩
theorem valWhy {L : List Int} (ss : SS L) {ad : Int → Addr} {t : Int} (ht : t ∈ L) : valV (L.map fun t => ((.inl t : Key), V.ref (ad t))) (.inl t : Key) = some (.ref (ad t)) := by
  refine val_nodup ?_ ((.inl t : Key), V.ref (ad t)) (List.mem_map.mpr ⟨t, ht, rfl⟩)
  rw [List.map_map]
  exact List.pairwise_map.mpr (List.Pairwise.imp (fun {a b} h e => h (Sum.inl.inj e)) ss.nodup)
theorem getWhy {H : Hp} {pw : Addr} {L : List Int} (ss : SS L) {ad : Int → Addr} (hw : H pw = some (.dK (L.map fun t => ((.inl t : Key), V.ref (ad t))))) {t : Int} (ht : t ∈ L) : DGet H pw (.int t) (some (.ref (ad t))) := by
  have := DGet.k (k := .inl t) hw
  rw [valWhy ss ht] at this
  exact this
theorem law5 (T : Txt K mg R Pp C0) (hr : Room k (A.deeper (envOfC "law" (defScope s_law) s.heap.objs.size f (.ref c)))) {cn : Cn} {L : List Int} {pc pr dr pt pw : Addr} (hT : Tm L) :
    Step (LX0 P w K mg base f c A outer s H0 E) (lb 5) (Pre4 Ps d HB C0 cn L pc pr dr pt pw (fun t => WD cn L t)) (fun σ H => ∃ ps, Pre5 Ps d HB C0 cn L pc pr dr pt pw ps σ H) := by
  have hu := hr.units
  have hu1 : (A.deeper (envOfC "law" (defScope s_law) s.heap.objs.size f (.ref c))).units + 1 < cLine := by omega
  refine ⟨_, ps_set (i := 14) sc_law.nd rfl (.inr rfl) (pe_lc (own := [("time", 7)]) rfl sc_law.nd (pi_list (pv 5)) (blkOk_by (by show blkC Nlaw (defScope s_law) _ _ = true; decide +kernel)) (fun _ _ _ _ _ => (pg_name (i := 7) sc_law.nd rfl (.inl rfl))) (fun _ _ _ _ _ => (pts_one (pt_cmpR (r := rNeD K) (op_neK rfl hr.units) (pe_dget hu1 (pv 6) (pv 7) (fun _ _ => rfl)) (pe_lst pa_nil) (nomark _)))) (fun _ _ _ _ _ => (pv 7))), fun D σ H hp hn => ?_⟩
  obtain ⟨⟨z0, z3, z7, z8, z9, z10, z11, z12, z13, z14, z15, z16, z17, z18, z19, z20, z21, z22, z23, z24, z25, z26, rfl⟩, hk, wy, npd, npP, npB⟩ := hp
  have g : Bs Ps d HB (O3 C0 cn L pc pr dr pt) pw (fun t => WD cn L t) L H := ⟨hk, wy, npd, npP, npB⟩
  have et := g.hk.at_ (i := 0) rfl
  have l8 := hT.2.1
  show tLc (iList K (tVar 5)) (gName 7) _ (tVar 7) [7] [z0, some (.ref d), some (.ref pc), z3, some (.ref pr), some (.ref pt), some (.ref pw), z7, z8, z9, z10, z11, z12, z13, z14, z15, z16, z17, z18, z19, z20, z21, z22, z23, z24, z25, z26] H (fun v G' => gName 14 v [z0, some (.ref d), some (.ref pc), z3, some (.ref pr), some (.ref pt), some (.ref pw), z7, z8, z9, z10, z11, z12, z13, z14, z15, z16, z17, z18, z19, z20, z21, z22, z23, z24, z25, z26] G' D.nx)
  refine filtC (fun t => decide (WD cn L t ≠ [])) (by show 7 < 27; decide) g.hk.tb et (by omega) (fun R r => ⟨_, rfl, r⟩) (fun t ht G' gw Rk rk => ?_) (fun D' G' gw hD hG => ?_)
  · obtain ⟨ad, hw, hl⟩ := (g.gw gw).wy
    refine ⟨_, rfl, _, rfl, pw, _, rfl, getWhy hT.1 hw ht, (by show 0 ≤ sizeLine; decide), fun e he => ?_⟩
    have h1 := hl t ht
    refine rNe_lS (ns := WD cn L t) (ms := []) strOk_WD (fun x hx => nomatch hx) (SqL.of (by rw [upd_ne (ne_of_none h1 he)]; exact h1)) (SqL.of upd_same) ⟨_, rfl, ?_⟩
    have r := rk _ ((Gw.refl gw.1).new (o := .lst []) he)
    by_cases m : WD cn L t = []
    · simp only [m, ne_eq, not_true, decide_true, decide_false, Bool.not_true] at r ⊢
      exact r
    · simp only [m, ne_eq, not_false_iff, decide_true, decide_false, Bool.not_false] at r ⊢
      exact r
  · have ef : (L.filter fun t => decide (WD cn L t ≠ [])) = ST cn L := by
      unfold ST
      refine List.filter_congr fun t ht => ?_
      refine decide_eq_decide.mpr ?_
      rw [← mem_st]
      have := @WD_nil cn L t
      constructor
      · intro z
        exact Classical.not_not.mp fun y => z (this.mpr y)
      · intro z y
        exact this.mp y z
    rw [ef] at hG
    exact hn _ _ ⟨D', ⟨_, _, _, _, _, _, _, _, _, _, _, _, _, _, _, _, _, _, _, _, _, rfl⟩, (g.gw gw).add hG (g.hk.nd hD) (g.hk.nP hD)⟩
theorem law6 (Z : Callees P w K mg base R Pp C0 Ps k) (T : Txt K mg R Pp C0) (hr : Room k (A.deeper (envOfC "law" (defScope s_law) s.heap.objs.size f (.ref c)))) {cn : Cn} {L : List Int} {pc pr dr pt pw ps : Addr} (hT : Tm L) (hc : Cs cn) :
    Step (LX0 P w K mg base f c A outer s H0 E) (lb 6) (Pre5 Ps d HB C0 cn L pc pr dr pt pw ps) (Pre5 Ps d HB C0 cn L pc pr dr pt pw ps) := by
  have hu := hr.units
  have hu1 : (A.deeper (envOfC "law" (defScope s_law) s.heap.objs.size f (.ref c))).units + 1 < cLine := by omega
  obtain ⟨_, _, _, k1, M1⟩ := Z.stays
  obtain ⟨_, _, _, k2, M2⟩ := Z.goes
  obtain ⟨_, _, _, k3, M3⟩ := Z.why
  refine ⟨_, ps_if (PW.pt (pw_or (pt_cmpR (op_neD hr.units) (pe_callTy (call_listK (K0 := K) rfl) (by rfl) T.z_list (by decide +kernel) (pa_cons (pe_meth (pv 4) T.cl M1.m M1.ok (hr.mono k1) M1.b .nil passF (pa_cons (pe_op op_cat (pe_revLK (K0 := K) rfl (pv 5)) (pv 5)) pa_nil)) pa_nil)) (pv 14) (nomark _))
    (pw_or (pt_cmpR (op_neD hr.units) (pe_callTy (call_listK (K0 := K) rfl) (by rfl) T.z_list (by decide +kernel) (pa_cons (pe_meth (pv 4) T.cl M2.m M2.ok (hr.mono k2) M2.b .nil passF (pa_cons (pe_revLK (K0 := K) rfl (pv 5)) pa_nil)) pa_nil)) (pe_lc (own := [("time", 7)]) rfl sc_law.nd (pi_list (pv 5)) (blkOk_by (by show blkC Nlaw (defScope s_law) _ _ = true; decide +kernel)) (fun _ _ _ _ _ => (pg_name (i := 7) sc_law.nd rfl (.inl rfl))) (fun _ _ _ _ _ => (pts_one (pt_cmpR (r := rEqD K) (op_eqK rfl hr.units) (pe_dget hu1 (pv 6) (pv 7) (fun _ _ => rfl)) (pe_lst pa_nil) (nomark _)))) (fun _ _ _ _ _ => (pv 7))) (nomark _))
    (pw_or1 (pt_cmpR (op_neD hr.units) (pe_lc (own := [("time", 7)]) rfl sc_law.nd (pi_list (pv 5)) (blkOk_by (by show blkC Nlaw (defScope s_law) _ _ = true; decide +kernel)) (fun _ _ _ _ _ => (pg_name (i := 7) sc_law.nd rfl (.inl rfl))) (fun _ _ _ _ _ => (pts_one (pt_cmpR (r := rNeD K) (op_neK rfl hr.units) (pe_callTy (call_listK (K0 := K) rfl) (by rfl) T.z_list (by decide +kernel) (pa_cons (pe_meth (pv 4) T.cl M3.m M3.ok (hr.mono k3) M3.b .nil passF (pa_cons (pe_revLK (K0 := K) rfl (pv 5)) (pa_cons (pv 7) pa_nil))) pa_nil)) (pe_dget hu1 (pv 6) (pv 7) (fun _ _ => rfl)) (nomark _)))) (fun _ _ _ _ _ => (pv 7))) (pe_lst pa_nil) (nomark _))))))
      (pss_one (ps_ret pe_bl)) pss_nil, fun D σ H hp hn => ?_⟩
  obtain ⟨⟨z0, z3, z7, z8, z9, z10, z11, z12, z13, z15, z16, z17, z18, z19, z20, z21, z22, z23, z24, z25, z26, rfl⟩, g⟩ := hp
  have l8 := hT.2.1
  have et := g.hk.at_ (i := 1) rfl
  refine ⟨_, rfl, pr, dr, _, rfl, g.hk.at_ (i := 2) rfl, rfl, _, rfl, pt, _, rfl, SqL.of et, fun q1 h1 => ?_⟩
  rw [← List.map_reverse]
  have g1 := g.nwA (o := .lst (L.reverse.map V.int)) h1
  refine ⟨_, rfl, q1, pt, _, _, rfl, rfl, g1.hk.at_ (i := 0) rfl, g1.hk.at_ (i := 2) rfl, ?_, fun q2 h2 => ?_⟩
  · rw [List.length_map, List.length_map, List.length_reverse]
    have : 100 ≤ sizeLine := by decide
    omega
  rw [← List.map_append]
  have g2 := g1.nwA (o := .lst ((L.reverse ++ L).map V.int)) h2
  refine ⟨pr, q2, cn, L.reverse ++ L, L, rfl, ⟨dr, g2.hk.at_ (i := 4) rfl⟩, hc.ok, tms_of hT (g2.hk.at_ (i := 0) rfl) (fun x => by simp) (by rw [List.length_append, List.length_reverse]; omega), g2.hk.tb, fun H3 v g3 hv0 hv => ?_⟩
  have gb3 := g2.gw g3
  refine ⟨v, _, rfl, .inr (SqT_of hv), fun l hl => ?_⟩
  have g4 := gb3.nwA (o := .lst ((ST cn L).map V.int)) hl
  refine ⟨_, rfl, rNe_lI (ns := ST cn L) (ms := ST cn L) (SqL.of (g4.hk.at_ (i := 0) rfl)) (SqL.of (g4.hk.at_ (i := 3) rfl)) ⟨_, rfl, ?_⟩⟩
  rw [show (!decide (ST cn L = ST cn L)) = false by simp]
  have et4 := g4.hk.at_ (i := 4) rfl
  refine ⟨_, rfl, pr, dr, _, rfl, g4.hk.at_ (i := 5) rfl, rfl, _, rfl, pt, _, rfl, SqL.of et4, fun q5 h5 => ?_⟩
  rw [← List.map_reverse]
  have g5 := g4.nwA (o := .lst (L.reverse.map V.int)) h5
  refine ⟨pr, q5, cn, L.reverse, L, rfl, ⟨dr, g5.hk.at_ (i := 6) rfl⟩, hc.ok, tms_of hT (g5.hk.at_ (i := 0) rfl) (fun x => by simp) (by rw [List.length_reverse]; omega), (by rw [List.length_reverse]; omega), g5.hk.tb, fun H6 v6 gw6 hv6 hvo6 => ?_⟩
  have g6 := g5.gw gw6
  refine ⟨v6, _, rfl, .inr (SqT_of hvo6), fun l7 h7 => ?_⟩
  have g7 := g6.nwA (o := .lst ((GO cn L).map V.int)) h7
  show tLc (iList K (tVar 5)) (gName 7) _ (tVar 7) [7] [z0, some (.ref d), some (.ref pc), z3, some (.ref pr), some (.ref pt), some (.ref pw), z7, z8, z9, z10, z11, z12, z13, some (.ref ps), z15, z16, z17, z18, z19, z20, z21, z22, z23, z24, z25, z26] _ (fun y G' => rNeD K (.ref l7) y G' _)
  have et7 := g7.hk.at_ (i := 6) rfl
  refine filtC (fun t => decide (WD cn L t = [])) (by show 7 < 27; decide) g7.hk.tb et7 (by omega) (fun R r => ⟨_, rfl, r⟩) (fun t ht G' gw Rk rk => ?_) (fun D' G' gw hD hG => ?_)
  · obtain ⟨ad, hw, hl⟩ := (g7.gw gw).wy
    refine ⟨_, rfl, _, rfl, pw, _, rfl, getWhy hT.1 hw ht, (by show 0 ≤ sizeLine; decide), fun e he => ?_⟩
    have h1 := hl t ht
    exact rEq_lS (ns := WD cn L t) (ms := []) strOk_WD (fun x hx => nomatch hx) (SqL.of (by rw [upd_ne (ne_of_none h1 he)]; exact h1)) (SqL.of upd_same) ⟨_, rfl, rk _ ((Gw.refl gw.1).new (o := .lst []) he)⟩
  have ef : (L.filter fun t => decide (WD cn L t = [])) = GO cn L := by
    unfold GO
    refine List.filter_congr fun t ht => ?_
    have := @WD_nil cn L t
    by_cases m : WD cn L t = []
    · simp [m, this.mp m]
    · have m2 : t ∈ ST cn L := Classical.not_not.mp fun y => m (this.mpr y)
      simp [m, m2]
  rw [ef] at hG
  have g8 := (g7.gw gw).add hG (g7.hk.nd hD) (g7.hk.nP hD)
  refine rNe_lI (ns := GO cn L) (ms := GO cn L) (SqL.of (g8.hk.at_ (i := 1) rfl)) (SqL.of (g8.hk.at_ (i := 0) rfl)) ⟨_, rfl, ?_⟩
  rw [show (!decide (GO cn L = GO cn L)) = false by simp]
  have et8 := g8.hk.at_ (i := 7) rfl
  show tLc (iList K (tVar 5)) (gName 7) _ (tVar 7) [7] [z0, some (.ref d), some (.ref pc), z3, some (.ref pr), some (.ref pt), some (.ref pw), z7, z8, z9, z10, z11, z12, z13, some (.ref ps), z15, z16, z17, z18, z19, z20, z21, z22, z23, z24, z25, z26] _ (fun y G' => tLst tNil [z0, some (.ref d), some (.ref pc), z3, some (.ref pr), some (.ref pt), some (.ref pw), z7, z8, z9, z10, z11, z12, z13, some (.ref ps), z15, z16, z17, z18, z19, z20, z21, z22, z23, z24, z25, z26] G' (fun z G'' => rNeD K y z G'' _))
  refine filtC (fun _ => false) (by show 7 < 27; decide) g8.hk.tb et8 (by omega) (fun R r => ⟨_, rfl, r⟩) (fun t ht G9 gw9 Rk rk => ?_) (fun D9 G9 gw9 hD9 hG9 => ?_)
  · have g9 := g8.gw gw9
    refine ⟨_, rfl, pr, dr, _, rfl, g9.hk.at_ (i := 8) rfl, rfl, _, rfl, pt, _, rfl, SqL.of (g9.hk.at_ (i := 7) rfl), fun q10 h10 => ?_⟩
    rw [← List.map_reverse]
    have g10 := g9.nwA (o := .lst (L.reverse.map V.int)) h10
    have lo := hT.2.2 t ht
    refine ⟨_, rfl, pr, q10, t, cn, L.reverse, L, rfl, ⟨dr, g10.hk.at_ (i := 9) rfl⟩, hc.ok, tms_of hT (g10.hk.at_ (i := 0) rfl) (fun x => by simp) (by rw [List.length_reverse]; omega), ⟨by omega, by omega⟩, g10.hk.tb, fun _ H11 v11 gw11 hv11 hvo11 => ?_, fun z => absurd (List.mem_reverse.mpr ht) z⟩
    have g11 := g10.gw gw11
    refine ⟨v11, _, rfl, .inr (SqT_of hvo11), fun l12 h12 => ?_⟩
    have g12 := g11.nwA (o := .lst ((WD cn L t).map V.str)) h12
    obtain ⟨ad, hw, hl⟩ := g12.wy
    refine ⟨_, rfl, _, rfl, pw, _, rfl, getWhy hT.1 hw ht, ?_⟩
    refine rNe_lS (ns := WD cn L t) (ms := WD cn L t) strOk_WD strOk_WD (SqL.of (g12.hk.at_ (i := 0) rfl)) (SqL.of (hl t ht)) ⟨_, rfl, ?_⟩
    rw [show (!decide (WD cn L t = WD cn L t)) = false by simp]
    exact rk _ ((((Gw.refl g9.hk.tb).new h10).trans gw11).new h12)
  have g13 := (g8.gw gw9).add hG9 (g8.hk.nd hD9) (g8.hk.nP hD9)
  refine ⟨(by show 0 ≤ sizeLine; decide), fun e he => ?_⟩
  have g14 := g13.nwA (o := .lst []) he
  have e0 : (L.filter fun _ => false) = [] := by simp
  refine rNe_lI (ns := []) (ms := []) (SqL.of (by have := g14.hk.at_ (i := 1) rfl; rw [e0] at this; exact this)) (SqL.of (g14.hk.at_ (i := 0) rfl)) ⟨_, rfl, ?_⟩
  rw [show (!decide (([] : List Int) = [])) = false by simp]
  refine hn _ _ ⟨⟨_, _, _, _, _, _, _, _, _, _, _, _, _, _, _, _, _, _, _, _, _, rfl⟩, g14.sub fun x hx => ?_⟩
  iterate 8 refine List.mem_cons_of_mem _ ?_
  exact hx
end
end K8

set_option maxRecDepth 100000
set_option maxHeartbeats 4000000
namespace K8
open PySem PySem.Spec PyProof.Rows L2
open XT (Sm pe_msg)
open SkE (pmk_own1)
open LamX (Tabs TabS CodeO ExtN codeO_ne)
section
variable {P : Program} {w : World} {K : PySem.W.Frag} {mg : Str → Option Value} {base : Heap} {R Pp C0 : Addr} {Ps : List Addr}
variable {f c d : Addr} {k : Nat} {A : Around} {outer : List Env} {s : Shared} {H0 HB : Hp} {E : XK}
def rTupOf (K : PySem.W.Frag) : List V → Hp → VK → Prop := fun xs H Q => ∃ p ys, xs = [.ref p] ∧ ((SqL K H p ys ∧ ∀ l, H l = none → Q (.ref l) (upd H l (.tup ys))) ∨ (SqT K H p ys ∧ Q (.ref p) H))
theorem cr_tupOf {X : Cx} : CallR X (.type "tuple") (rTupOf X.K) := call_tuple_of
def Pre7 (Ps : List Addr) (d : Addr) (HB : Hp) (C0 : Addr) (c : Cn) (L : List Int) (pc pr dr pt ps : Addr) : L2.St → Hp → Prop := fun σ H => (∃ z0 z3 z6 z7 z8 z9 z10 z11 z12 z13 z15 z16 z17 z18 z19 z20 z21 z22 z23 z24 z25 z26, σ = [z0, some (.ref d), some (.ref pc), z3, some (.ref pr), some (.ref pt), z6, z7, z8, z9, z10, z11, z12, z13, some (.ref ps), z15, z16, z17, z18, z19, z20, z21, z22, z23, z24, z25, z26]) ∧ Hk Ps d HB (O4 C0 c L pc pr dr pt ps) H
theorem st_len8 {c : Cn} {L : List Int} (hT : Tm L) : (ST c L).length ≤ 8 := Nat.le_trans (len_le (st_ss hT.1).nodup fun x hx => st_sub x hx) hT.2.1
theorem law7 (Z : Callees P w K mg base R Pp C0 Ps k) (T : Txt K mg R Pp C0) (hr : Room k (A.deeper (envOfC "law" (defScope s_law) s.heap.objs.size f (.ref c)))) {cn : Cn} {L : List Int} {pc pr dr pt pw ps : Addr} (hT : Tm L) (hc : Cs cn) :
    Step (LX0 P w K mg base f c A outer s H0 E) (lb 7) (Pre5 Ps d HB C0 cn L pc pr dr pt pw ps) (Pre7 Ps d HB C0 cn L pc pr dr pt ps) := by
  obtain ⟨_, _, _, k1, G1⟩ := Z.check
  obtain ⟨_, _, _, k2, G2⟩ := Z.most
  refine ⟨_, ps_if (PW.pt (pw_or (pt_cmpR op_notBl (pe_call G1.ok (hr.mono k1) (by rfl) G1.g G1.kp G1.b .nil passF (pa_cons (pv 4) (pa_cons (pe_revLK (K0 := K) rfl (pv 5)) (pa_cons (pe_revLK (K0 := K) rfl (pv 14)) pa_nil)))) pe_bl (nomark _))
    (pw_or (pt_cmpR op_gt (pe_callB (call_lenK (K0 := K) rfl) (by rfl) T.z_len (by decide +kernel) (pa_cons (pv 14) pa_nil)) (pe_call G2.ok (hr.mono k2) (by rfl) G2.g G2.kp G2.b .nil passF (pa_cons (pv 4) pa_nil)) (nomark _))
    (pw_or1 (pt_cmpR op_ne (pe_call G2.ok (hr.mono k2) (by rfl) G2.g G2.kp G2.b .nil passF (pa_cons (pv 4) pa_nil)) (pe_callB (r := rSum K) (cr_sum rfl) (by rfl) T.z_sum (by decide +kernel) (pa_cons (pv 2) pa_nil)) (nomark _))))))
      (pss_one (ps_ret pe_bl)) pss_nil, fun D σ H hp hn => ?_⟩
  obtain ⟨⟨z0, z3, z7, z8, z9, z10, z11, z12, z13, z15, z16, z17, z18, z19, z20, z21, z22, z23, z24, z25, z26, rfl⟩, g⟩ := hp
  have g := g.hk
  have l8 := hT.2.1
  refine ⟨_, rfl, _, rfl, pt, _, rfl, SqL.of (g.at_ (i := 1) rfl), fun q1 h1 => ?_⟩
  rw [← List.map_reverse]
  have g1 := g.newA (o := .lst (L.reverse.map V.int)) h1
  refine ⟨_, rfl, ps, _, rfl, SqL.of (g1.at_ (i := 1) rfl), fun q2 h2 => ?_⟩
  rw [← List.map_reverse]
  have g2 := g1.newA (o := .lst ((ST cn L).reverse.map V.int)) h2
  have good : GoodC cn L L.reverse (ST cn L).reverse := ⟨fun t _ => by simp, fun t ht => by
    rw [List.mem_reverse] at ht ⊢
    exact st_sub t ht⟩
  refine ⟨pr, q1, q2, cn, L.reverse, (ST cn L).reverse, L, rfl, ⟨dr, g2.at_ (i := 4) rfl⟩, hc.ok, tms_of hT (g2.at_ (i := 1) rfl) (fun x => by simp) (by rw [List.length_reverse]; omega), SqL.of (g2.at_ (i := 1) rfl), SqL.of (g2.at_ (i := 0) rfl), (by rw [List.length_reverse]; have := st_len8 (c := cn) hT; omega), g2.tb, fun _ H3 gw3 => ?_, fun z => absurd good z⟩
  have g3 := g2.gw gw3
  refine ⟨true, true, rfl, rfl, _, rfl, ?_⟩
  rw [show (!decide (true = true)) = false by simp]
  refine ⟨_, rfl, ps, _, rfl, .inl (SqL.of (g3.at_ (i := 2) rfl)), _, rfl, pr, cn, rfl, ⟨dr, g3.at_ (i := 4) rfl⟩, g3.tb, fun H4 gw4 => ?_⟩
  have g4 := g3.gw gw4
  refine ⟨_, _, rfl, rfl, _, rfl, ?_⟩
  have lt : decide ((cnL cn).sum < (((ST cn L).map V.int).length : Nat)) = false := by
    rw [List.length_map]
    have := st_len (c := cn) hT.1
    have e : (cnL cn).sum = (cn.n : Nat) + ((cn.d : Nat) + ((cn.w : Nat) + ((cn.m : Nat) + (0 : Int)))) := rfl
    rw [decide_eq_false_iff_not, e]
    omega
  rw [lt]
  refine ⟨_, rfl, pr, cn, rfl, ⟨dr, g4.at_ (i := 4) rfl⟩, g4.tb, fun H5 gw5 => ?_⟩
  have g5 := g4.gw gw5
  refine ⟨_, rfl, pc, cnL cn, rfl, SqL.of (g5.at_ (i := 5) rfl), rfl, _, rfl, ?_⟩
  rw [show (!decide (V.int (cnL cn).sum = V.int (cnL cn).sum)) = false by simp]
  refine hn _ _ ⟨⟨_, _, _, _, _, _, _, _, _, _, _, _, _, _, _, _, _, _, _, _, _, _, rfl⟩, g5.sub fun x hx => List.mem_cons_of_mem _ (List.mem_cons_of_mem _ hx)⟩
theorem law8 (Z : Callees P w K mg base R Pp C0 Ps k) (T : Txt K mg R Pp C0) (hr : Room k (A.deeper (envOfC "law" (defScope s_law) s.heap.objs.size f (.ref c)))) {cn : Cn} {L : List Int} {pc pr dr pt ps : Addr} (hT : Tm L) (hc : Cs cn) :
    Step (LX0 P w K mg base f c A outer s H0 E) (lb 8) (Pre7 Ps d HB C0 cn L pc pr dr pt ps) (Pre7 Ps d HB C0 cn L pc pr dr pt ps) := by
  obtain ⟨_, _, _, k1, M1⟩ := Z.shown
  obtain ⟨_, _, _, k2, M2⟩ := Z.stays
  refine ⟨_, ps_if (PW.pt (pw_or (pt_cmpR (op_neD hr.units) (pe_meth0 (pv 4) T.cl M1.m M1.ok (hr.mono k1) M1.b .nil passF) (pe_callTy cr_tupOf (by rfl) T.z_tuple (by decide +kernel) (pa_cons (pv 2) pa_nil)) (nomark _))
    (pw_or1 (pt_cmpR (op_neD hr.units) (pe_meth (pv 4) T.cl M2.m M2.ok (hr.mono k2) M2.b .nil passF (pa_cons (pv 14) pa_nil)) (pe_callTy cr_tupOf (by rfl) T.z_tuple (by decide +kernel) (pa_cons (pv 14) pa_nil)) (nomark _)))))
      (pss_one (ps_ret pe_bl)) pss_nil, fun D σ H hp hn => ?_⟩
  obtain ⟨⟨z0, z3, z6, z7, z8, z9, z10, z11, z12, z13, z15, z16, z17, z18, z19, z20, z21, z22, z23, z24, z25, z26, rfl⟩, g⟩ := hp
  have l8 := st_len8 (c := cn) hT
  refine ⟨_, rfl, pr, dr, _, rfl, g.at_ (i := 2) rfl, rfl, pr, cn, rfl, ⟨dr, g.at_ (i := 2) rfl⟩, g.tb, fun H1 v1 gw1 hv1 hvo1 => ?_⟩
  have g1 := (g.gw gw1).add hvo1 (g.nd hv1) (g.nP hv1)
  refine ⟨_, rfl, pc, _, rfl, .inl ⟨SqL.of (g1.at_ (i := 4) rfl), fun q2 h2 => ?_⟩⟩
  have g2 := g1.newA (o := .tup ((cnL cn).map V.int)) h2
  refine rNe_tI (ns := cnL cn) (ms := cnL cn) (SqT_of (g2.at_ (i := 1) rfl)) (SqT_of (g2.at_ (i := 0) rfl)) ⟨_, rfl, ?_⟩
  rw [show (!decide (cnL cn = cnL cn)) = false by simp]
  have hTm : Tm (ST cn L) := ⟨st_ss hT.1, l8, fun x hx => hT.2.2 x (st_sub x hx)⟩
  refine ⟨_, rfl, pr, dr, _, rfl, g2.at_ (i := 4) rfl, rfl, _, rfl, pr, ps, cn, ST cn L, ST cn L, rfl, ⟨dr, g2.at_ (i := 4) rfl⟩, hc.ok, tms_of hTm (g2.at_ (i := 2) rfl) (fun x => Iff.rfl) (by omega), g2.tb, fun H3 v3 gw3 hv3 hvo3 => ?_⟩
  rw [st_idem hT.1] at hvo3
  have g3 := (g2.gw gw3).add hvo3 (g2.nd hv3) (g2.nP hv3)
  refine ⟨_, rfl, ps, _, rfl, .inl ⟨SqL.of (g3.at_ (i := 3) rfl), fun q4 h4 => ?_⟩⟩
  have g4 := g3.newA (o := .tup ((ST cn L).map V.int)) h4
  refine rNe_tI (ns := ST cn L) (ms := ST cn L) (SqT_of (g4.at_ (i := 1) rfl)) (SqT_of (g4.at_ (i := 0) rfl)) ⟨_, rfl, ?_⟩
  rw [show (!decide (ST cn L = ST cn L)) = false by simp]
  refine hn _ _ ⟨⟨_, _, _, _, _, _, _, _, _, _, _, _, _, _, _, _, _, _, _, _, _, _, rfl⟩, g4.sub fun x hx => ?_⟩
  iterate 4 refine List.mem_cons_of_mem _ ?_
  exact hx
end
end K8

set_option maxRecDepth 100000
set_option maxHeartbeats 4000000
namespace K8
open PySem PySem.Spec PyProof.Rows L2
open XT (Sm pe_msg)
open SkE (pmk_own1)
open LamX (Tabs TabS CodeO ExtN codeO_ne)
section
variable {P : Program} {w : World} {K : PySem.W.Frag} {mg : Str → Option Value} {base : Heap} {R Pp C0 : Addr} {Ps : List Addr}
variable {f c d : Addr} {k : Nat} {A : Around} {outer : List Env} {s : Shared} {H0 HB : Hp} {E : XK}
def lc9 (i : Nat) : Stmt := (forB (lb 9)).getD i (.Pass ⟨0, 0, 0, 0⟩)
/-- from one base to another -/
structure Rl (T : List (Addr × Str)) (Ps : List Addr) (d : Addr) (HB H9 : Hp) : Prop where
  tab : Tabs T H9
  tb : Tb Ps H9
  di : Dice H9 d
  ls : ∀ b xs, b ≠ d → HB b = some (.lst xs) → H9 b = some (.lst xs)
theorem Rl.trans {T : List (Addr × Str)} {H1 H2 : Hp} (a : Rl T Ps d HB H1) (b : Rl T Ps d H1 H2) : Rl T Ps d HB H2 := ⟨b.tab, b.tb, b.di, fun x xs n e => b.ls x xs n (a.ls x xs n e)⟩
def PJ0 (Ps : List Addr) (d : Addr) (HB : Hp) (C0 : Addr) (c : Cn) (L : List Int) (pc pr dr pt ps : Addr) (t : Int) : L2.St → Hp → Prop := fun σ H => (∃ z0 z3 z6 z8 z9 z10 z11 z12 z13 z15 z16 z17 z18 z19 z20 z21 z22 z23 z24 z25 z26, σ = [z0, some (.ref d), some (.ref pc), z3, some (.ref pr), some (.ref pt), z6, some (.int t), z8, z9, z10, z11, z12, z13, some (.ref ps), z15, z16, z17, z18, z19, z20, z21, z22, z23, z24, z25, z26]) ∧ Hk Ps d HB (O4 C0 c L pc pr dr pt ps) H
def PJ1 (Ps : List Addr) (d : Addr) (HB : Hp) (C0 : Addr) (c : Cn) (L ot : List Int) (pc pr dr pt ps po : Addr) : L2.St → Hp → Prop := fun σ H => (∃ z0 z3 z6 z7 z8 z9 z10 z11 z12 z13 z16 z17 z18 z19 z20 z21 z22 z23 z24 z25 z26, σ = [z0, some (.ref d), some (.ref pc), z3, some (.ref pr), some (.ref pt), z6, z7, z8, z9, z10, z11, z12, z13, some (.ref ps), some (.ref po), z16, z17, z18, z19, z20, z21, z22, z23, z24, z25, z26]) ∧ Hk Ps d HB ((po, .lst (ot.map V.int)) :: O4 C0 c L pc pr dr pt ps) H
theorem l9a (Z : Callees P w K mg base R Pp C0 Ps k) (T : Txt K mg R Pp C0) (hr : Room k (A.deeper (envOfC "law" (defScope s_law) s.heap.objs.size f (.ref c)))) {cn : Cn} {L : List Int} {pc pr dr pt ps : Addr} (hT : Tm L) (ne : L ≠ []) :
    Step (LX0 P w K mg base f c A outer s H0 E) (lc9 0) (Pre7 Ps d HB C0 cn L pc pr dr pt ps) (fun σ H => ∃ t, t ∈ L ∧ PJ0 Ps d HB C0 cn L pc pr dr pt ps t σ H) := by
  obtain ⟨_, _, _, k2, G2⟩ := Z.roll
  refine ⟨_, ps_set (i := 7) sc_law.nd rfl (.inr rfl) (pe_ix ix_list (pv 5) (pe_call G2.ok (hr.mono k2) (by rfl) G2.g G2.kp G2.b .nil passF (pa_cons (pv 1) (pa_cons (pe_callB (call_lenK (K0 := K) rfl) (by rfl) T.z_len (by decide +kernel) (pa_cons (pv 5) pa_nil)) pa_nil))) (fun _ _ => rfl)), fun D σ H hp hn => ?_⟩
  obtain ⟨⟨z0, z3, z6, z7, z8, z9, z10, z11, z12, z13, z15, z16, z17, z18, z19, z20, z21, z22, z23, z24, z25, z26, rfl⟩, g⟩ := hp
  have l8 := hT.2.1
  have lp : 0 < L.length := List.length_pos_iff.mpr ne
  refine ⟨_, rfl, _, rfl, _, rfl, pt, _, rfl, .inl (SqL.of (g.at_ (i := 1) rfl)), d, _, rfl, g.gd.dice, ?_, ?_, fun r a b c' hr2 => ?_⟩
  · rw [List.length_map]; omega
  · rw [List.length_map]; omega
  rw [List.length_map] at hr2
  have g1 := g.roll a b c'
  have rl : r < L.length := by omega
  refine ⟨pt, _, (r : Nat), _, rfl, rfl, SqL.of (g1.at_ (i := 1) rfl), atI_nat (by rw [List.getElem?_map, List.getElem?_eq_getElem rl]; rfl), ?_⟩
  exact hn _ _ ⟨L[r], List.getElem_mem rl, ⟨_, _, _, _, _, _, _, _, _, _, _, _, _, _, _, _, _, _, _, _, _, rfl⟩, g1⟩
/-- one time more or less stays -/
def otL (c : Cn) (L : List Int) (t : Int) : List Int := if t ∈ ST c L then (ST c L).filter fun x => decide (x ≠ t) else ST c L ++ [t]
theorem otL_bad {c : Cn} {L : List Int} {t : Int} (ht : t ∈ L) : ¬ GoodC c L L (otL c L t) := fun g => by
  have h := g.1 t ht
  unfold otL at h
  by_cases m : t ∈ ST c L
  · rw [if_pos m] at h
    have := h.mpr m
    simp at this
  · rw [if_neg m] at h
    exact m (h.mp (by simp))
theorem otL_len {c : Cn} {L : List Int} {t : Int} (hT : Tm L) : (otL c L t).length ≤ 9 := by
  have := st_len8 (c := c) hT
  unfold otL
  split
  · exact Nat.le_trans (List.length_filter_le _ _) (by omega)
  · rw [List.length_append]
    show _ + 1 ≤ 9
    omega
theorem l9b (T : Txt K mg R Pp C0) {cn : Cn} {L : List Int} {pc pr dr pt ps : Addr} {t : Int} (hT : Tm L) (ht : t ∈ L) :
    Step (LX0 P w K mg base f c A outer s H0 E) (lc9 1) (PJ0 Ps d HB C0 cn L pc pr dr pt ps t) (fun σ H => ∃ po, PJ1 Ps d HB C0 cn L (otL cn L t) pc pr dr pt ps po σ H) := by
  refine ⟨_, ps_set (i := 15) sc_law.nd rfl (.inr rfl) (pe_ifExp (pt_cmpR (op_inK (K0 := K) rfl) (pv 7) (pv 14) (by with_unfolding_all rfl)) (pe_lc (own := [("one", 16)]) rfl sc_law.nd (pi_list (pv 14)) (blkOk_by (by show blkC Nlaw (defScope s_law) _ _ = true; decide +kernel)) (fun _ _ _ _ _ => (pg_name (i := 16) sc_law.nd rfl (.inl rfl))) (fun _ _ _ _ _ => (pts_one (pt_cmpR op_ne (pv 16) (pv 7) (nomark _)))) (fun _ _ _ _ _ => (pv 16))) (pe_op op_cat (pv 14) (pe_lst (pa_cons (pv 7) pa_nil)))), fun D σ H hp hn => ?_⟩
  obtain ⟨⟨z0, z3, z6, z8, z9, z10, z11, z12, z13, z15, z16, z17, z18, z19, z20, z21, z22, z23, z24, z25, z26, rfl⟩, g⟩ := hp
  have l8 := st_len8 (c := cn) hT
  have es := g.at_ (i := 0) rfl
  refine ⟨_, rfl, _, rfl, ps, _, rfl, .inl (SqL.of es), rfl, flat_I _, ?_⟩
  rw [inV_I]
  refine ⟨_, rfl, ?_⟩
  simp only [Bool.false_eq_true, if_false]
  by_cases m : t ∈ ST cn L
  · have e : otL cn L t = (ST cn L).filter fun x => decide (x ≠ t) := by unfold otL; rw [if_pos m]
    rw [show decide (t ∈ ST cn L) = true by simp [m]]
    show tLc (iList K (tVar 14)) (gName 16) _ (tVar 16) [16] [z0, some (.ref d), some (.ref pc), z3, some (.ref pr), some (.ref pt), z6, some (.int t), z8, z9, z10, z11, z12, z13, some (.ref ps), z15, z16, z17, z18, z19, z20, z21, z22, z23, z24, z25, z26] H (fun v G' => gName 15 v [z0, some (.ref d), some (.ref pc), z3, some (.ref pr), some (.ref pt), z6, some (.int t), z8, z9, z10, z11, z12, z13, some (.ref ps), z15, z16, z17, z18, z19, z20, z21, z22, z23, z24, z25, z26] G' D.nx)
    refine filtC (fun x => decide (x ≠ t)) (by show 16 < 27; decide) g.tb es (by omega) (fun R r => ⟨_, rfl, r⟩) (fun x hx G' gw Rk rk => ?_) (fun D' G' gw hD hG => ?_)
    · refine ⟨_, rfl, _, rfl, rfl, _, rfl, ?_⟩
      have r := rk _ (Gw.refl gw.1)
      by_cases q : x = t
      · subst q
        simpa using r
      · simpa [q] using r
    · rw [← e] at hG
      exact hn _ _ ⟨D', ⟨_, _, _, _, _, _, _, _, _, _, _, _, _, _, _, _, _, _, _, _, _, rfl⟩, (g.gw gw).add hG (g.nd hD) (g.nP hD)⟩
  · have e : otL cn L t = ST cn L ++ [t] := by unfold otL; rw [if_neg m]
    rw [show decide (t ∈ ST cn L) = false by simp [m]]
    refine ⟨_, rfl, _, rfl, (by show 1 ≤ sizeLine; decide), fun u hu => ?_⟩
    have g1 := g.newA (o := .lst [.int t]) hu
    refine ⟨ps, u, _, _, rfl, rfl, g1.at_ (i := 1) rfl, g1.at_ (i := 0) rfl, ?_, fun r hr => ?_⟩
    · rw [List.length_map]
      have : 100 ≤ sizeLine := by decide
      have h1 : [V.int t].length = 1 := rfl
      omega
    have g2 := g1.newA (o := .lst ((ST cn L).map V.int ++ [.int t])) hr
    have ev : (ST cn L).map V.int ++ [V.int t] = (otL cn L t).map V.int := by rw [e, List.map_append]; rfl
    have h2 : upd (upd H u (.lst [.int t])) r (.lst ((ST cn L).map V.int ++ [.int t])) r = some (.lst ((otL cn L t).map V.int)) := by rw [upd_same, ev]
    exact hn _ _ ⟨r, ⟨_, _, _, _, _, _, _, _, _, _, _, _, _, _, _, _, _, _, _, _, _, rfl⟩, ((g1.new hr).sub fun x hx => List.mem_cons_of_mem _ hx).add h2 (g1.nd hr) (g1.nP hr)⟩
end
end K8

set_option maxRecDepth 100000
set_option maxHeartbeats 4000000
namespace K8
open PySem PySem.Spec PyProof.Rows L2
open XT (Sm pe_msg)
open SkE (pmk_own1)
open LamX (Tabs TabS CodeO ExtN codeO_ne)
section
variable {P : Program} {w : World} {K : PySem.W.Frag} {mg : Str → Option Value} {base : Heap} {R Pp C0 : Addr} {Ps : List Addr}
variable {f c d : Addr} {k : Nat} {A : Around} {outer : List Env} {s : Shared} {H0 HB : Hp} {E : XK}

theorem O4_nt {c : Cn} {L : List Int} {pc pr dr pt ps : Addr} : ∀ x ∈ O4 C0 c L pc pr dr pt ps, ∀ tb, x.2 ≠ .tbl tb := by
  intro x hx tb
  unfold O4 O3 O2 O1 at hx
  simp only [List.mem_cons, List.not_mem_nil, or_false] at hx
  rcases hx with rfl | rfl | rfl | rfl <;> (intro z; cases z)
/-- behind a lambda that was made and called -/
theorem lamEnd {pT : Addr} {q : Str} {os : List (Addr × HO)} {H H1 H2 : Hp} (g : Hk Ps d HB os H) (nt : ∀ x ∈ os, ∀ tb, x.2 ≠ .tbl tb) (tabB : Tabs [(pT, q)] HB) (nP : pT ∉ Ps) (tbB : Tb Ps HB) (dB : Dice HB d) (tab1 : Tabs [(pT, q)] H1) (kp : ∀ b o, b ≠ pT → H b = some o → H1 b = some o) (g2 : Gw Ps H1 H2) :
    Rl [(pT, q)] Ps d HB H2 ∧ Hk Ps d H2 os H2 := by
  have tabH : Tabs [(pT, q)] H := tabs_keep tabB (fun p hp => by rw [List.mem_singleton.mp hp]; exact nP) tbB dB g.gd.keep
  obtain ⟨ps0, hT, _, _⟩ := tabH _ (List.mem_singleton.mpr rfl)
  have hT : H pT = some (.tbl ps0) := hT
  have tb1 : Tb Ps H1 := fun q hq => by
    obtain ⟨ps, h1, h2⟩ := g.tb q hq
    exact ⟨ps, kp q _ (fun z => nP (by rw [← z]; exact hq)) h1, h2⟩
  have ndT : pT ≠ d := fun z => by
    obtain ⟨x, y, v, hd⟩ := g.gd.dice
    rw [z, hd] at hT
    cases hT
  have di1 : Dice H2 d := by
    obtain ⟨x, y, v, hd⟩ := g.gd.dice
    have h1 := kp _ _ ndT.symm hd
    exact ⟨x, y, v, g2.2 _ _ (tb1.not h1 fun _ z => by cases z) h1⟩
  refine ⟨⟨tabs_gw tab1 (fun p hp => by rw [List.mem_singleton.mp hp]; exact nP) tb1 g2, g2.1, di1, fun b xs nd hb => ?_⟩, Gd.refl g2.1 di1, fun x hx => ?_⟩
  · have h1 := g.gd.keep _ _ (tbB.not hb fun _ z => by cases z) nd hb
    have nT : b ≠ pT := fun z => by
      rw [z, hT] at h1
      cases h1
    have h2 := kp _ _ nT h1
    exact g2.2 _ _ (tb1.not h2 fun _ z => by cases z) h2
  · obtain ⟨o1, o2, o3⟩ := g.ob x hx
    have nT : x.1 ≠ pT := fun z => by
      rw [z, hT] at o1
      exact nt x hx _ (Option.some.inj o1).symm
    exact ⟨g2.2 _ _ o3 (kp _ _ nT o1), o2, o3⟩
def PZ7 (pT : Addr) (q : Str) (Ps : List Addr) (d : Addr) (HB : Hp) (C0 : Addr) (c : Cn) (L : List Int) (pc pr dr pt ps : Addr) : L2.St → Hp → Prop := fun σ H => ∃ H9, Rl [(pT, q)] Ps d HB H9 ∧ Pre7 Ps d H9 C0 c L pc pr dr pt ps σ H
theorem l9c {g pT : Addr} {fd : FuncData} {q : Str} (Z : Callees P w K mg base R Pp C0 Ps k) (T : Txt K mg R Pp C0) (N : Nine K mg R Pp) (TB : LamX.TabB base mg c pT) (hq : q = (LX0 P w K mg base f c A outer s H0 E).env.qual ++ "<lambda>") (nP : pT ∉ Ps) (Fg : Fun K "_law_told" "_law_told" s__law_told g fd) (mgg : mg "_law_told" = some (.ref g)) (bd : Binds K fd ["what"] [])
    (hr : Room (k + 2) (A.deeper (envOfC "law" (defScope s_law) s.heap.objs.size f (.ref c)))) {cn : Cn} {L : List Int} {pc pr dr pt ps po : Addr} {t : Int} (hT : Tm L) (hc : Cs cn) (ht : t ∈ L) (tbB : Tb Ps HB) (dB : Dice HB d) (tabB : Tabs [(pT, q)] HB) :
    Step (LX0 P w K mg base f c A outer s H0 E) (lc9 2) (PJ1 Ps d HB C0 cn L (otL cn L t) pc pr dr pt ps po) (PZ7 pT q Ps d HB C0 cn L pc pr dr pt ps) := by
  obtain ⟨_, _, _, k1, G1⟩ := Z.check
  subst hq
  refine ⟨_, ps_if (pt_cmpR op_ne (LX.pe_lamcall3 (TT := TT9 R Pp) (k := k) (Ng := ["what"]) (by rfl) mgg Fg bd sc__law_told rfl (.inl rfl) (fun cdv => told9_gives N) TB rfl (List.mem_singleton.mpr rfl) (fun p hp _ => by rw [List.mem_singleton.mp hp]) hr (LamX.lamS_by (by show LamX.lamSB (defScope s_law) _ = true; decide +kernel)) rfl (fun _ _ _ _ _ => rfl)
      (fun A outer s H E f c' hr2 => pe_call G1.ok (hr2.mono k1) (by rfl) G1.g G1.kp G1.b .nil (passes_call (takes_of rfl rfl rfl rfl) (fun _ _ _ _ h => h)) (pa_cons (pv 4) (pa_cons (pv 5) (pa_cons (pv 15) pa_nil))))) pe_str (nomark _))
      (pss_one (ps_ret pe_bl)) pss_nil, fun D σ H hp hn => ?_⟩
  obtain ⟨⟨z0, z3, z6, z7, z8, z9, z10, z11, z12, z13, z16, z17, z18, z19, z20, z21, z22, z23, z24, z25, z26, rfl⟩, gg⟩ := hp
  have l8 := hT.2.1
  have tabH : Tabs [(pT, (LX0 P w K mg base f c A outer s H0 E).env.qual ++ Str.ofString "<lambda>")] H := tabs_keep tabB (fun p hp => by rw [List.mem_singleton.mp hp]; exact nP) tbB dB gg.gd.keep
  refine ⟨tabH, fun H1 _ tab1 kp => ?_⟩
  have nt : ∀ x ∈ ((po, .lst ((otL cn L t).map V.int)) :: O4 C0 cn L pc pr dr pt ps : List (Addr × HO)), ∀ tb, x.2 ≠ .tbl tb := fun x hx tb => by
    rcases List.mem_cons.mp hx with rfl | hx
    · intro z; cases z
    · exact O4_nt x hx tb
  have e1 := lamEnd gg nt tabB nP tbB dB tab1 kp (Gw.refl (Ps := Ps) (H := H1) (fun q hq => by
    obtain ⟨ps, h1, h2⟩ := gg.tb q hq
    exact ⟨ps, kp q _ (fun z => nP (by rw [← z]; exact hq)) h1, h2⟩))
  have g1 := e1.2
  refine ⟨_, rfl, _, rfl, _, rfl, pr, pt, po, cn, L, otL cn L t, L, rfl, ⟨dr, g1.at_ (i := 3) rfl⟩, hc.ok, tms_of hT (g1.at_ (i := 2) rfl) (fun x => Iff.rfl) (by omega), SqL.of (g1.at_ (i := 2) rfl), SqL.of (g1.at_ (i := 0) rfl), Nat.le_trans (otL_len hT) (by decide), g1.tb, fun z => absurd z (otL_bad ht), fun _ H2 g2 => .inr ⟨rfl, ?_⟩⟩
  refine ⟨rfl, _, rfl, ?_⟩
  rw [show (!decide (V.str (Str.ofString "paper") = V.str (Str.ofString "paper"))) = false by simp]
  obtain ⟨r2, h2⟩ := lamEnd gg nt tabB nP tbB dB tab1 kp g2
  exact hn _ _ ⟨H2, r2, ⟨_, _, _, _, _, _, _, _, _, _, _, _, _, _, _, _, _, _, _, _, _, _, rfl⟩, h2.sub fun x hx => List.mem_cons_of_mem _ hx⟩
theorem far_bad {c : Cn} {L : List Int} (hT : Tm L) : ¬ GoodC c L L (ST c L ++ [99999]) := fun g => by
  have h := g.2 99999 (by simp)
  have := hT.2.2 _ h
  omega
theorem l9d {g pT : Addr} {fd : FuncData} {q : Str} (Z : Callees P w K mg base R Pp C0 Ps k) (T : Txt K mg R Pp C0) (N : Nine K mg R Pp) (TB : LamX.TabB base mg c pT) (hq : q = (LX0 P w K mg base f c A outer s H0 E).env.qual ++ "<lambda>") (nP : pT ∉ Ps) (Fg : Fun K "_law_told" "_law_told" s__law_told g fd) (mgg : mg "_law_told" = some (.ref g)) (bd : Binds K fd ["what"] [])
    (hr : Room (k + 2) (A.deeper (envOfC "law" (defScope s_law) s.heap.objs.size f (.ref c)))) {cn : Cn} {L : List Int} {pc pr dr pt ps : Addr} (hT : Tm L) (hc : Cs cn) (tbB : Tb Ps HB) (dB : Dice HB d) (tabB : Tabs [(pT, q)] HB) :
    Step (LX0 P w K mg base f c A outer s H0 E) (lc9 3) (Pre7 Ps d HB C0 cn L pc pr dr pt ps) (PZ7 pT q Ps d HB C0 cn L pc pr dr pt ps) := by
  obtain ⟨_, _, _, k1, G1⟩ := Z.check
  subst hq
  refine ⟨_, ps_if (pt_cmpR op_ne (LX.pe_lamcall3 (TT := TT9 R Pp) (k := k) (Ng := ["what"]) (by rfl) mgg Fg bd sc__law_told rfl (.inl rfl) (fun cdv => told9_gives N) TB rfl (List.mem_singleton.mpr rfl) (fun p hp _ => by rw [List.mem_singleton.mp hp]) hr (LamX.lamS_by (by show LamX.lamSB (defScope s_law) _ = true; decide +kernel)) rfl (fun _ _ _ _ _ => rfl)
      (fun A outer s H E f c' hr2 => pe_call G1.ok (hr2.mono k1) (by rfl) G1.g G1.kp G1.b .nil (passes_call (takes_of rfl rfl rfl rfl) (fun _ _ _ _ h => h)) (pa_cons (pv 4) (pa_cons (pv 5) (pa_cons (pe_op op_cat (pv 14) (pe_lst (pa_cons pe_int pa_nil))) pa_nil))))) pe_str (nomark _))
      (pss_one (ps_ret pe_bl)) pss_nil, fun D σ H hp hn => ?_⟩
  obtain ⟨⟨z0, z3, z6, z7, z8, z9, z10, z11, z12, z13, z15, z16, z17, z18, z19, z20, z21, z22, z23, z24, z25, z26, rfl⟩, gg⟩ := hp
  have l8 := hT.2.1
  have l8s := st_len8 (c := cn) hT
  have tabH : Tabs [(pT, (LX0 P w K mg base f c A outer s H0 E).env.qual ++ Str.ofString "<lambda>")] H := tabs_keep tabB (fun p hp => by rw [List.mem_singleton.mp hp]; exact nP) tbB dB gg.gd.keep
  refine ⟨tabH, fun H1 _ tab1 kp => ?_⟩
  have tb1 : Tb Ps H1 := fun q hq => by
    obtain ⟨ps, h1, h2⟩ := gg.tb q hq
    exact ⟨ps, kp q _ (fun z => nP (by rw [← z]; exact hq)) h1, h2⟩
  have g1 := (lamEnd gg O4_nt tabB nP tbB dB tab1 kp (Gw.refl tb1)).2
  refine ⟨_, rfl, _, rfl, _, rfl, (by show 1 ≤ sizeLine; decide), fun u hu => ?_⟩
  have g2 := g1.newA (o := .lst [.int 99999]) hu
  refine ⟨ps, u, _, _, rfl, rfl, g2.at_ (i := 1) rfl, g2.at_ (i := 0) rfl, ?_, fun r hr => ?_⟩
  · rw [List.length_map]
    have : 100 ≤ sizeLine := by decide
    have h1 : [V.int 99999].length = 1 := rfl
    omega
  have g3 := g2.newA (o := .lst ((ST cn L).map V.int ++ [.int 99999])) hr
  have ev : (ST cn L).map V.int ++ [V.int 99999] = (ST cn L ++ [99999]).map V.int := by rw [List.map_append]; rfl
  have gw3 : Gw Ps H1 _ := ((Gw.refl tb1).new (o := .lst [.int 99999]) hu).new (o := .lst ((ST cn L).map V.int ++ [.int 99999])) hr
  refine ⟨pr, pt, r, cn, L, ST cn L ++ [99999], L, rfl, ⟨dr, g3.at_ (i := 4) rfl⟩, hc.ok, tms_of hT (g3.at_ (i := 3) rfl) (fun x => Iff.rfl) (by omega), SqL.of (g3.at_ (i := 3) rfl), SqL.of (by rw [← ev]; exact g3.at_ (i := 0) rfl), (by rw [List.length_append]; show _ + 1 ≤ 1000; omega), g3.tb, fun z => absurd z (far_bad hT), fun _ H2 gw4 => .inr ⟨rfl, ?_⟩⟩
  refine ⟨rfl, _, rfl, ?_⟩
  rw [show (!decide (V.str (Str.ofString "paper") = V.str (Str.ofString "paper"))) = false by simp]
  obtain ⟨r2, h2⟩ := lamEnd gg O4_nt tabB nP tbB dB tab1 kp (gw3.trans gw4)
  exact hn _ _ ⟨H2, r2, ⟨_, _, _, _, _, _, _, _, _, _, _, _, _, _, _, _, _, _, _, _, _, _, rfl⟩, h2⟩
theorem four9 : forB (lb 9) = [lc9 0, lc9 1, lc9 2, lc9 3] := rfl
theorem law9 {g pT : Addr} {fd : FuncData} {q : Str} (Z : Callees P w K mg base R Pp C0 Ps k) (T : Txt K mg R Pp C0) (N : Nine K mg R Pp) (TB : LamX.TabB base mg c pT) (hq : q = (LX0 P w K mg base f c A outer s H0 E).env.qual ++ "<lambda>") (nP : pT ∉ Ps) (Fg : Fun K "_law_told" "_law_told" s__law_told g fd) (mgg : mg "_law_told" = some (.ref g)) (bd : Binds K fd ["what"] [])
    (hr : Room (k + 2) (A.deeper (envOfC "law" (defScope s_law) s.heap.objs.size f (.ref c)))) {cn : Cn} {L : List Int} {pc pr dr pt ps : Addr} (hT : Tm L) (hc : Cs cn) (tbB : Tb Ps HB) (dB : Dice HB d) (tabB : Tabs [(pT, q)] HB) :
    Step (LX0 P w K mg base f c A outer s H0 E) (lb 9) (Pre7 Ps d HB C0 cn L pc pr dr pt ps) (PZ7 pT q Ps d HB C0 cn L pc pr dr pt ps) := by
  have hr0 := hr.mono (show k ≤ k + 2 by omega)
  have body : Steps (LX0 P w K mg base f c A outer s H0 E) (forB (lb 9)) (fun σ H => L ≠ [] ∧ Pre7 Ps d HB C0 cn L pc pr dr pt ps σ H) (PZ7 pT q Ps d HB C0 cn L pc pr dr pt ps) := by
    rw [four9]
    refine Steps.of fun ne => ?_
    refine Steps.cons (l9a Z T hr0 hT ne) (Steps.ex fun t => Steps.of fun ht => ?_)
    refine Steps.cons (l9b T hT ht) (Steps.ex fun po => ?_)
    refine Steps.cons (l9c Z T N TB hq nP Fg mgg bd hr hT hc ht tbB dB tabB) (Steps.ex fun H9 => Steps.of fun r9 => Steps.one ?_)
    obtain ⟨t, ht, kt⟩ := l9d (HB := H9) (f := f) (c := c) (d := d) (A := A) (outer := outer) (s := s) (H0 := H0) (E := E) (pc := pc) (pr := pr) (dr := dr) (pt := pt) (ps := ps) Z T N TB hq nP Fg mgg bd hr hT hc r9.tb r9.di r9.tab
    exact ⟨t, ht, fun D σ H hp hn => kt D σ H hp fun σ' H' ⟨H10, r10, h10⟩ => hn _ _ ⟨H10, r9.trans r10, h10⟩⟩
  obtain ⟨tb, hb, kb⟩ := body
  refine ⟨_, ps_if (pt_cmpR (op_neD hr0.units) (pv 5) (pe_lst pa_nil) (nomark _)) hb pss_nil, fun D σ H hp hn => ?_⟩
  obtain ⟨⟨z0, z3, z6, z7, z8, z9, z10, z11, z12, z13, z15, z16, z17, z18, z19, z20, z21, z22, z23, z24, z25, z26, rfl⟩, gg⟩ := hp
  refine ⟨_, rfl, (by show 0 ≤ sizeLine; decide), fun e he => ?_⟩
  have g1 := gg.newA (o := .lst []) he
  refine rNe_lI (ns := L) (ms := []) (SqL.of (g1.at_ (i := 2) rfl)) (SqL.of (g1.at_ (i := 0) rfl)) ⟨_, rfl, ?_⟩
  have g2 := g1.sub (os' := O4 C0 cn L pc pr dr pt ps) fun x hx => List.mem_cons_of_mem _ hx
  by_cases ne : L = []
  · rw [show (!decide (L = [])) = false by simp [ne]]
    refine hn _ _ ⟨HB, ⟨tabB, tbB, dB, fun _ _ _ h => h⟩, ⟨_, _, _, _, _, _, _, _, _, _, _, _, _, _, _, _, _, _, _, _, _, _, rfl⟩, g2⟩
  · rw [show (!decide (L = [])) = true by simp [ne]]
    exact kb D _ _ ⟨ne, ⟨_, _, _, _, _, _, _, _, _, _, _, _, _, _, _, _, _, _, _, _, _, _, rfl⟩, g2⟩ hn
end
end K8

set_option maxRecDepth 100000
set_option maxHeartbeats 4000000
namespace K8
open PySem PySem.Spec PyProof.Rows L2
open XT (Sm pe_msg)
open SkE (pmk_own1)
open LamX (Tabs TabS CodeO ExtN codeO_ne)
section
variable {P : Program} {w : World} {K : PySem.W.Frag} {mg : Str → Option Value} {base : Heap} {R Pp C0 : Addr} {Ps : List Addr}
variable {f c d : Addr} {k : Nat} {A : Around} {outer : List Env} {s : Shared} {H0 HB : Hp} {E : XK}

def Pre11 (Ps : List Addr) (d : Addr) (HB : Hp) (C0 : Addr) (c : Cn) (L : List Int) (pc pr dr pt ps pk : Addr) (i : Nat) : L2.St → Hp → Prop := fun σ H => (∃ z0 z3 z6 z7 z8 z9 z10 z11 z12 z13 z15 z16 z18 z19 z20 z21 z22 z23 z24 z25 z26, σ = [z0, some (.ref d), some (.ref pc), z3, some (.ref pr), some (.ref pt), z6, z7, z8, z9, z10, z11, z12, z13, some (.ref ps), z15, z16, some (.ref pk), z18, z19, z20, z21, z22, z23, z24, z25, z26]) ∧ Hk Ps d HB ((pk, .tup ((AE c L i).map V.int)) :: O4 C0 c L pc pr dr pt ps) H
theorem law10 (T : Txt K mg R Pp C0) {cn : Cn} {L : List Int} {pc pr dr pt ps : Addr} :
    Step (LX0 P w K mg base f c A outer s H0 E) (lb 10) (Pre7 Ps d HB C0 cn L pc pr dr pt ps) (fun σ H => ∃ pk, Pre11 Ps d HB C0 cn L pc pr dr pt ps pk 0 σ H) := by
  refine ⟨_, ps_set (i := 17) sc_law.nd rfl (.inr rfl) (pe_tup pa_nil), fun D σ H hp hn => ?_⟩
  obtain ⟨⟨z0, z3, z6, z7, z8, z9, z10, z11, z12, z13, z15, z16, z17, z18, z19, z20, z21, z22, z23, z24, z25, z26, rfl⟩, g⟩ := hp
  refine ⟨(by show 0 ≤ sizeLine; decide), fun p hp => ?_⟩
  exact hn _ _ ⟨p, ⟨_, _, _, _, _, _, _, _, _, _, _, _, _, _, _, _, _, _, _, _, _, rfl⟩, g.newA hp⟩
theorem law11 (Z : Callees P w K mg base R Pp C0 Ps k) (T : Txt K mg R Pp C0) (hr : Room k (A.deeper (envOfC "law" (defScope s_law) s.heap.objs.size f (.ref c)))) {cn : Cn} {L : List Int} {pc pr dr pt ps pk : Addr} (hT : Tm L) (hc : Cs cn) :
    Step (LX0 P w K mg base f c A outer s H0 E) (lb 11) (Pre11 Ps d HB C0 cn L pc pr dr pt ps pk 0) (fun σ H => ∃ pk, Pre11 Ps d HB C0 cn L pc pr dr pt ps pk L.length σ H) := by
  obtain ⟨_, _, _, k1, M1⟩ := Z.stays
  have ss := hT.1
  have l8 := hT.2.1
  refine ⟨_, ps_for (passes_of rfl) rfl (pi_list (pv 5)) (pg_name (i := 7) sc_law.nd rfl (.inr rfl)) (pss_one (ps_set (i := 17) sc_law.nd rfl (.inr rfl) (pe_meth (pv 4) T.cl M1.m M1.ok (hr.mono k1) M1.b .nil passF (pa_cons (pe_op op_catA (pv 17) (pe_tup (pa_cons (pv 7) pa_nil))) pa_nil)))), fun D σ H hp hn => ?_⟩
  obtain ⟨⟨z0, z3, z6, z7, z8, z9, z10, z11, z12, z13, z15, z16, z18, z19, z20, z21, z22, z23, z24, z25, z26, rfl⟩, g⟩ := hp
  refine ⟨_, rfl, pt, rfl, ⟨_, SqL.of (g.at_ (i := 2) rfl)⟩, for_list (xs := L.map V.int) (fun i σ H' => ∃ pk, Pre11 Ps d HB C0 cn L pc pr dr pt ps pk i σ H') ⟨pk, ⟨_, _, _, _, _, _, _, _, _, _, _, _, _, _, _, _, _, _, _, _, _, rfl⟩, g⟩ ?_ ?_ ?_⟩
  · rintro i σ H' hi ⟨pk, _, gi⟩
    exact SqL.of (gi.at_ (i := 2) rfl)
  · rintro i x σ H' hx ⟨pk, ⟨z0, z3, z6, z7, z8, z9, z10, z11, z12, z13, z15, z16, z18, z19, z20, z21, z22, z23, z24, z25, z26, rfl⟩, gi⟩
    rw [List.getElem?_map] at hx
    obtain ⟨t, ht2, rfl⟩ := Option.map_eq_some_iff.mp hx
    have htL : t ∈ L := List.mem_of_getElem? ht2
    have lt := take_lt ss ht2
    have sub := ae_sub (c := cn) (l := L) i
    have ss1 : SS (AE cn L i ++ [t]) := snoc_ss (ae_ss ss i) fun x hx => lt x (sub x hx)
    have hxl : ∀ x ∈ AE cn L i ++ [t], x ∈ L := fun x hx => by
      rcases List.mem_append.mp hx with z | z
      · exact List.mem_of_mem_take (sub x z)
      · rw [List.mem_singleton.mp z]; exact htL
    have l1 : (AE cn L i ++ [t]).length ≤ 8 := Nat.le_trans (len_le ss1.nodup hxl) l8
    refine ⟨_, rfl, pr, dr, _, rfl, gi.at_ (i := 3) rfl, rfl, _, rfl, _, rfl, (by show 1 ≤ sizeLine; decide), fun u hu => ?_⟩
    have g1 := gi.newA (o := .tup [.int t]) hu
    have fin : ∀ (r : Addr) (Hx : Hp) (Q2 : VK), Hk Ps d HB ((r, .tup ((AE cn L i ++ [t]).map V.int)) :: O4 C0 cn L pc pr dr pt ps) Hx → (∀ v H4, Hk Ps d HB ((v, .tup ((AE cn L (i + 1)).map V.int)) :: O4 C0 cn L pc pr dr pt ps) H4 → Q2 (.ref v) H4) → sp_stays K C0 Ps [.ref pr, .ref r] Hx Q2 fun _ _ _ => False := fun r Hx Q2 gx hq2 =>
      ⟨pr, r, cn, AE cn L i ++ [t], AE cn L i ++ [t], rfl, ⟨dr, gx.at_ (i := 3) rfl⟩, hc.ok, ⟨.inr (SqT_of (gx.at_ (i := 0) rfl)), ss1, fun x => Iff.rfl, by omega, fun x hx => by
        have := hT.2.2 x (hxl x hx)
        omega⟩, gx.tb, fun H4 v g4 hv hV => hq2 v H4 (((gx.sub fun x hx => List.mem_cons_of_mem _ hx).gw g4).add (by rw [ae_succ ht2]; exact hV) (gx.nd hv) (gx.nP hv))⟩
    refine ⟨pk, u, _, _, rfl, rfl, SqT_of (g1.at_ (i := 1) rfl), SqT_of (g1.at_ (i := 0) rfl), ?_, fun e => ?_, fun _ e => (by cases e), fun _ _ r hr => ?_⟩
    · rw [List.length_map]
      rw [List.length_append] at l1
      have h3 : 100 ≤ sizeLine := by decide
      have : [V.int t].length = [t].length := rfl
      omega
    · refine fin u _ _ ((g1.sub (os' := O4 C0 cn L pc pr dr pt ps) fun x hx => List.mem_cons_of_mem _ (List.mem_cons_of_mem _ hx)).add ?_ (gi.nd hu) (gi.nP hu)) fun v H4 h4 => ⟨v, ⟨_, _, _, _, _, _, _, _, _, _, _, _, _, _, _, _, _, _, _, _, _, rfl⟩, h4⟩
      rw [upd_same, List.map_append, e]
      rfl
    · refine fin r _ _ (((g1.new hr).sub (os' := O4 C0 cn L pc pr dr pt ps) fun x hx => List.mem_cons_of_mem _ (List.mem_cons_of_mem _ hx)).add ?_ (g1.nd hr) (g1.nP hr)) fun v H4 h4 => ⟨v, ⟨_, _, _, _, _, _, _, _, _, _, _, _, _, _, _, _, _, _, _, _, _, rfl⟩, h4⟩
      rw [upd_same, List.map_append]
      rfl
  · rintro σ H' ⟨pk, h⟩
    rw [List.length_map] at h
    exact hn _ _ ⟨pk, h⟩
theorem law12 (Z : Callees P w K mg base R Pp C0 Ps k) (T : Txt K mg R Pp C0) (hr : Room k (A.deeper (envOfC "law" (defScope s_law) s.heap.objs.size f (.ref c)))) {cn : Cn} {L : List Int} {pc pr dr pt ps pk : Addr} (hT : Tm L) (hc : Cs cn) :
    Step (LX0 P w K mg base f c A outer s H0 E) (lb 12) (Pre11 Ps d HB C0 cn L pc pr dr pt ps pk L.length) (Pre7 Ps d HB C0 cn L pc pr dr pt ps) := by
  obtain ⟨_, _, _, k1, G1⟩ := Z.after
  have l8 := hT.2.1
  have l8s := st_len8 (c := cn) hT
  refine ⟨_, ps_if (PW.pt (pw_or (pt_cmpR (op_neD hr.units) (pe_call G1.ok (hr.mono k1) (by rfl) G1.g G1.kp G1.b .nil passF (pa_cons (pv 4) (pa_cons (pe_op op_cat (pe_revLK (K0 := K) rfl (pv 5)) (pv 5)) pa_nil))) (pv 17) (nomark _))
    (pw_or1 (pt_cmpR (op_neD hr.units) (pe_lc (own := [("time", 7)]) rfl sc_law.nd (pi_list (pv 14)) (blkOk_by (by show blkC Nlaw (defScope s_law) _ _ = true; decide +kernel)) (fun _ _ _ _ _ => (pg_name (i := 7) sc_law.nd rfl (.inl rfl))) (fun _ _ _ _ _ => (pts_one (pt_cmpR (op_notInK (K0 := K) rfl) (pv 7) (pv 17) (by with_unfolding_all rfl)))) (fun _ _ _ _ _ => (pv 7))) (pe_lst pa_nil) (nomark _)))))
      (pss_one (ps_ret pe_bl)) pss_nil, fun D σ H hp hn => ?_⟩
  obtain ⟨⟨z0, z3, z6, z7, z8, z9, z10, z11, z12, z13, z15, z16, z18, z19, z20, z21, z22, z23, z24, z25, z26, rfl⟩, g⟩ := hp
  refine ⟨_, rfl, _, rfl, pt, _, rfl, SqL.of (g.at_ (i := 2) rfl), fun q1 h1 => ?_⟩
  rw [← List.map_reverse]
  have g1 := g.newA (o := .lst (L.reverse.map V.int)) h1
  refine ⟨_, rfl, q1, pt, _, _, rfl, rfl, g1.at_ (i := 0) rfl, g1.at_ (i := 3) rfl, ?_, fun q2 h2 => ?_⟩
  · rw [List.length_map, List.length_map, List.length_reverse]
    have : 100 ≤ sizeLine := by decide
    omega
  rw [← List.map_append]
  have g2 := g1.newA (o := .lst ((L.reverse ++ L).map V.int)) h2
  refine ⟨pr, q2, cn, L.reverse ++ L, L, rfl, ⟨dr, g2.at_ (i := 5) rfl⟩, hc.ok, tms_of hT (g2.at_ (i := 0) rfl) (fun x => by simp) (by rw [List.length_append, List.length_reverse]; omega), g2.tb, fun H3 v g3 hv0 hv => ?_⟩
  have g3 := (g2.gw g3).add hv (g2.nd hv0) (g2.nP hv0)
  refine ⟨_, rfl, rNe_tI (ns := AE cn L L.length) (ms := AE cn L L.length) (SqT_of (g3.at_ (i := 0) rfl)) (SqT_of (g3.at_ (i := 3) rfl)) ⟨_, rfl, ?_⟩⟩
  rw [show (!decide (AE cn L L.length = AE cn L L.length)) = false by simp]
  show tLc (iList K (tVar 14)) (gName 7) _ (tVar 7) [7] [z0, some (.ref d), some (.ref pc), z3, some (.ref pr), some (.ref pt), z6, z7, z8, z9, z10, z11, z12, z13, some (.ref ps), z15, z16, some (.ref pk), z18, z19, z20, z21, z22, z23, z24, z25, z26] _ (fun y G' => tLst tNil [z0, some (.ref d), some (.ref pc), z3, some (.ref pr), some (.ref pt), z6, z7, z8, z9, z10, z11, z12, z13, some (.ref ps), z15, z16, some (.ref pk), z18, z19, z20, z21, z22, z23, z24, z25, z26] G' (fun z G'' => rNeD K y z G'' _))
  refine filtC (fun _ => false) (by show 7 < 27; decide) g3.tb (g3.at_ (i := 4) rfl) (by omega) (fun R r => ⟨_, rfl, r⟩) (fun t ht G9 gw9 Rk rk => ?_) (fun D9 G9 gw9 hD9 hG9 => ?_)
  · have g9 := g3.gw gw9
    refine ⟨_, rfl, _, rfl, pk, _, rfl, .inr (SqT_of (g9.at_ (i := 3) rfl)), rfl, flat_I _, ?_⟩
    rw [inV_I]
    refine ⟨_, rfl, ?_⟩
    simp only [if_true, st_kept hT.1 t ht, decide_true, Bool.not_true]
    exact rk _ (Gw.refl gw9.1)
  have g13 := (g3.gw gw9).add hG9 (g3.nd hD9) (g3.nP hD9)
  refine ⟨(by show 0 ≤ sizeLine; decide), fun e he => ?_⟩
  have g14 := g13.newA (o := .lst []) he
  have e0 : ((ST cn L).filter fun _ => false) = [] := by simp
  refine rNe_lI (ns := []) (ms := []) (SqL.of (by have := g14.at_ (i := 1) rfl; rw [e0] at this; exact this)) (SqL.of (g14.at_ (i := 0) rfl)) ⟨_, rfl, ?_⟩
  rw [show (!decide (([] : List Int) = [])) = false by simp]
  refine hn _ _ ⟨⟨_, _, _, _, _, _, _, _, _, _, _, _, _, _, _, _, _, _, _, _, _, _, rfl⟩, g14.sub fun x hx => ?_⟩
  iterate 6 refine List.mem_cons_of_mem _ ?_
  exact hx
end
end K8

set_option maxRecDepth 100000
set_option maxHeartbeats 4000000
namespace K8
open PySem PySem.Spec PyProof.Rows L2
open XT (Sm pe_msg)
open SkE (pmk_own1)
open LamX (Tabs TabS CodeO ExtN codeO_ne)
section
variable {P : Program} {w : World} {K : PySem.W.Frag} {mg : Str → Option Value} {base : Heap} {R Pp C0 : Addr} {Ps : List Addr}
variable {f c d : Addr} {k : Nat} {A : Around} {outer : List Env} {s : Shared} {H0 HB : Hp} {E : XK}

def O13 (C0 : Addr) (c cm : Cn) (L : List Int) (pc pr dr pt ps pm : Addr) : List (Addr × HO) := (pm, .lst ((cnL cm).map V.int)) :: O4 C0 c L pc pr dr pt ps
def Pre13 (Ps : List Addr) (d : Addr) (HB : Hp) (C0 : Addr) (c cm : Cn) (L : List Int) (pc pr dr pt ps pm : Addr) : L2.St → Hp → Prop := fun σ H => (∃ z0 z3 z6 z7 z8 z9 z10 z11 z12 z13 z15 z16 z17 z19 z20 z21 z22 z23 z24 z25 z26, σ = [z0, some (.ref d), some (.ref pc), z3, some (.ref pr), some (.ref pt), z6, z7, z8, z9, z10, z11, z12, z13, some (.ref ps), z15, z16, z17, some (.ref pm), z19, z20, z21, z22, z23, z24, z25, z26]) ∧ Hk Ps d HB (O13 C0 c cm L pc pr dr pt ps pm) H
theorem law13 (Z : Callees P w K mg base R Pp C0 Ps k) (T : Txt K mg R Pp C0) (hr : Room k (A.deeper (envOfC "law" (defScope s_law) s.heap.objs.size f (.ref c)))) {cn : Cn} {L : List Int} {pc pr dr pt ps : Addr} :
    Step (LX0 P w K mg base f c A outer s H0 E) (lb 13) (Pre7 Ps d HB C0 cn L pc pr dr pt ps) (fun σ H => ∃ cm pm, Cs cm ∧ Pre13 Ps d HB C0 cn cm L pc pr dr pt ps pm σ H) := by
  obtain ⟨_, _, _, k2, G2⟩ := Z.roll
  refine ⟨_, ps_set (i := 18) sc_law.nd rfl (.inr rfl) (pe_lc (own := [("k", 3)]) rfl sc_law.nd (pi_range1 (by rfl) T.z_range (pa_cons pe_int pa_nil)) (blkOk_by (by show blkC Nlaw (defScope s_law) _ _ = true; decide +kernel)) (fun _ _ _ _ _ => (pg_name (i := 3) sc_law.nd rfl (.inl rfl))) (fun _ _ _ _ _ => pts_nil) (fun _ _ _ _ _ => (pe_call G2.ok (hr.mono k2) (by rfl) G2.g G2.kp G2.b .nil passF (pa_cons (pv 1) (pa_cons pe_int pa_nil))))), fun D σ H hp hn => ?_⟩
  obtain ⟨⟨z0, z3, z6, z7, z8, z9, z10, z11, z12, z13, z15, z16, z17, z18, z19, z20, z21, z22, z23, z24, z25, z26, rfl⟩, g⟩ := hp
  refine rolls4 rfl g.tb g.gd.dice fun c pm G' hc g2 hn0 hG => ?_
  refine hn _ _ ⟨c, pm, hc, ⟨_, _, _, _, _, _, _, _, _, _, _, _, _, _, _, _, _, _, _, _, _, rfl⟩, (g.gdd g2).add hG (g.nd hn0) (g.nP hn0)⟩
def O14 (C0 : Addr) (c cm : Cn) (L : List Int) (pc pr dr pt ps pm pq dq : Addr) : List (Addr × HO) := (pq, .ins C0 dq (ruF (c.both cm))) :: O13 C0 c cm L pc pr dr pt ps pm
def Pre14 (Ps : List Addr) (d : Addr) (HB : Hp) (C0 : Addr) (c cm : Cn) (L : List Int) (pc pr dr pt ps pm pq dq : Addr) : L2.St → Hp → Prop := fun σ H => (∃ z0 z3 z6 z7 z8 z9 z10 z11 z12 z13 z15 z16 z17 z20 z21 z22 z23 z24 z25 z26, σ = [z0, some (.ref d), some (.ref pc), z3, some (.ref pr), some (.ref pt), z6, z7, z8, z9, z10, z11, z12, z13, some (.ref ps), z15, z16, z17, some (.ref pm), some (.ref pq), z20, z21, z22, z23, z24, z25, z26]) ∧ Hk Ps d HB (O14 C0 c cm L pc pr dr pt ps pm pq dq) H
theorem law14 (Z : Callees P w K mg base R Pp C0 Ps k) (T : Txt K mg R Pp C0) (hr : Room k (A.deeper (envOfC "law" (defScope s_law) s.heap.objs.size f (.ref c)))) {cn cm : Cn} {L : List Int} {pc pr dr pt ps pm : Addr} (hc : Cs cn) (hm : Cs cm) :
    Step (LX0 P w K mg base f c A outer s H0 E) (lb 14) (Pre13 Ps d HB C0 cn cm L pc pr dr pt ps pm) (fun σ H => ∃ pq dq, Pre14 Ps d HB C0 cn cm L pc pr dr pt ps pm pq dq σ H) := by
  obtain ⟨_, _, _, k2, MK, FI, BI⟩ := Z.mkr
  obtain ⟨_, _, _, k1, G1⟩ := Z.both
  refine ⟨_, ps_set (i := 19) sc_law.nd rfl (.inr rfl) (pe_call G1.ok (hr.mono k1) (by rfl) G1.g G1.kp G1.b .nil passF (pa_cons (pv 4) (pa_cons (pe_make MK FI (hr.mono k2) (by rfl) T.g_Rule BI .nil passF (pa_cons (pe_ix ix_list (pv 18) pe_int (fun _ _ => rfl)) (pa_cons (pe_ix ix_list (pv 18) pe_int (fun _ _ => rfl)) (pa_cons (pe_ix ix_list (pv 18) pe_int (fun _ _ => rfl)) (pa_cons (pe_ix ix_list (pv 18) pe_int (fun _ _ => rfl)) pa_nil))))) pa_nil))), fun D σ H hp hn => ?_⟩
  obtain ⟨⟨z0, z3, z6, z7, z8, z9, z10, z11, z12, z13, z15, z16, z17, z19, z20, z21, z22, z23, z24, z25, z26, rfl⟩, g⟩ := hp
  refine ⟨_, rfl, ?_⟩
  refine mkRule (i := 18) rfl (g.at_ (i := 0) rfl) g.tb hm fun r dm G' gw hr0 hG => ?_
  have g1 := (g.gw gw).add hG (g.nd hr0) (g.nP hr0)
  refine ⟨pr, r, cn, cm, rfl, ⟨dr, g1.at_ (i := 4) rfl⟩, ⟨dm, g1.at_ (i := 0) rfl⟩, hc.ok, hm.ok, g1.tb, fun H2 q g2 hq => ?_⟩
  obtain ⟨dq, hq⟩ := hq
  have g3 := (g.gw gw).gw g2
  refine hn _ _ ⟨q, dq, ⟨_, _, _, _, _, _, _, _, _, _, _, _, _, _, _, _, _, _, _, _, rfl⟩, g3.add hq (fun z => ?_) (g3.tb.not hq fun _ z => by cases z)⟩
  obtain ⟨x, y, v, hd⟩ := g3.gd.dice
  rw [z, hd] at hq
  cases hq
theorem law15 (Z : Callees P w K mg base R Pp C0 Ps k) (T : Txt K mg R Pp C0) (hr : Room k (A.deeper (envOfC "law" (defScope s_law) s.heap.objs.size f (.ref c)))) {cn cm : Cn} {L : List Int} {pc pr dr pt ps pm pq dq : Addr} (hT : Tm L) (hc : Cs cn) (hm : Cs cm) :
    Step (LX0 P w K mg base f c A outer s H0 E) (lb 15) (Pre14 Ps d HB C0 cn cm L pc pr dr pt ps pm pq dq) (Pre7 Ps d HB C0 cn L pc pr dr pt ps) := by
  obtain ⟨_, _, _, k1, M1⟩ := Z.shown
  obtain ⟨_, _, _, k2, M2⟩ := Z.stays
  have l8 := hT.2.1
  have l8s := st_len8 (c := cn) hT
  refine ⟨_, ps_if (PW.pt (pw_or (pt_cmpR (op_neD hr.units) (pe_meth0 (pv 19) T.cl M1.m M1.ok (hr.mono k1) M1.b .nil passF) (pe_callTy cr_tupOf (by rfl) T.z_tuple (by decide +kernel) (pa_cons (pe_lc (own := [("k", 3)]) rfl sc_law.nd (pi_range1 (by rfl) T.z_range (pa_cons pe_int pa_nil)) (blkOk_by (by show blkC Nlaw (defScope s_law) _ _ = true; decide +kernel)) (fun _ _ _ _ _ => (pg_name (i := 3) sc_law.nd rfl (.inl rfl))) (fun _ _ _ _ _ => pts_nil) (fun _ _ _ _ _ => (pe_callB (call_max2 rfl) (by rfl) T.z_max (by decide +kernel) (pa_cons (pe_ix (ix_listK (K0 := K) rfl) (pv 2) (pv 3) (fun _ _ => rfl)) (pa_cons (pe_ix (ix_listK (K0 := K) rfl) (pv 18) (pv 3) (fun _ _ => rfl)) pa_nil))))) pa_nil)) (nomark _))
    (pw_or1 (pt_cmpR (op_neD hr.units) (pe_lc (own := [("time", 7)]) rfl sc_law.nd (pi_list (pv 14)) (blkOk_by (by show blkC Nlaw (defScope s_law) _ _ = true; decide +kernel)) (fun _ _ _ _ _ => (pg_name (i := 7) sc_law.nd rfl (.inl rfl))) (fun _ _ _ _ _ => (pts_one (pt_cmpR (op_notInK (K0 := K) rfl) (pv 7) (pe_meth (pv 19) T.cl M2.m M2.ok (hr.mono k2) M2.b .nil passF (pa_cons (pv 5) pa_nil)) (by with_unfolding_all rfl)))) (fun _ _ _ _ _ => (pv 7))) (pe_lst pa_nil) (nomark _)))))
      (pss_one (ps_ret pe_bl)) pss_nil, fun D σ H hp hn => ?_⟩
  obtain ⟨⟨z0, z3, z6, z7, z8, z9, z10, z11, z12, z13, z15, z16, z17, z20, z21, z22, z23, z24, z25, z26, rfl⟩, g⟩ := hp
  have okb : (cn.both cm).ok := by
    obtain ⟨a1, a2, a3, a4⟩ := hc
    obtain ⟨b1, b2, b3, b4⟩ := hm
    unfold Cn.ok Cn.both
    simp only
    omega
  refine ⟨_, rfl, pq, dq, _, rfl, g.at_ (i := 0) rfl, rfl, pq, cn.both cm, rfl, ⟨dq, g.at_ (i := 0) rfl⟩, g.tb, fun H1 v1 gw1 hv1 hvo1 => ?_⟩
  have g1 := (g.gw gw1).add hvo1 (g.nd hv1) (g.nP hv1)
  show tLc (iRng1 (tCons (tC (.int 4)) tNil)) (gName 3) tYes _ [3] [z0, some (.ref d), some (.ref pc), z3, some (.ref pr), some (.ref pt), z6, z7, z8, z9, z10, z11, z12, z13, some (.ref ps), z15, z16, z17, some (.ref pm), some (.ref pq), z20, z21, z22, z23, z24, z25, z26] _ (fun v G' => rTupOf K [v] G' (fun z G'' => rNeD K (.ref v1) z G'' _))
  refine tLc_rng1 4 4 (fun R r => r) ⟨by decide, by decide⟩ rfl (fun D' hD => ?_)
  have nDP := g1.nP hD
  refine lc_range (fun i G => Gw Ps H1 G ∧ G D' = some (.lst (((cnL (cn.both cm)).take i).map V.int))) ⟨(Gw.refl g1.tb).new hD, upd_same⟩ ?_ ?_
  · rintro i G hi ⟨gw, hG⟩
    have gi := g1.gw gw
    refine ⟨rfl, ?_⟩
    simp only [tYes, wipe, List.map_cons, List.map_nil, List.set_cons_zero, List.set_cons_succ, ↓reduceIte]
    have i4 : i < 4 := hi
    have sel : ∃ u v : Nat, (cnL cn)[i]? = some ((u : Nat) : Int) ∧ (cnL cm)[i]? = some ((v : Nat) : Int) ∧ (cnL (cn.both cm))[i]? = some ((max u v : Nat) : Int) := by
      match i, i4 with
      | 0, _ => exact ⟨cn.n, cm.n, rfl, rfl, rfl⟩
      | 1, _ => exact ⟨cn.d, cm.d, rfl, rfl, rfl⟩
      | 2, _ => exact ⟨cn.w, cm.w, rfl, rfl, rfl⟩
      | 3, _ => exact ⟨cn.m, cm.m, rfl, rfl, rfl⟩
      | n + 4, h => exact absurd h (by omega)
    obtain ⟨u, v, e1, e2, e3⟩ := sel
    refine ⟨_, rfl, _, rfl, pc, _, ((i : Nat) : Int), .int (u : Nat), rfl, (by rw [Int.zero_add]), SqL.of (gi.at_ (i := 6) rfl), atI_nat (by rw [List.getElem?_map, e1]; rfl), ?_⟩
    refine ⟨_, rfl, _, rfl, pm, _, ((i : Nat) : Int), .int (v : Nat), rfl, (by rw [Int.zero_add]), SqL.of (gi.at_ (i := 2) rfl), atI_nat (by rw [List.getElem?_map, e2]; rfl), ?_⟩
    refine ⟨_, _, rfl, ?_⟩
    have em : (if ((v : Nat) : Int) > (u : Nat) then ((v : Nat) : Int) else (u : Nat)) = ((max u v : Nat) : Int) := by split <;> omega
    rw [em]
    refine ⟨_, hG, ?_, gw.set hD nDP, ?_⟩
    · rw [List.length_map, List.length_take]
      have : 100 ≤ sizeLine := by decide
      have : (cnL (cn.both cm)).length = 4 := rfl
      omega
    · rw [upd_same, List.take_add_one, e3, List.map_append]
      rfl
  rintro G ⟨gw, hG⟩
  have hG : G D' = some (.lst ((cnL (cn.both cm)).map V.int)) := hG
  have g2 := (g1.gw gw).add hG (g1.nd hD) nDP
  refine ⟨D', _, rfl, .inl ⟨SqL.of (g2.at_ (i := 0) rfl), fun q3 h3 => ?_⟩⟩
  have g3 := g2.newA (o := .tup ((cnL (cn.both cm)).map V.int)) h3
  refine rNe_tI (ns := cnL (cn.both cm)) (ms := cnL (cn.both cm)) (SqT_of (g3.at_ (i := 2) rfl)) (SqT_of (g3.at_ (i := 0) rfl)) ⟨_, rfl, ?_⟩
  rw [show (!decide (cnL (cn.both cm) = cnL (cn.both cm))) = false by simp]
  show tLc (iList K (tVar 14)) (gName 7) _ (tVar 7) [7] [z0, some (.ref d), some (.ref pc), z3, some (.ref pr), some (.ref pt), z6, z7, z8, z9, z10, z11, z12, z13, some (.ref ps), z15, z16, z17, some (.ref pm), some (.ref pq), z20, z21, z22, z23, z24, z25, z26] _ (fun y G' => tLst tNil [z0, some (.ref d), some (.ref pc), z3, some (.ref pr), some (.ref pt), z6, z7, z8, z9, z10, z11, z12, z13, some (.ref ps), z15, z16, z17, some (.ref pm), some (.ref pq), z20, z21, z22, z23, z24, z25, z26] G' (fun z G'' => rNeD K y z G'' _))
  refine filtC (fun _ => false) (by show 7 < 27; decide) g3.tb (g3.at_ (i := 5) rfl) (by omega) (fun R r => ⟨_, rfl, r⟩) (fun t ht G9 gw9 Rk rk => ?_) (fun D9 G9 gw9 hD9 hG9 => ?_)
  · have g9 := g3.gw gw9
    refine ⟨_, rfl, _, rfl, pq, dq, _, rfl, g9.at_ (i := 3) rfl, rfl, _, rfl, pq, pt, cn.both cm, L, L, rfl, ⟨dq, g9.at_ (i := 3) rfl⟩, okb, tms_of hT (g9.at_ (i := 6) rfl) (fun x => Iff.rfl) (by omega), g9.tb, fun H10 v10 gw10 hv10 hvo10 => ?_⟩
    refine ⟨v10, _, rfl, .inr (SqT_of hvo10), rfl, flat_I _, ?_⟩
    rw [inV_I]
    refine ⟨_, rfl, ?_⟩
    simp only [if_true, st_both (b := cm) t ht, decide_true, Bool.not_true]
    exact rk _ gw10
  have g13 := (g3.gw gw9).add hG9 (g3.nd hD9) (g3.nP hD9)
  refine ⟨(by show 0 ≤ sizeLine; decide), fun e he => ?_⟩
  have g14 := g13.newA (o := .lst []) he
  have e0 : ((ST cn L).filter fun _ => false) = [] := by simp
  refine rNe_lI (ns := []) (ms := []) (SqL.of (by have := g14.at_ (i := 1) rfl; rw [e0] at this; exact this)) (SqL.of (g14.at_ (i := 0) rfl)) ⟨_, rfl, ?_⟩
  rw [show (!decide (([] : List Int) = [])) = false by simp]
  refine hn _ _ ⟨⟨_, _, _, _, _, _, _, _, _, _, _, _, _, _, _, _, _, _, _, _, _, _, rfl⟩, g14.sub fun x hx => ?_⟩
  iterate 7 refine List.mem_cons_of_mem _ ?_
  exact hx
end
end K8

set_option maxRecDepth 100000
set_option maxHeartbeats 4000000
namespace K8
open PySem PySem.Spec PyProof.Rows L2
open XT (Sm pe_msg)
open SkE (pmk_own1)
open LamX (Tabs TabS CodeO ExtN codeO_ne)
section
variable {P : Program} {w : World} {K : PySem.W.Frag} {mg : Str → Option Value} {base : Heap} {R Pp C0 : Addr} {Ps : List Addr}
variable {f c d : Addr} {k : Nat} {A : Around} {outer : List Env} {s : Shared} {H0 HB : Hp} {E : XK}

theorem law16 (Z : Callees P w K mg base R Pp C0 Ps k) (T : Txt K mg R Pp C0) (hr : Room k (A.deeper (envOfC "law" (defScope s_law) s.heap.objs.size f (.ref c)))) {cn : Cn} {L : List Int} {pc pr dr pt ps : Addr} (hT : Tm L) :
    Step (LX0 P w K mg base f c A outer s H0 E) (lb 16) (Pre7 Ps d HB C0 cn L pc pr dr pt ps) (Pre7 Ps d HB C0 cn L pc pr dr pt ps) := by
  obtain ⟨_, _, _, k1, G1⟩ := Z.gap
  have l8 := hT.2.1
  refine ⟨_, ps_if (pt_cmpR op_ne (pe_call G1.ok (hr.mono k1) (by rfl) G1.g G1.kp G1.b .nil passF (pa_cons (pe_revLK (K0 := K) rfl (pv 5)) pa_nil)) (pe_callB (r := rMax K) (cr_max rfl) (by rfl) T.z_max (by decide +kernel) (pa_cons (pe_op op_cat (pe_lst (pa_cons pe_int pa_nil)) (pe_lc (own := [("k", 3)]) rfl sc_law.nd (pi_range2 (by rfl) T.z_range (pa_cons pe_int (pa_cons (pe_callB (call_lenK (K0 := K) rfl) (by rfl) T.z_len (by decide +kernel) (pa_cons (pv 5) pa_nil)) pa_nil))) (blkOk_by (by show blkC Nlaw (defScope s_law) _ _ = true; decide +kernel)) (fun _ _ _ _ _ => (pg_name (i := 3) sc_law.nd rfl (.inl rfl))) (fun _ _ _ _ _ => pts_nil) (fun _ _ _ _ _ => (pe_op op_sub (pe_ix (ix_listK (K0 := K) rfl) (pv 5) (pv 3) (fun _ _ => rfl)) (pe_ix (ix_listK (K0 := K) rfl) (pv 5) (pe_op op_sub (pv 3) pe_int) (fun _ _ => rfl)))))) pa_nil)) (nomark _))
      (pss_one (ps_ret pe_bl)) pss_nil, fun D σ H hp hn => ?_⟩
  obtain ⟨⟨z0, z3, z6, z7, z8, z9, z10, z11, z12, z13, z15, z16, z17, z18, z19, z20, z21, z22, z23, z24, z25, z26, rfl⟩, g⟩ := hp
  refine ⟨_, rfl, pt, _, rfl, SqL.of (g.at_ (i := 1) rfl), fun q1 h1 => ?_⟩
  rw [← List.map_reverse]
  have g1 := g.newA (o := .lst (L.reverse.map V.int)) h1
  refine ⟨q1, L, rfl, SqL.of (g1.at_ (i := 0) rfl), hT.1, by omega, g1.tb, fun H2 gw2 m m1 m2 => ?_⟩
  have g2 := g1.gw gw2
  refine ⟨(by show 1 ≤ sizeLine; decide), fun q3 h3 => ?_⟩
  have g3 := g2.newA (o := .lst [.int 0]) h3
  refine ⟨_, rfl, pt, _, rfl, .inl (SqL.of (g3.at_ (i := 3) rfl)), 1, _, rfl, ⟨by decide, by decide, by omega, ?_⟩, fun D' hD => ?_⟩
  · rw [List.length_map]; omega
  have nDP := g3.nP hD
  have lg : (gapL L).length = L.length - 1 := by
    unfold gapL
    rw [List.length_map, List.length_range]
  have en : ((((L.map V.int).length : Nat) : Int) - 1).toNat = L.length - 1 := by
    rw [List.length_map]
    omega
  rw [en]
  generalize upd H2 q3 (.lst [.int 0]) = H3 at g3 hD ⊢
  refine lc_range (fun i G => Gw Ps H3 G ∧ G D' = some (.lst (((gapL L).take i).map V.int))) ⟨(Gw.refl g3.tb).new hD, upd_same⟩ ?_ ?_
  · rintro i G hi ⟨gw, hG⟩
    have gi := g3.gw gw
    refine ⟨rfl, ?_⟩
    simp only [tYes, wipe, List.map_cons, List.map_nil, List.set_cons_zero, List.set_cons_succ, ↓reduceIte]
    have i1 : i < L.length := by omega
    have i2 : i + 1 < L.length := by omega
    have et := gi.at_ (i := 3) rfl
    refine ⟨_, rfl, _, rfl, pt, _, ((i + 1 : Nat) : Int), .int L[i + 1], rfl, (by rw [show (1 : Int) + (i : Nat) = ((i + 1 : Nat) : Int) by omega]), SqL.of et, atI_nat (by rw [List.getElem?_map, List.getElem?_eq_getElem i2]; rfl), ?_⟩
    refine ⟨_, rfl, _, rfl, _, _, rfl, rfl, pt, _, ((i : Nat) : Int), .int L[i], rfl, (by show V.int (1 + (i : Nat) - 1) = V.int ((i : Nat) : Int); rw [show (1 : Int) + (i : Nat) - 1 = ((i : Nat) : Int) by omega]), SqL.of et, atI_nat (by rw [List.getElem?_map, List.getElem?_eq_getElem i1]; rfl), ?_⟩
    refine ⟨_, _, rfl, rfl, ?_⟩
    have e3 : (gapL L)[i]? = some (L[i + 1] - L[i]) := by
      unfold gapL
      rw [List.getElem?_map, List.getElem?_range hi]
      simp [List.getD_eq_getElem?_getD, List.getElem?_eq_getElem i1, List.getElem?_eq_getElem i2]
    refine ⟨_, hG, ?_, gw.set hD nDP, ?_⟩
    · rw [List.length_map, List.length_take]
      have : 100 ≤ sizeLine := by decide
      omega
    · rw [upd_same, List.take_add_one, e3, List.map_append]
      rfl
  rintro G ⟨gw, hG⟩
  rw [← lg, List.take_length] at hG
  have g4 := (g3.gw gw).add hG (g3.nd hD) nDP
  refine ⟨q3, D', _, _, rfl, rfl, g4.at_ (i := 1) rfl, g4.at_ (i := 0) rfl, ?_, fun q5 h5 => ?_⟩
  · rw [List.length_map, lg]
    have h1 : [V.int 0].length = 1 := rfl
    have : 100 ≤ sizeLine := by decide
    omega
  have g5 := g4.newA (o := .lst ([.int 0] ++ (gapL L).map V.int)) h5
  refine ⟨q5, 0 :: gapL L, rfl, SqL.of (g5.at_ (i := 0) rfl), Nat.zero_lt_succ _, fun m' m1' m2' => ?_⟩
  have em : m = m' := by
    have a1 := m2 m' m1'
    have a2 := m2' m m1
    omega
  subst em
  refine ⟨rfl, _, rfl, ?_⟩
  rw [show (!decide (V.int m = V.int m)) = false by simp]
  refine hn _ _ ⟨⟨_, _, _, _, _, _, _, _, _, _, _, _, _, _, _, _, _, _, _, _, _, _, rfl⟩, g5.sub fun x hx => ?_⟩
  iterate 4 refine List.mem_cons_of_mem _ ?_
  exact hx
end
end K8

set_option maxRecDepth 100000
set_option maxHeartbeats 4000000
namespace K8
open PySem PySem.Spec PyProof.Rows L2
def pw9 : List Int := [1, 2, 4, 8, 16, 32, 64, 128, 256]
/-- the places of the ones of t -/
def ones (t : Int) : List Int := ((List.range 9).filter fun k => decide ((t / pw9.getD k 1) % 2 = 1)).map fun k => ((k : Nat) : Int)
theorem min_tape : ∀ a < 4, ∀ i < 19, (tapeN a (i + 1) : Int) ∈ ones ((i + 1 : Nat) : Int) ++ [((a : Nat) : Int)] ∧ ∀ y ∈ ones ((i + 1 : Nat) : Int) ++ [((a : Nat) : Int)], (tapeN a (i + 1) : Int) ≤ y := by decide +kernel
theorem tape_le : ∀ a < 4, ∀ i < 19, tapeN a (i + 1) ≤ a := by decide +kernel
def tapesL (a n : Nat) : List Int := ((List.range 4).map fun k => ((k : Nat) : Int)).filter fun x => decide (x ∈ towL a n)
theorem tow_lt : ∀ a < 4, ∀ n < 20, ∀ x ∈ towL a n, x ∈ (List.range 4).map fun k => ((k : Nat) : Int) := by decide +kernel
def candL (a n : Nat) (x : Int) : List Int := ((List.range n).filter fun k => decide ((towL a n).getD k 9 = x)).map fun k => ((k : Nat) : Int) + 1
def mxT (a n : Nat) (x : Int) : Int := (candL a n x).foldl max 0
theorem mx_is : ∀ a < 4, ∀ n < 20, ∀ x ∈ tapesL a n, mxT a n x ∈ candL a n x ∧ ∀ y ∈ candL a n x, y ≤ mxT a n x := by decide +kernel
def lsT (a n : Nat) : List (Key × V) := (tapesL a n).map fun x => (.inl x, .int (mxT a n x))
theorem ot_is : ∀ a < 4, ∀ n < 20, (otD a n).length = (lsT a n).length ∧ ∀ p ∈ otD a n, valV (lsT a n) p.1 = some p.2 ∧ flatB p.2 = true := by decide +kernel
end K8

set_option maxRecDepth 100000
set_option maxHeartbeats 4000000
namespace K8
open PySem PySem.Spec PyProof.Rows L2
open XT (Sm pe_msg)
open SkE (pmk_own1)
open LamX (Tabs TabS CodeO ExtN codeO_ne)
section
variable {P : Program} {w : World} {K : PySem.W.Frag} {mg : Str → Option Value} {base : Heap} {R Pp C0 : Addr} {Ps : List Addr}
variable {f c d : Addr} {k : Nat} {A : Around} {outer : List Env} {s : Shared} {H0 HB : Hp} {E : XK}

def Pre17 (Ps : List Addr) (d : Addr) (HB : Hp) (a n : Nat) : L2.St → Hp → Prop := fun σ H => (∃ z0 z2 z3 z4 z5 z6 z7 z8 z9 z10 z11 z12 z13 z14 z15 z16 z17 z18 z19 z22 z23 z24 z25 z26, σ = [z0, some (.ref d), z2, z3, z4, z5, z6, z7, z8, z9, z10, z11, z12, z13, z14, z15, z16, z17, z18, z19, some (.int ((a + 1 : Nat) : Int)), some (.int (n : Nat)), z22, z23, z24, z25, z26]) ∧ Hk Ps d HB [] H
theorem law17 (Z : Callees P w K mg base R Pp C0 Ps k) (T : Txt K mg R Pp C0) (hr : Room k (A.deeper (envOfC "law" (defScope s_law) s.heap.objs.size f (.ref c)))) {cn : Cn} {L : List Int} {pc pr dr pt ps : Addr} :
    Step (LX0 P w K mg base f c A outer s H0 E) (lb 17) (Pre7 Ps d HB C0 cn L pc pr dr pt ps) (fun σ H => ∃ a n, a < 4 ∧ n < 20 ∧ Pre17 Ps d HB a n σ H) := by
  obtain ⟨_, _, _, k2, G2⟩ := Z.roll
  refine ⟨_, ps_asg (pe_tup (pa_cons (pe_op op_add pe_int (pe_call G2.ok (hr.mono k2) (by rfl) G2.g G2.kp G2.b .nil passF (pa_cons (pv 1) (pa_cons pe_int pa_nil)))) (pa_cons (pe_call G2.ok (hr.mono k2) (by rfl) G2.g G2.kp G2.b .nil passF (pa_cons (pv 1) (pa_cons pe_int pa_nil))) pa_nil))) (pg_tup rfl (pgs_cons (pg_name (i := 20) sc_law.nd rfl (.inr rfl)) (pgs_cons (pg_name (i := 21) sc_law.nd rfl (.inr rfl)) pgs_nil))), fun D σ H hp hn => ?_⟩
  obtain ⟨⟨z0, z3, z6, z7, z8, z9, z10, z11, z12, z13, z15, z16, z17, z18, z19, z20, z21, z22, z23, z24, z25, z26, rfl⟩, g⟩ := hp
  have g := g.sub (os' := []) fun x hx => nomatch hx
  refine ⟨_, rfl, ⟨d, 4, rfl, g.gd.dice, by decide, by decide, fun r1 a1 b1 c1 hr1 => ?_⟩⟩
  have g1 := g.roll a1 b1 c1
  refine ⟨_, _, rfl, rfl, _, rfl, ⟨d, 20, rfl, g1.gd.dice, by decide, by decide, fun r2 a2 b2 c2 hr2 => ?_⟩⟩
  have g2 := g1.roll a2 b2 c2
  refine ⟨(by show 2 ≤ sizeLine; decide), fun q hq => ?_⟩
  have e1 : V.int ((r1 + 1 : Nat) : Int) = V.int ((1 : Int) + (r1 : Nat)) := by rw [show (1 : Int) + (r1 : Nat) = ((r1 + 1 : Nat) : Int) by omega]
  refine gTup2 (v := V.int ((r1 + 1 : Nat) : Int)) (z := V.int (r2 : Nat)) (SqT_of (by rw [e1]; exact upd_same)) (hn _ _ ⟨r1, r2, by omega, by omega, ⟨_, _, _, _, _, _, _, _, _, _, _, _, _, _, _, _, _, _, _, _, _, _, _, _, rfl⟩, g2.new hq⟩)
/-- [x for x in range(n) if ..] -/
theorem filtR {i n : Nat} {σ : L2.St} {G : Hp} {Q : VK} {tt : TT} {ta : TA} (fx : Nat → Bool) (hi : i < σ.length) (hn : n ≤ 100) (tb : Tb Ps G) (ha : ∀ W : List V → Hp → Prop, W [.int (n : Nat)] G → ta σ G W)
    (hs : ∀ t < n, ∀ G' : Hp, Gw Ps G G' → ∀ R : Bool → Hp → Prop, (∀ G'', Gw Ps G' G'' → R (fx t) G'') → tt ((σ.set i none).set i (some (.int (0 + (t : Nat))))) G' R)
    (hq : ∀ D G', Gw Ps G G' → G D = none → G' D = some (.lst ((((List.range n).filter fx).map fun k => ((k : Nat) : Int)).map V.int)) → Q (.ref D) G') : tLc (iRng1 ta) (gName i) tt (tVar i) [i] σ G Q := by
  refine tLc_rng1 (n : Nat) n ha ⟨by omega, by omega⟩ (by omega) (fun D hD => ?_)
  have nDP : D ∉ Ps := tb.none hD
  refine lc_range (fun j G' => Gw Ps G G' ∧ G' D = some (.lst ((((List.range j).filter fx).map fun k => ((k : Nat) : Int)).map V.int))) ⟨(Gw.refl tb).new hD, upd_same⟩ ?_ ?_
  · rintro j G' hj ⟨gw, hG⟩
    refine ⟨by simp [wipe, List.set_set], ?_⟩
    refine hs j hj G' gw _ fun G'' g2 => ?_
    have ek : List.range (j + 1) = List.range j ++ [j] := List.range_succ
    have hG2 := g2.2 _ _ nDP hG
    rw [ek, List.filter_append]
    by_cases m : fx j = true
    · rw [if_pos m]
      have hv : ((wipe σ [i]).set i (some (V.int (0 + (j : Nat)))))[i]? = some (some (V.int (0 + (j : Nat)))) := by
        rw [List.getElem?_set_self]
        show i < (σ.set i none).length
        rw [List.length_set]
        exact hi
      refine ⟨_, hv, _, hG2, ?_, (gw.trans g2).set hD nDP, ?_⟩
      · rw [List.length_map, List.length_map]
        refine Nat.lt_of_le_of_lt (List.length_filter_le _ _) ?_
        rw [List.length_range]
        have : 1000 ≤ sizeLine := by decide
        omega
      · rw [upd_same, List.map_append]
        simp [m]
    · rw [if_neg m]
      refine ⟨gw.trans g2, ?_⟩
      rw [hG2]
      simp [m]
  · rintro G' ⟨gw, hG⟩
    exact hq D G' gw hD hG
theorem pw9_at : ∀ t < 9, ([V.int 1, V.int 2, V.int 4, V.int 8, V.int 16, V.int 32, V.int 64, V.int 128, V.int 256] : List V)[t]? = some (V.int (pw9.getD t 1)) ∧ 0 < pw9.getD t 1 ∧ pw9.getD t 1 ≤ 1000 := by decide +kernel
def Pre18 (Ps : List Addr) (d : Addr) (HB : Hp) (a n : Nat) (pd : Addr) : L2.St → Hp → Prop := fun σ H => (∃ z0 z2 z3 z4 z5 z6 z7 z8 z9 z10 z11 z12 z13 z14 z15 z16 z17 z18 z19 z23 z24 z25 z26, σ = [z0, some (.ref d), z2, z3, z4, z5, z6, z7, z8, z9, z10, z11, z12, z13, z14, z15, z16, z17, z18, z19, some (.int ((a + 1 : Nat) : Int)), some (.int (n : Nat)), some (.ref pd), z23, z24, z25, z26]) ∧ Hk Ps d HB [(pd, .lst ((towL a n).map V.int))] H
theorem tow_get {a n i : Nat} (h : i < n) : (towL a n)[i]? = some ((tapeN a (i + 1) : Nat) : Int) := by
  unfold towL
  rw [List.getElem?_map, List.getElem?_range h]
  rfl
theorem tow_len (a n : Nat) : (towL a n).length = n := by
  unfold towL
  rw [List.length_map, List.length_range]
theorem law18 (T : Txt K mg R Pp C0) {a n : Nat} (ha : a < 4) (hn20 : n < 20) :
    Step (LX0 P w K mg base f c A outer s H0 E) (lb 18) (Pre17 Ps d HB a n) (fun σ H => ∃ pd, Pre18 Ps d HB a n pd σ H) := by
  refine ⟨_, ps_set (i := 22) sc_law.nd rfl (.inr rfl) (pe_lc (own := [("turn", 23)]) rfl sc_law.nd (pi_range2 (by rfl) T.z_range (pa_cons pe_int (pa_cons (pe_op op_add (pv 21) pe_int) pa_nil))) (blkOk_by (by show blkC Nlaw (defScope s_law) _ _ = true; decide +kernel)) (fun _ _ _ _ _ => (pg_name (i := 23) sc_law.nd rfl (.inr rfl))) (fun _ _ _ _ _ => pts_nil)
    (fun _ _ _ _ _ => (pe_callB (r := rMin K) (cr_min rfl) (by rfl) T.z_min (by decide +kernel) (pa_cons (pe_op op_cat (pe_lc (own := [("k", 3)]) rfl sc_law.nd (pi_range1 (by rfl) T.z_range (pa_cons pe_int pa_nil)) (blkOk_by (by show blkC Nlaw { kind := ScopeKind.function, names := [(".0", NameKind.local), ("turn", NameKind.cell), ("min", NameKind.globalImplicit), ("range", NameKind.globalImplicit), ("tapes", NameKind.cell)], isGenerator := false, isCoroutine := false } _ _ = true; decide +kernel)) (fun _ _ _ _ _ => (pg_name (i := 3) sc_law.nd rfl (.inl rfl)))
      (fun _ _ _ _ _ => (pts_one (pt_cmpR op_eq (pe_op op_mod (pe_op op_fdiv (pv 23) (pe_ix (ix_listK (K0 := K) rfl) (pe_lst (pa_cons pe_int (pa_cons pe_int (pa_cons pe_int (pa_cons pe_int (pa_cons pe_int (pa_cons pe_int (pa_cons pe_int (pa_cons pe_int (pa_cons pe_int pa_nil)))))))))) (pv 3) (fun _ _ => rfl))) pe_int) pe_int (nomark _)))) (fun _ _ _ _ _ => (pv 3))) (pe_lst (pa_cons (pe_op op_sub (pv 20) pe_int) pa_nil))) pa_nil)))), fun D σ H hp hn => ?_⟩
  obtain ⟨⟨z0, z2, z3, z4, z5, z6, z7, z8, z9, z10, z11, z12, z13, z14, z15, z16, z17, z18, z19, z22, z23, z24, z25, z26, rfl⟩, g⟩ := hp
  refine ⟨_, rfl, _, _, rfl, rfl, 1, _, rfl, ⟨by decide, by decide, by omega, by omega⟩, fun D' hD => ?_⟩
  have en : (((n : Nat) : Int) + 1 - 1).toNat = n := by omega
  rw [en]
  have nDP := g.nP hD
  refine lc_range (fun i G => Gw Ps H G ∧ G D' = some (.lst (((towL a n).take i).map V.int))) ⟨(Gw.refl g.tb).new hD, upd_same⟩ ?_ ?_
  · rintro i G hi ⟨gw, hG⟩
    have gi := g.gw gw
    refine ⟨rfl, ?_⟩
    simp only [tYes, wipe, List.map_cons, List.map_nil, List.set_cons_zero, List.set_cons_succ, ↓reduceIte]
    have i19 : i < 19 := by omega
    obtain ⟨mt1, mt2⟩ := min_tape a ha i i19
    have eu : (1 : Int) + (i : Nat) = ((i + 1 : Nat) : Int) := by omega
    rw [eu]
    show tLc (iRng1 (tCons (tC (.int 9)) tNil)) (gName 3) _ (tVar 3) [3] [z0, some (.ref d), z2, z3, z4, z5, z6, z7, z8, z9, z10, z11, z12, z13, z14, z15, z16, z17, z18, z19, some (.int ((a + 1 : Nat) : Int)), some (.int (n : Nat)), z22, some (.int ((i + 1 : Nat) : Int)), z24, z25, z26] G (fun v G' => tLst (tCons (tOp (rI0 fun i j => V.int (i - j)) (tVar 20) (tC (V.int 1))) tNil) [z0, some (.ref d), z2, z3, z4, z5, z6, z7, z8, z9, z10, z11, z12, z13, z14, z15, z16, z17, z18, z19, some (.int ((a + 1 : Nat) : Int)), some (.int (n : Nat)), z22, some (.int ((i + 1 : Nat) : Int)), z24, z25, z26] G' (fun z G'' => rCat v z G'' (fun y G3 => rMin K [y] G3 (fun y H4 => ∃ acc, H4 D' = some (.lst acc) ∧ acc.length < sizeLine ∧ Gw Ps H (upd H4 D' (.lst (acc ++ [y]))) ∧ upd H4 D' (.lst (acc ++ [y])) D' = some (.lst (((towL a n).take (i + 1)).map V.int))))))
    refine filtR (n := 9) (fun k => decide ((((i + 1 : Nat) : Int) / pw9.getD k 1) % 2 = 1)) (by show 3 < 27; decide) (by decide) gi.tb (fun R r => r) (fun t ht G9 gw9 Rk rk => ?_) (fun D9 G9 gw9 hD9 hG9 => ?_)
    · obtain ⟨p1, p2, p3⟩ := pw9_at t ht
      refine ⟨_, rfl, (by show 9 ≤ sizeLine; decide), fun u hu => ?_⟩
      refine ⟨_, rfl, u, _, ((t : Nat) : Int), .int (pw9.getD t 1), rfl, (by rw [Int.zero_add]), SqL.of upd_same, atI_nat p1, ?_⟩
      refine ⟨_, _, rfl, rfl, ⟨p2, by omega⟩, _, _, rfl, rfl, (by show (0 : Int) < 2; decide), rfl, _, rfl, ?_⟩
      have r := rk _ ((Gw.refl gw9.1).new (o := .lst [.int 1, .int 2, .int 4, .int 8, .int 16, .int 32, .int 64, .int 128, .int 256]) hu)
      have e : decide (V.int (((i + 1 : Nat) : Int) / pw9.getD t 1 % 2) = V.int 1) = decide (((i + 1 : Nat) : Int) / pw9.getD t 1 % 2 = 1) := decide_eq_decide.mpr ⟨V.int.inj, fun z => by rw [z]⟩
      rw [e]
      exact r
    have g9 := (gi.gw gw9).add hG9 (gi.nd hD9) (gi.nP hD9)
    refine ⟨_, rfl, _, _, rfl, rfl, (by show 1 ≤ sizeLine; decide), fun u hu => ?_⟩
    have g10 := g9.newA (o := .lst [.int (((a + 1 : Nat) : Int) - 1)]) hu
    refine ⟨D9, u, _, _, rfl, rfl, g10.at_ (i := 1) rfl, g10.at_ (i := 0) rfl, ?_, fun r hr => ?_⟩
    · rw [List.length_map, List.length_map]
      have h1 : ((List.range 9).filter fun k => decide ((((i + 1 : Nat) : Int) / pw9.getD k 1) % 2 = 1)).length ≤ 9 := by
        refine Nat.le_trans (List.length_filter_le _ _) ?_
        rw [List.length_range]
        exact Nat.le_refl _
      have : 100 ≤ sizeLine := by decide
      have h2 : [V.int (((a + 1 : Nat) : Int) - 1)].length = 1 := rfl
      omega
    have ev : ((((List.range 9).filter fun k => decide ((((i + 1 : Nat) : Int) / pw9.getD k 1) % 2 = 1)).map fun k => ((k : Nat) : Int)).map V.int) ++ [V.int (((a + 1 : Nat) : Int) - 1)] = (ones ((i + 1 : Nat) : Int) ++ [((a : Nat) : Int)]).map V.int := by
      rw [List.map_append]
      unfold ones
      rw [show ((a + 1 : Nat) : Int) - 1 = ((a : Nat) : Int) by omega]
      rfl
    have g11 := g10.new (o := .lst (((((List.range 9).filter fun k => decide ((((i + 1 : Nat) : Int) / pw9.getD k 1) % 2 = 1)).map fun k => ((k : Nat) : Int)).map V.int) ++ [V.int (((a + 1 : Nat) : Int) - 1)])) hr
    refine ⟨r, ones ((i + 1 : Nat) : Int) ++ [((a : Nat) : Int)], rfl, SqL.of (by rw [upd_same, ev]), List.length_pos_of_mem mt1, fun m m1 m2 => ?_⟩
    have em : m = ((tapeN a (i + 1) : Nat) : Int) := by
      have h1 := m2 _ mt1
      have h2 := mt2 m m1
      omega
    subst em
    have gwA := ((gw.trans gw9).new (o := .lst [.int (((a + 1 : Nat) : Int) - 1)]) hu).new (o := .lst (((((List.range 9).filter fun k => decide ((((i + 1 : Nat) : Int) / pw9.getD k 1) % 2 = 1)).map fun k => ((k : Nat) : Int)).map V.int) ++ [V.int (((a + 1 : Nat) : Int) - 1)])) hr
    have hGA := (((Gw.refl gi.tb).trans gw9).new (o := .lst [.int (((a + 1 : Nat) : Int) - 1)]) hu |>.new (o := .lst (((((List.range 9).filter fun k => decide ((((i + 1 : Nat) : Int) / pw9.getD k 1) % 2 = 1)).map fun k => ((k : Nat) : Int)).map V.int) ++ [V.int (((a + 1 : Nat) : Int) - 1)])) hr).2 _ _ nDP hG
    refine ⟨_, hGA, ?_, gwA.set hD nDP, ?_⟩
    · rw [List.length_map, List.length_take]
      have : 100 ≤ sizeLine := by decide
      omega
    · rw [upd_same, List.take_add_one, tow_get hi, List.map_append]
      rfl
  · rintro G ⟨gw, hG⟩
    rw [List.take_of_length_le (by rw [tow_len]; exact Nat.le_refl _)] at hG
    exact hn _ _ ⟨D', ⟨_, _, _, _, _, _, _, _, _, _, _, _, _, _, _, _, _, _, _, _, _, _, _, rfl⟩, (g.gw gw).add hG (g.nd hD) nDP⟩
theorem law19 (T : Txt K mg R Pp C0) {a n : Nat} {pd : Addr} (ha : a < 4) (hn20 : n < 20) :
    Step (LX0 P w K mg base f c A outer s H0 E) (lb 19) (Pre18 Ps d HB a n pd) (fun σ H => ∃ pd, Pre18 Ps d HB a n pd σ H) := by
  refine ⟨_, ps_set (i := 22) sc_law.nd rfl (.inr rfl) (pe_lc (own := [("tape", 24)]) rfl sc_law.nd (pi_list (pv 22)) (blkOk_by (by show blkC Nlaw (defScope s_law) _ _ = true; decide +kernel)) (fun _ _ _ _ _ => (pg_name (i := 24) sc_law.nd rfl (.inl rfl))) (fun _ _ _ _ _ => pts_nil) (fun _ _ _ _ _ => (pe_callB (call_min2 rfl) (by rfl) T.z_min (by decide +kernel) (pa_cons (pv 24) (pa_cons (pe_op op_sub (pv 20) pe_int) pa_nil))))), fun D σ H hp hn => ?_⟩
  obtain ⟨⟨z0, z2, z3, z4, z5, z6, z7, z8, z9, z10, z11, z12, z13, z14, z15, z16, z17, z18, z19, z23, z24, z25, z26, rfl⟩, g⟩ := hp
  have ed := g.at_ (i := 0) rfl
  refine ⟨_, rfl, pd, rfl, ⟨_, SqL.of ed⟩, fun D' hD => ?_⟩
  have nDP := g.nP hD
  refine lc_list (xs := (towL a n).map V.int) (fun i G => Gw Ps H G ∧ G D' = some (.lst (((towL a n).take i).map V.int))) ⟨(Gw.refl g.tb).new hD, upd_same⟩ (fun i G _ z => SqL.of ((g.gw z.1).at_ (i := 0) rfl)) ?_ ?_
  · rintro i x G hx ⟨gw, hG⟩
    have hi : i < n := by
      have := (List.getElem?_eq_some_iff.mp hx).1
      rw [List.length_map, tow_len] at this
      exact this
    rw [List.getElem?_map, tow_get hi] at hx
    obtain rfl : V.int ((tapeN a (i + 1) : Nat) : Int) = x := Option.some.inj hx
    refine ⟨rfl, ?_⟩
    simp only [tYes, wipe, List.map_cons, List.map_nil, List.set_cons_zero, List.set_cons_succ, ↓reduceIte]
    refine ⟨_, rfl, _, rfl, _, _, rfl, rfl, _, _, rfl, ?_⟩
    have le := tape_le a ha i (by omega)
    have em : (if ((a + 1 : Nat) : Int) - 1 < ((tapeN a (i + 1) : Nat) : Int) then ((a + 1 : Nat) : Int) - 1 else ((tapeN a (i + 1) : Nat) : Int)) = ((tapeN a (i + 1) : Nat) : Int) := by split <;> omega
    rw [em]
    refine ⟨_, hG, ?_, gw.set hD nDP, ?_⟩
    · rw [List.length_map, List.length_take]
      have : 100 ≤ sizeLine := by decide
      omega
    · rw [upd_same, List.take_add_one, tow_get hi, List.map_append]
      rfl
  · rintro G ⟨gw, hG⟩
    rw [List.length_map, List.take_length] at hG
    have g1 : Hk Ps d HB [] G := (g.gw gw).sub fun x hx => nomatch hx
    exact hn _ _ ⟨D', ⟨_, _, _, _, _, _, _, _, _, _, _, _, _, _, _, _, _, _, _, _, _, _, _, rfl⟩, g1.add hG (g.nd hD) nDP⟩
end
end K8

set_option maxRecDepth 100000
set_option maxHeartbeats 4000000
namespace K8
open PySem PySem.Spec PyProof.Rows L2
open XT (Sm pe_msg)
open SkE (pmk_own1)
open LamX (Tabs TabS CodeO ExtN codeO_ne)
section
variable {P : Program} {w : World} {K : PySem.W.Frag} {mg : Str → Option Value} {base : Heap} {R Pp C0 : Addr} {Ps : List Addr}
variable {f c d : Addr} {k : Nat} {A : Around} {outer : List Env} {s : Shared} {H0 HB : Hp} {E : XK}

theorem tapesL_ss (a n : Nat) : SS (tapesL a n) := List.Pairwise.filter _ (by decide)
theorem mem_tapesL {a n : Nat} (ha : a < 4) (hn : n < 20) {x : Int} : x ∈ tapesL a n ↔ x ∈ towL a n := by
  unfold tapesL
  rw [List.mem_filter, decide_eq_true_eq]
  exact ⟨fun h => h.2, fun h => ⟨tow_lt a ha n hn x h, h⟩⟩
theorem sortedEnd {σ : L2.St} {G : Hp} {D : Addr} {Q : VK} (h : rDictP K [.ref D] G (fun x H1 => rSortDI [x] H1 Q)) : tNil σ G (fun xs H2 => rDictP K (V.ref D :: xs) H2 fun x H1 => tNil σ H1 fun ys H2 => rSortDI (x :: ys) H2 Q) := h
theorem dictEnd {σ : L2.St} {G : Hp} {D : Addr} {Q : VK} (h : rDictP K [.ref D] G Q) : tNil σ G (fun xs H2 => rDictP K (V.ref D :: xs) H2 Q) := h
theorem maxEnd {σ : L2.St} {G : Hp} {D : Addr} {Q : VK} (h : rMax K [.ref D] G Q) : tNil σ G (fun xs H2 => rMax K (V.ref D :: xs) H2 Q) := h
/-- [k + 1 for k in range(n) if ..] -/
theorem filtR1 {n : Nat} {σ : L2.St} {G : Hp} {Q : VK} {tt : TT} {ta : TA} (fx : Nat → Bool) (hi : 3 < σ.length) (hn : n ≤ 100) (tb : Tb Ps G) (ha : ∀ W : List V → Hp → Prop, W [.int (n : Nat)] G → ta σ G W)
    (hs : ∀ t < n, ∀ G' : Hp, Gw Ps G G' → ∀ R : Bool → Hp → Prop, (∀ G'', Gw Ps G' G'' → R (fx t) G'') → tt ((σ.set 3 none).set 3 (some (.int (0 + (t : Nat))))) G' R)
    (hq : ∀ D G', Gw Ps G G' → G D = none → G' D = some (.lst ((((List.range n).filter fx).map fun k => ((k : Nat) : Int) + 1).map V.int)) → Q (.ref D) G') : tLc (iRng1 ta) (gName 3) tt (tOp (rI0 fun i j => V.int (i + j)) (tVar 3) (tC (V.int 1))) [3] σ G Q := by
  refine tLc_rng1 (n : Nat) n ha ⟨by omega, by omega⟩ (by omega) (fun D hD => ?_)
  have nDP : D ∉ Ps := tb.none hD
  refine lc_range (fun j G' => Gw Ps G G' ∧ G' D = some (.lst ((((List.range j).filter fx).map fun k => ((k : Nat) : Int) + 1).map V.int))) ⟨(Gw.refl tb).new hD, upd_same⟩ ?_ ?_
  · rintro j G' hj ⟨gw, hG⟩
    refine ⟨by simp [wipe, List.set_set], ?_⟩
    refine hs j hj G' gw _ fun G'' g2 => ?_
    have ek : List.range (j + 1) = List.range j ++ [j] := List.range_succ
    have hG2 := g2.2 _ _ nDP hG
    rw [ek, List.filter_append]
    by_cases m : fx j = true
    · rw [if_pos m]
      have hv : ((wipe σ [3]).set 3 (some (V.int (0 + (j : Nat)))))[3]? = some (some (V.int (0 + (j : Nat)))) := by
        rw [List.getElem?_set_self]
        show 3 < (σ.set 3 none).length
        rw [List.length_set]
        exact hi
      refine ⟨_, hv, _, _, rfl, rfl, _, hG2, ?_, (gw.trans g2).set hD nDP, ?_⟩
      · rw [List.length_map, List.length_map]
        refine Nat.lt_of_le_of_lt (List.length_filter_le _ _) ?_
        rw [List.length_range]
        have : 1000 ≤ sizeLine := by decide
        omega
      · rw [upd_same, List.map_append]
        simp [m]
    · rw [if_neg m]
      refine ⟨gw.trans g2, ?_⟩
      rw [hG2]
      simp [m]
  · rintro G' ⟨gw, hG⟩
    exact hq D G' gw hD hG
def P20 (Ps : List Addr) (G6 : Hp) (D7 : Addr) (m2 n2 : Nat) : Nat → Hp → Prop := fun i G => Gw Ps G6 G ∧ ∃ l : List (Addr × Int), G D7 = some (.lst (l.map fun e => V.ref e.1)) ∧ l.map (·.2) = (tapesL m2 n2).take i ∧ ∀ e ∈ l, G e.1 = some (.tup [.int e.2, .int (mxT m2 n2 e.2)])
theorem law20 (Z : Callees P w K mg base R Pp C0 Ps k) (T : Txt K mg R Pp C0) (hr : Room k (A.deeper (envOfC "law" (defScope s_law) s.heap.objs.size f (.ref c)))) {a n : Nat} {pd : Addr} (ha : a < 4) (hn20 : n < 20) :
    Step (LX0 P w K mg base f c A outer s H0 E) (lb 20) (Pre18 Ps d HB a n pd) (fun σ H => (∃ z0 z2 z3 z4 z5 z6 z7 z8 z9 z10 z11 z12 z13 z14 z15 z16 z17 z18 z19 z20 z21 z22 z23 z24 z25 z26, σ = [z0, some (.ref d), z2, z3, z4, z5, z6, z7, z8, z9, z10, z11, z12, z13, z14, z15, z16, z17, z18, z19, z20, z21, z22, z23, z24, z25, z26]) ∧ Hk Ps d HB [] H) := by
  obtain ⟨_, _, _, k1, G1⟩ := Z.tower
  obtain ⟨_, _, _, k2, G2⟩ := Z.tapes
  have hu := hr.units
  refine ⟨_, ps_if (PW.pt (pw_or (pt_cmpR (op_neD hr.units) (pe_callTy (call_listK (K0 := K) rfl) (by rfl) T.z_list (by decide +kernel) (pa_cons (pe_call G1.ok (hr.mono k1) (by rfl) G1.g G1.kp G1.b .nil passF (pa_cons (pv 20) (pa_cons (pv 21) pa_nil))) pa_nil)) (pv 22) (nomark _))
    (pw_or1 (pt_cmpR (op_ne_dictA (by show (A.deeper (envOfC "law" (defScope s_law) s.heap.objs.size f (.ref c))).units < cLine; omega)) (pe_call G2.ok (hr.mono k2) (by rfl) G2.g G2.kp G2.b .nil passF (pa_cons (pv 20) (pa_cons (pv 21) pa_nil)))
      (pe_callTy (cr_dictP rfl) (by rfl) T.z_dict (by decide +kernel) (pa_cons (pe_lc (own := [("tape", 24)]) rfl sc_law.nd (pi_list (pe_callB (cr_sortDI rfl) (by rfl) T.z_sorted (by decide +kernel) (pa_cons (pe_callTy (cr_dictP rfl) (by rfl) T.z_dict (by decide +kernel) (pa_cons (pe_lc (own := [("tape", 24)]) rfl sc_law.nd (pi_list (pv 22)) (blkOk_by (by show blkC Nlaw (defScope s_law) _ _ = true; decide +kernel)) (fun _ _ _ _ _ => (pg_name (i := 24) sc_law.nd rfl (.inl rfl))) (fun _ _ _ _ _ => pts_nil) (fun _ _ _ _ _ => (pe_tup (pa_cons (pv 24) (pa_cons pe_int pa_nil))))) pa_nil)) pa_nil)))
        (blkOk_by (by show blkC Nlaw (defScope s_law) _ _ = true; decide +kernel)) (fun _ _ _ _ _ => (pg_name (i := 24) sc_law.nd rfl (.inr rfl))) (fun _ _ _ _ _ => pts_nil)
        (fun _ _ _ _ _ => (pe_tup (pa_cons (pv 24) (pa_cons (pe_callB (r := rMax K) (cr_max rfl) (by rfl) T.z_max (by decide +kernel) (pa_cons (pe_lc (own := [("k", 3)]) rfl sc_law.nd (pi_range1 (by rfl) T.z_range (pa_cons (pv 21) pa_nil)) (blkOk_by (by show blkC Nlaw { kind := ScopeKind.function, names := [(".0", NameKind.local), ("tape", NameKind.cell), ("max", NameKind.globalImplicit), ("range", NameKind.globalImplicit), ("due", NameKind.cell), ("turns", NameKind.cell)], isGenerator := false, isCoroutine := false } _ _ = true; decide +kernel)) (fun _ _ _ _ _ => (pg_name (i := 3) sc_law.nd rfl (.inl rfl)))
          (fun _ _ _ _ _ => (pts_one (pt_cmpR op_eq (pe_ix (ix_listK (K0 := K) rfl) (pv 22) (pv 3) (fun _ _ => rfl)) (pv 24) (nomark _)))) (fun _ _ _ _ _ => (pe_op op_add (pv 3) pe_int))) pa_nil)) pa_nil))))) pa_nil)) (nomark _)))))
      (pss_one (ps_ret pe_bl)) pss_nil, fun D σ H hp hn => ?_⟩
  obtain ⟨⟨z0, z2, z3, z4, z5, z6, z7, z8, z9, z10, z11, z12, z13, z14, z15, z16, z17, z18, z19, z23, z24, z25, z26, rfl⟩, g⟩ := hp
  have sa : ∀ m : Nat, m ≤ 1000 → Sm ((m : Nat) : Int) := fun m h => ⟨by omega, by omega⟩
  refine ⟨_, rfl, _, rfl, _, _, rfl, sa _ (by omega), sa _ (by omega), g.tb, fun z => by omega, fun m' n' em en => ?_⟩
  obtain rfl : m' = a := by omega
  obtain rfl : n' = n := by omega
  refine ⟨by omega, by omega, fun H1 v1 gw1 hv1 hvo1 => ?_⟩
  have g1 := (g.gw gw1).add hvo1 (g.nd hv1) (g.nP hv1)
  refine ⟨v1, _, rfl, .inr (SqT_of (g1.at_ (i := 0) rfl)), fun l2 h2 => ?_⟩
  have g2 := g1.newA (o := .lst ((towL m' n').map V.int)) h2
  refine ⟨_, rfl, rNe_lI (ns := towL m' n') (ms := towL m' n') (SqL.of (g2.at_ (i := 0) rfl)) (SqL.of (g2.at_ (i := 2) rfl)) ⟨_, rfl, ?_⟩⟩
  rw [show (!decide (towL m' n' = towL m' n')) = false by simp]
  refine ⟨_, rfl, _, rfl, _, _, rfl, sa _ (by omega), sa _ (by omega), g2.tb, fun z => by omega, fun m2 n2 em2 en2 => ?_⟩
  obtain rfl : m2 = m' := by omega
  obtain rfl : n2 = n' := by omega
  refine ⟨by omega, by omega, fun H3 d3 gw3 hd3 hdo3 => ?_⟩
  have g3 := (g2.gw gw3).add hdo3 (g2.nd hd3) (g2.nP hd3)
  have et3 := g3.at_ (i := 3) rfl
  refine ⟨_, rfl, pd, rfl, ⟨_, SqL.of et3⟩, fun D4 hD4 => ?_⟩
  have nD4 := g3.nP hD4
  refine lc_list (xs := (towL m2 n2).map V.int) (fun i G => Gw Ps H3 G ∧ ∃ l : List (Addr × Int), G D4 = some (.lst (l.map fun e => V.ref e.1)) ∧ l.map (·.2) = (towL m2 n2).take i ∧ ∀ e ∈ l, G e.1 = some (.tup [.int e.2, .int 1])) ⟨(Gw.refl g3.tb).new hD4, [], upd_same, rfl, fun x h => nomatch h⟩ (fun i G _ z => SqL.of ((g3.gw z.1).at_ (i := 3) rfl)) ?_ ?_
  · rintro i x G hx ⟨gw, l, hG, hw, hall⟩
    rw [List.getElem?_map] at hx
    obtain ⟨t, ht, rfl⟩ := Option.map_eq_some_iff.mp hx
    refine ⟨rfl, ?_⟩
    simp only [tYes, wipe, List.map_cons, List.map_nil, List.set_cons_zero, List.set_cons_succ, ↓reduceIte]
    refine ⟨_, rfl, (by show 2 ≤ sizeLine; decide), fun p hp => ?_⟩
    have nDp : D4 ≠ p := ne_of_none hG hp
    refine ⟨_, by rw [upd_ne nDp]; exact hG, ?_, (gw.new hp).set hD4 nD4, l ++ [(p, t)], ?_, ?_, fun e he => ?_⟩
    · have := congrArg List.length hw
      rw [List.length_map, List.length_take, tow_len] at this
      rw [List.length_map]
      have : 100 ≤ sizeLine := by decide
      omega
    · rw [upd_same, List.map_append]
      rfl
    · rw [List.map_append, hw, List.take_add_one, ht]
      rfl
    · rcases List.mem_append.mp he with he | he
      · have h1 := hall e he
        have n1 : e.1 ≠ D4 := fun z => by
          rw [z, hG] at h1
          cases h1
        rw [upd_ne n1, upd_ne (ne_of_none h1 hp)]
        exact h1
      · rw [List.mem_singleton.mp he]
        rw [upd_ne nDp.symm]
        exact upd_same
  rintro G5 ⟨gw5, l5, hG5, hw5, hall5⟩
  rw [List.length_map, List.take_length] at hw5
  have ln5 : l5.length = n2 := by
    have := congrArg List.length hw5
    rw [List.length_map, tow_len] at this
    exact this
  have g5 := g3.gw gw5
  refine sortedEnd (sortD g5.tb hG5 hall5 (by omega) fun L' p6 G6 ss6 hm6 hl6 gw6 hp6 hG6 => ?_)
  have eL : L' = tapesL m2 n2 := ss_ext ss6 (tapesL_ss m2 n2) fun x => by
    rw [hm6 x, mem_tapesL ha hn20, ← hw5, List.mem_map]
  subst eL
  have g6 := (g5.gw gw6).add hG6 (g5.nd hp6) (g5.nP hp6)
  refine ⟨p6, rfl, ⟨_, SqL.of (g6.at_ (i := 0) rfl)⟩, fun D7 hD7 => ?_⟩
  have nD7 := g6.nP hD7
  refine lc_list (xs := (tapesL m2 n2).map V.int) (P20 Ps G6 D7 m2 n2) ⟨(Gw.refl g6.tb).new hD7, [], upd_same, rfl, fun x h => nomatch h⟩ (fun i G _ z => SqL.of ((g6.gw z.1).at_ (i := 0) rfl)) ?_ ?_
  · rintro i x G hx ⟨gw, l, hG, hw, hall⟩
    rw [List.getElem?_map] at hx
    obtain ⟨t, ht, rfl⟩ := Option.map_eq_some_iff.mp hx
    have tm : t ∈ tapesL m2 n2 := List.mem_of_getElem? ht
    obtain ⟨mx1, mx2⟩ := mx_is m2 ha n2 hn20 t tm
    have gi := g6.gw gw
    refine ⟨rfl, ?_⟩
    simp only [tYes, wipe, List.map_cons, List.map_nil, List.set_cons_zero, List.set_cons_succ, ↓reduceIte]
    refine ⟨_, rfl, ?_⟩
    have key : tLc (iRng1 (tCons (tVar 21) tNil)) (gName 3) (tTest (tOp rEq (tOp (rIxL K) (tVar 22) (tVar 3)) (tVar 24))) (tOp (rI0 fun i j => V.int (i + j)) (tVar 3) (tC (V.int 1))) [3] [z0, some (.ref d), z2, z3, z4, z5, z6, z7, z8, z9, z10, z11, z12, z13, z14, z15, z16, z17, z18, z19, some (.int ((m2 + 1 : Nat) : Int)), some (.int (n2 : Nat)), some (.ref pd), z23, some (.int t), z25, z26] G (fun v G' => rMax K [v] G' (fun y H2 => 2 ≤ sizeLine ∧ ∀ p, H2 p = none → ∃ acc, upd H2 p (.tup [.int t, y]) D7 = some (.lst acc) ∧ acc.length < sizeLine ∧ P20 Ps G6 D7 m2 n2 (i + 1) (upd (upd H2 p (.tup [.int t, y])) D7 (.lst (acc ++ [.ref p]))))) := ?_
    · exact key
    refine filtR1 (n := n2) (fun k => decide ((towL m2 n2).getD k 9 = t)) (by show 3 < 27; decide) (by omega) gi.tb (fun W h => ⟨_, rfl, h⟩) (fun j hj G9 gw9 Rk rk => ?_) (fun D9 G9 gw9 hD9 hG9 => ?_)
    · have g9 := gi.gw gw9
      refine ⟨_, rfl, _, rfl, pd, _, ((j : Nat) : Int), .int ((towL m2 n2).getD j 9), rfl, (by rw [Int.zero_add]), SqL.of (g9.at_ (i := 4) rfl), atI_nat ?_, _, rfl, rfl, _, rfl, ?_⟩
      · rw [List.getElem?_map, tow_get hj, List.getD_eq_getElem?_getD, tow_get hj]
        rfl
      have r := rk _ (Gw.refl gw9.1)
      have e : decide (V.int ((towL m2 n2).getD j 9) = V.int t) = decide ((towL m2 n2).getD j 9 = t) := decide_eq_decide.mpr ⟨V.int.inj, fun z => by rw [z]⟩
      rw [e]
      exact r
    refine ⟨D9, candL m2 n2 t, rfl, SqL.of hG9, List.length_pos_of_mem mx1, fun m m1 m2' => ?_⟩
    have em : m = mxT m2 n2 t := by
      have h1 := m2' _ mx1
      have h2 := mx2 m m1
      omega
    subst em
    refine ⟨(by show 2 ≤ sizeLine; decide), fun p hp => ?_⟩
    have hG9' := gw9.2 _ _ nD7 hG
    have nDp : D7 ≠ p := ne_of_none hG9' hp
    refine ⟨_, by rw [upd_ne nDp]; exact hG9', ?_, ((gw.trans gw9).new hp).set hD7 nD7, l ++ [(p, t)], ?_, ?_, fun e he => ?_⟩
    · have := congrArg List.length hw
      rw [List.length_map, List.length_take] at this
      rw [List.length_map]
      have h4 : (tapesL m2 n2).length ≤ 4 := List.length_filter_le _ _
      have : 100 ≤ sizeLine := by decide
      omega
    · rw [upd_same, List.map_append]
      rfl
    · rw [List.map_append, hw, List.take_add_one, ht]
      rfl
    · rcases List.mem_append.mp he with he | he
      · have h1 := hall e he
        have n1 : e.1 ≠ D7 := fun z => by
          rw [z, hG] at h1
          cases h1
        have h2 := gw9.2 _ _ (gi.tb.not h1 fun _ z => by cases z) h1
        rw [upd_ne n1, upd_ne (ne_of_none h2 hp)]
        exact h2
      · rw [List.mem_singleton.mp he]
        rw [upd_ne nDp.symm]
        exact upd_same
  rintro G8 ⟨gw8, l8, hG8, hw8, hall8⟩
  rw [List.length_map, List.take_length] at hw8
  have g8 := g6.gw gw8
  refine dictEnd ⟨D7, l8.map (·.1), l8.map fun e => (.inl e.2, .int (mxT m2 n2 e.2)), rfl, SqL.of (by rw [hG8, List.map_map]; rfl), paired_of l8 fun e he => SqT_of (hall8 e he), fun p9 hp9 => ?_⟩
  have ekv : (l8.map fun e => ((.inl e.2 : Key), V.int (mxT m2 n2 e.2))) = lsT m2 n2 := by
    unfold lsT
    rw [← hw8, List.map_map]
    rfl
  have em : mergeK [] (lsT m2 n2) = lsT m2 n2 := by
    rw [merge_new]
    · rfl
    · rw [List.nil_append]
      unfold lsT
      rw [List.map_map]
      exact List.pairwise_map.mpr (List.Pairwise.imp (fun {a b} h e => h (Sum.inl.inj e)) (tapesL_ss m2 n2).nodup)
  rw [ekv, em]
  have g9 := g8.newA (o := .dK (lsT m2 n2)) hp9
  obtain ⟨o1, o2⟩ := ot_is m2 ha n2 hn20
  refine ⟨d3, p9, otD m2 n2, lsT m2 n2, rfl, rfl, g9.at_ (i := 2) rfl, g9.at_ (i := 0) rfl, o1, o2, _, rfl, ?_⟩
  exact hn _ _ ⟨⟨_, _, _, _, _, _, _, _, _, _, _, _, _, _, _, _, _, _, _, _, _, _, _, _, _, _, rfl⟩, g9.sub fun x hx => nomatch hx⟩
end
end K8

set_option maxRecDepth 100000
set_option maxHeartbeats 4000000
namespace K8
open PySem PySem.Spec PyProof.Rows L2
open XT (Sm pe_msg)
open SkE (pmk_own1)
open LamX (Tabs TabS CodeO ExtN codeO_ne)
section
variable {P : Program} {w : World} {K : PySem.W.Frag} {mg : Str → Option Value} {base : Heap} {R Pp C0 : Addr} {Ps : List Addr}
variable {f c d : Addr} {k : Nat} {A : Around} {outer : List Env} {s : Shared} {H0 HB : Hp} {E : XK}

/-- the round's end -/
def PreZ (T : List (Addr × Str)) (Ps : List Addr) (d : Addr) (HB : Hp) : L2.St → Hp → Prop := fun σ H => (∃ z0 z2 z3 z4 z5 z6 z7 z8 z9 z10 z11 z12 z13 z14 z15 z16 z17 z18 z19 z20 z21 z22 z23 z24 z25 z26, σ = [z0, some (.ref d), z2, z3, z4, z5, z6, z7, z8, z9, z10, z11, z12, z13, z14, z15, z16, z17, z18, z19, z20, z21, z22, z23, z24, z25, z26]) ∧ Tabs T H ∧ Tb Ps H ∧ Dice H d ∧ ∀ b xs, b ≠ d → HB b = some (.lst xs) → H b = some (.lst xs)
theorem law20z {pT : Addr} {q : Str} (Z : Callees P w K mg base R Pp C0 Ps k) (T : Txt K mg R Pp C0) (hr : Room k (A.deeper (envOfC "law" (defScope s_law) s.heap.objs.size f (.ref c)))) {a n : Nat} {pd : Addr} {H9 : Hp} (ha : a < 4) (hn20 : n < 20) (nP : pT ∉ Ps) (r9 : Rl [(pT, q)] Ps d HB H9) :
    Step (LX0 P w K mg base f c A outer s H0 E) (lb 20) (Pre18 Ps d H9 a n pd) (PreZ [(pT, q)] Ps d HB) := by
  obtain ⟨t, ht, kt⟩ := law20 (HB := H9) (d := d) (pd := pd) (f := f) (c := c) (A := A) (outer := outer) (s := s) (H0 := H0) (E := E) Z T hr ha hn20
  refine ⟨t, ht, fun D σ H hp hn => kt D σ H hp fun σ' H' ⟨hs, hk⟩ => hn _ _ ⟨hs, ?_, hk.tb, hk.gd.dice, fun b xs nd hb => ?_⟩⟩
  · exact tabs_keep r9.tab (fun p hp => by rw [List.mem_singleton.mp hp]; exact nP) r9.tb r9.di hk.gd.keep
  · have h1 := r9.ls b xs nd hb
    exact hk.gd.keep _ _ (r9.tb.not h1 fun _ z => by cases z) nd h1
/-- one round -/
theorem law_round {g pT : Addr} {fd : FuncData} {q : Str} (Z : Callees P w K mg base R Pp C0 Ps k) (T : Txt K mg R Pp C0) (N : Nine K mg R Pp) (TB : LamX.TabB base mg c pT) (hq : q = (LX0 P w K mg base f c A outer s H0 E).env.qual ++ "<lambda>") (nP : pT ∉ Ps) (Fg : Fun K "_law_told" "_law_told" s__law_told g fd) (mgg : mg "_law_told" = some (.ref g)) (bd : Binds K fd ["what"] [])
    (hr : Room (k + 2) (A.deeper (envOfC "law" (defScope s_law) s.heap.objs.size f (.ref c)))) (tbB : Tb Ps HB) (dB : Dice HB d) (tabB : Tabs [(pT, q)] HB) : Steps (LX0 P w K mg base f c A outer s H0 E) [lb 0, lb 1, lb 2, lb 3, lb 4, lb 5, lb 6, lb 7, lb 8, lb 9, lb 10, lb 11, lb 12, lb 13, lb 14, lb 15, lb 16, lb 17, lb 18, lb 19, lb 20] (Pre0 Ps d HB) (PreZ [(pT, q)] Ps d HB) := by
  have hr0 := hr.mono (show k ≤ k + 2 by omega)
  refine Steps.cons (law0 Z T hr0) (Steps.ex fun cn => Steps.ex fun pc => Steps.of fun hc => ?_)
  refine Steps.cons (law1 Z T hr0 hc) (Steps.ex fun pr => Steps.ex fun dr => ?_)
  refine Steps.cons (law2 Z T hr0) (Steps.ex fun L => Steps.ex fun pt => Steps.of fun hT => ?_)
  refine Steps.cons (law3 Z T hr0 hT) (Steps.ex fun pw => ?_)
  refine Steps.cons (law4 Z T hr0 hT) ?_
  refine Steps.cons (law5 T hr0 hT) (Steps.ex fun ps => ?_)
  refine Steps.cons (law6 Z T hr0 hT hc) ?_
  refine Steps.cons (law7 Z T hr0 hT hc) ?_
  refine Steps.cons (law8 Z T hr0 hT hc) ?_
  refine Steps.cons (law9 Z T N TB hq nP Fg mgg bd hr hT hc tbB dB tabB) (Steps.ex fun H9 => Steps.of fun r9 => ?_)
  refine Steps.cons (law10 T) (Steps.ex fun pk => ?_)
  refine Steps.cons (law11 Z T hr0 hT hc) (Steps.ex fun pk2 => ?_)
  refine Steps.cons (law12 Z T hr0 hT hc) ?_
  refine Steps.cons (law13 Z T hr0) (Steps.ex fun cm => Steps.ex fun pm => Steps.of fun hm => ?_)
  refine Steps.cons (law14 Z T hr0 hc hm) (Steps.ex fun pq => Steps.ex fun dq => ?_)
  refine Steps.cons (law15 Z T hr0 hT hc hm) ?_
  refine Steps.cons (law16 Z T hr0 hT) ?_
  refine Steps.cons (law17 Z T hr0) (Steps.ex fun a => Steps.ex fun n => Steps.of fun ha => Steps.of fun hn => ?_)
  refine Steps.cons (law18 T ha hn) (Steps.ex fun pd => ?_)
  refine Steps.cons (law19 T ha hn) (Steps.ex fun pd2 => ?_)
  exact Steps.one (law20z Z T hr0 ha hn nP r9)
theorem round_is : forB (lawS 0) = [lb 0, lb 1, lb 2, lb 3, lb 4, lb 5, lb 6, lb 7, lb 8, lb 9, lb 10, lb 11, lb 12, lb 13, lb 14, lb 15, lb 16, lb 17, lb 18, lb 19, lb 20] := rfl
/-- between the loops -/
def PreE (T : List (Addr × Str)) (Ps : List Addr) : L2.St → Hp → Prop := fun σ H => (∃ z0 z1 z2 z3 z4 z5 z6 z7 z8 z9 z10 z11 z12 z13 z14 z15 z16 z17 z18 z19 z20 z21 z22 z23 z24 z25 z26, σ = [z0, z1, z2, z3, z4, z5, z6, z7, z8, z9, z10, z11, z12, z13, z14, z15, z16, z17, z18, z19, z20, z21, z22, z23, z24, z25, z26]) ∧ Tabs T H ∧ Tb Ps H
def PreS (K : PySem.W.Frag) (T : List (Addr × Str)) (Ps : List Addr) : L2.St → Hp → Prop := fun σ H => ∃ (a : Addr) (ns : List Int), (∃ z1 z2 z3 z4 z5 z6 z7 z8 z9 z10 z11 z12 z13 z14 z15 z16 z17 z18 z19 z20 z21 z22 z23 z24 z25 z26, σ = [some (.ref a), z1, z2, z3, z4, z5, z6, z7, z8, z9, z10, z11, z12, z13, z14, z15, z16, z17, z18, z19, z20, z21, z22, z23, z24, z25, z26]) ∧ SqL K H a (ns.map V.int) ∧ Tabs T H ∧ Tb Ps H
theorem law_for {g pT : Addr} {fd : FuncData} {q : Str} (Z : Callees P w K mg base R Pp C0 Ps k) (T : Txt K mg R Pp C0) (N : Nine K mg R Pp) (TB : LamX.TabB base mg c pT) (hq : q = (LX0 P w K mg base f c A outer s H0 E).env.qual ++ "<lambda>") (nP : pT ∉ Ps) (Fg : Fun K "_law_told" "_law_told" s__law_told g fd) (mgg : mg "_law_told" = some (.ref g)) (bd : Binds K fd ["what"] [])
    (hr : Room (k + 2) (A.deeper (envOfC "law" (defScope s_law) s.heap.objs.size f (.ref c)))) : Step (LX0 P w K mg base f c A outer s H0 E) (lawS 0) (PreS K [(pT, q)] Ps) (PreE [(pT, q)] Ps) := by
  obtain ⟨_, _, _, k1, G1⟩ := Z.rounds
  have hr0 := hr.mono (show k ≤ k + 2 by omega)
  have body := Steps.all (X := LX0 P w K mg base f c A outer s H0 E) (ls := forB (lawS 0)) (α := Addr × Hp) (Pre := fun y σ H => (Tb Ps y.2 ∧ Dice y.2 y.1 ∧ Tabs [(pT, q)] y.2) ∧ Pre0 Ps y.1 y.2 σ H) (Pos := fun y => PreZ [(pT, q)] Ps y.1 y.2) (fun y => by
    rw [round_is]
    exact Steps.of fun hy => law_round (HB := y.2) (d := y.1) Z T N TB hq nP Fg mgg bd hr hy.1 hy.2.1 hy.2.2)
  obtain ⟨tb, hb, kb⟩ := body
  refine ⟨_, ps_for (passes_of rfl) rfl (pi_list (pe_call G1.ok (hr0.mono k1) (by rfl) G1.g G1.kp G1.b .nil passF (pa_cons (pv 0) (pa_cons pe_int pa_nil)))) (pg_name (i := 1) sc_law.nd rfl (.inr rfl)) hb, fun D σ H hp hn => ?_⟩
  obtain ⟨a, ns, ⟨z1, z2, z3, z4, z5, z6, z7, z8, z9, z10, z11, z12, z13, z14, z15, z16, z17, z18, z19, z20, z21, z22, z23, z24, z25, z26, rfl⟩, ha, tab, tb0⟩ := hp
  refine ⟨_, rfl, a, ns, rfl, ha, tb0, fun H1 p d g1 hp hd ndp hl di => ?_⟩
  have tab1 : Tabs [(pT, q)] H1 := tabs_gw tab (fun p hp => by rw [List.mem_singleton.mp hp]; exact nP) tb0 g1
  refine ⟨p, rfl, ⟨_, SqL.of hl⟩, for_list (xs := [.ref d]) (fun i σ H' => (i = 0 → (∃ z1 z2 z3 z4 z5 z6 z7 z8 z9 z10 z11 z12 z13 z14 z15 z16 z17 z18 z19 z20 z21 z22 z23 z24 z25 z26, σ = [some (.ref a), z1, z2, z3, z4, z5, z6, z7, z8, z9, z10, z11, z12, z13, z14, z15, z16, z17, z18, z19, z20, z21, z22, z23, z24, z25, z26]) ∧ H' = H1) ∧ (i = 1 → PreZ [(pT, q)] Ps d H1 σ H')) ⟨fun _ => ⟨⟨_, _, _, _, _, _, _, _, _, _, _, _, _, _, _, _, _, _, _, _, _, _, _, _, _, _, rfl⟩, rfl⟩, fun z => by cases z⟩ ?_ ?_ ?_⟩
  · intro i σ H' hi hP
    have h01 : i = 0 ∨ i = 1 := by
      have : i ≤ 1 := hi
      omega
    rcases h01 with e | e
    · obtain ⟨_, h2⟩ := hP.1 e
      rw [h2]
      exact SqL.of hl
    · obtain ⟨_, _, _, _, h5⟩ := hP.2 e
      exact SqL.of (h5 p _ ndp.symm hl)
  · intro i x σ H' hx hP
    cases i with
    | succ i => simp at hx
    | zero =>
      obtain rfl : V.ref d = x := Option.some.inj hx
      obtain ⟨⟨z1, z2, z3, z4, z5, z6, z7, z8, z9, z10, z11, z12, z13, z14, z15, z16, z17, z18, z19, z20, z21, z22, z23, z24, z25, z26, rfl⟩, rfl⟩ := hP.1 rfl
      refine kb (d, H') _ _ _ ⟨⟨g1.1, di, tab1⟩, ⟨_, _, _, _, _, _, _, _, _, _, _, _, _, _, _, _, _, _, _, _, _, _, _, _, _, _, rfl⟩, Hk.refl g1.1 di⟩ fun σ' H2 hz => ⟨(fun z => absurd z (by omega)), fun _ => hz⟩
  · intro σ H' hP
    obtain ⟨⟨z0, z2, z3, z4, z5, z6, z7, z8, z9, z10, z11, z12, z13, z14, z15, z16, z17, z18, z19, z20, z21, z22, z23, z24, z25, z26, rfl⟩, h2, h3, _, _⟩ := hP.2 rfl
    exact hn _ _ ⟨⟨_, _, _, _, _, _, _, _, _, _, _, _, _, _, _, _, _, _, _, _, _, _, _, _, _, _, _, rfl⟩, h2, h3⟩
end
end K8

set_option maxRecDepth 100000
set_option maxHeartbeats 4000000
namespace K8
open PySem PySem.Spec PyProof.Rows L2
open XT (Sm pe_msg)
open SkE (pmk_own1)
open LamX (Tabs TabS CodeO ExtN codeO_ne)
section
variable {P : Program} {w : World} {K : PySem.W.Frag} {mg : Str → Option Value} {base : Heap} {R Pp C0 : Addr} {Ps : List Addr}
variable {f c d : Addr} {k : Nat} {A : Around} {outer : List Env} {s : Shared} {H0 HB : Hp} {E : XK}

/-- what isn't the law's own table stays -/
structure Gt (T : List (Addr × Str)) (Ps : List Addr) (pT : Addr) (H H' : Hp) : Prop where
  keep : ∀ b o, b ≠ pT → H b = some o → H' b = some o
  tab : Tabs T H'
  tb : Tb Ps H'
theorem Gt.trans {T : List (Addr × Str)} {pT : Addr} {H H1 H2 : Hp} (g : Gt T Ps pT H H1) (h : Gt T Ps pT H1 H2) : Gt T Ps pT H H2 := ⟨fun b o n e => h.keep b o n (g.keep b o n e), h.tab, h.tb⟩
theorem Gt.refl {T : List (Addr × Str)} {pT : Addr} {H : Hp} (t : Tabs T H) (b : Tb Ps H) : Gt T Ps pT H H := ⟨fun _ _ _ e => e, t, b⟩
theorem Gt.new {q : Str} {pT : Addr} {H H1 : Hp} {l : Addr} {o : HO} (nP : pT ∉ Ps) (g : Gt [(pT, q)] Ps pT H H1) (n : H1 l = none) : Gt [(pT, q)] Ps pT H (upd H1 l o) := by
  have gw := (Gw.refl g.tb).new (o := o) n
  exact ⟨fun b u nb e => by
    have e' := g.keep b u nb e
    rw [upd_ne (ne_of_none e' n)]
    exact e', tabs_gw g.tab (fun p hp => by rw [List.mem_singleton.mp hp]; exact nP) g.tb gw, gw.1⟩
/-- (lambda: .., word) -/
theorem pairStep {q : Str} {pT : Addr} {mk : Addr → LX.LF} {wd : Str} {σ : L2.St} {G : Hp} {Q : VK} (nP : pT ∉ Ps) (tab : Tabs [(pT, q)] G) (tb : Tb Ps G)
    (h : ∀ p f c' G', Gt [(pT, q)] Ps pT G G' → p ≠ pT → f ≠ pT → c' ≠ pT → G' p = some (.tup [.ref f, .str wd]) → G' f = some (LX.LamO f (mk c')) → G' c' = some (CodeO c' (mk c').qual) → Q (.ref p) G') : tTup (tCons (LX.tLamV [(pT, q)] pT mk) (tCons (tC (.str wd)) tNil)) σ G Q := by
  refine ⟨tab, fun f c' H1 eN t1 f0 f1 c1 nn kp => ⟨(show 2 ≤ sizeLine by decide), fun p hp => ?_⟩⟩
  have tb1 : Tb Ps H1 := fun q hq => by
    obtain ⟨ps, h1, h2⟩ := tb q hq
    exact ⟨ps, kp q _ (fun z => nP (by rw [← z]; exact hq)) h1, h2⟩
  have g1 : Gt [(pT, q)] Ps pT G H1 := ⟨kp, t1, tb1⟩
  obtain ⟨ps, hT, _, _⟩ := t1 _ (List.mem_singleton.mpr rfl)
  have hT : H1 pT = some (.tbl ps) := hT
  have npT : p ≠ pT := fun z => by
    rw [z, hT] at hp
    cases hp
  have nfT : f ≠ pT := fun z => by
    rw [z, hT] at f1
    cases f1
  have ncT : c' ≠ pT := fun z => by
    rw [z, hT] at c1
    exact codeO_ne _ (Option.some.inj c1).symm
  refine h p f c' _ (g1.new nP hp) npT nfT ncT upd_same ?_ ?_
  · rw [upd_ne (ne_of_none f1 hp)]
    exact f1
  · rw [upd_ne (ne_of_none c1 hp)]
    exact c1
/-- one of the wrong ones stands at p -/
def WrongAt (P : Program) (w : World) (K : PySem.W.Frag) (mg : Str → Option Value) (base : Heap) (k : Nat) (R Pp : Addr) (Ps : List Addr) (H : Hp) (p : Addr) : Prop := ∃ f L tl, H p = some (.tup [.ref f, .str (Str.ofString "rule")]) ∧ H f = some (LX.LamO f L) ∧ H L.c = some (CodeO L.c L.qual) ∧ LX.LamOk P w K mg base k L tl ∧
  ∀ (Q : VK) (H1 : Hp), Tb Ps H1 → (∀ H2, Gw Ps H1 H2 → Q (.str (Str.ofString "rule")) H2) → tl (E9 R Pp Q) H1 Q
def PreW (P : Program) (w : World) (K : PySem.W.Frag) (mg : Str → Option Value) (base : Heap) (k : Nat) (R Pp : Addr) (Ps : List Addr) : L2.St → Hp → Prop := fun σ H => ∃ (a : Addr) (ps : List Addr), (∃ z0 z1 z2 z3 z4 z5 z6 z7 z8 z9 z10 z11 z12 z13 z14 z15 z16 z17 z18 z19 z20 z21 z22 z23 z24 z26, σ = [z0, z1, z2, z3, z4, z5, z6, z7, z8, z9, z10, z11, z12, z13, z14, z15, z16, z17, z18, z19, z20, z21, z22, z23, z24, some (.ref a), z26]) ∧ Tb Ps H ∧ H a = some (.lst (ps.map V.ref)) ∧ ∀ p ∈ ps, WrongAt P w K mg base k R Pp Ps H p
theorem consStep {a : TE} {u : TA} {σ : L2.St} {H : Hp} {Q : List V → Hp → Prop} (h : a σ H fun v H1 => u σ H1 fun vs H2 => Q (v :: vs) H2) : tCons a u σ H Q := h
theorem asgStep {t : TA} {g : TG} {D : L2.Ends} {σ : L2.St} {H : Hp} (h : t σ H fun vs H1 => vs.length ≤ sizeLine ∧ ∀ p, H1 p = none → g (.ref p) σ (upd H1 p (.lst vs)) D.nx) : tAsg (tLst t) g D σ H := h
/-- behind the two objects of a making -/
theorem mk_gw {G : Hp} {x dx : Addr} (tb : Tb Ps G) (hx : G x = none) (hdx : G dx = none) (nd : dx ≠ x) : Gw Ps G (upd (upd G dx (.own x)) x (.ins C0 dx [])) := ((Gw.refl tb).new (o := .own x) hdx).new (by rw [upd_ne nd.symm]; exact hx)
theorem law_wrong {pT : Addr} {q : Str} (Z : Callees P w K mg base R Pp C0 Ps k) (T : Txt K mg R Pp C0) (TB : LamX.TabB base mg c pT) (hq : q = (LX0 P w K mg base f c A outer s H0 E).env.qual ++ "<lambda>") (nP : pT ∉ Ps) : Step (LX0 P w K mg base f c A outer s H0 E) (lawS 1) (PreE [(pT, q)] Ps) (PreW P w K mg base k R Pp Ps) := by
  subst hq
  refine ⟨_, ps_set (i := 25) sc_law.nd rfl (.inl rfl) (pe_lst (pa_cons (pe_tup (pa_cons (LX.pe_lam TB rfl (List.mem_singleton.mpr rfl) (fun p hp _ => by rw [List.mem_singleton.mp hp]) (LamX.lamS_by (by show LamX.lamSB (defScope s_law) _ = true; decide +kernel))) (pa_cons pe_str pa_nil)))
    (pa_cons (pe_tup (pa_cons (LX.pe_lam TB rfl (List.mem_singleton.mpr rfl) (fun p hp _ => by rw [List.mem_singleton.mp hp]) (LamX.lamS_by (by show LamX.lamSB (defScope s_law) _ = true; decide +kernel))) (pa_cons pe_str pa_nil)))
    (pa_cons (pe_tup (pa_cons (LX.pe_lam TB rfl (List.mem_singleton.mpr rfl) (fun p hp _ => by rw [List.mem_singleton.mp hp]) (LamX.lamS_by (by show LamX.lamSB (defScope s_law) _ = true; decide +kernel))) (pa_cons pe_str pa_nil)))
    (pa_cons (pe_tup (pa_cons (LX.pe_lam TB rfl (List.mem_singleton.mpr rfl) (fun p hp _ => by rw [List.mem_singleton.mp hp]) (LamX.lamS_by (by show LamX.lamSB (defScope s_law) _ = true; decide +kernel))) (pa_cons pe_str pa_nil)))
    (pa_cons (pe_tup (pa_cons (LX.pe_lam TB rfl (List.mem_singleton.mpr rfl) (fun p hp _ => by rw [List.mem_singleton.mp hp]) (LamX.lamS_by (by show LamX.lamSB (defScope s_law) _ = true; decide +kernel))) (pa_cons pe_str pa_nil)))
    pa_nil)))))), fun D σ H hp hn => ?_⟩
  obtain ⟨⟨z0, z1, z2, z3, z4, z5, z6, z7, z8, z9, z10, z11, z12, z13, z14, z15, z16, z17, z18, z19, z20, z21, z22, z23, z24, z25, z26, rfl⟩, tab, tb⟩ := hp
  obtain ⟨_, _, _, k0, MK, FI, BI⟩ := Z.mkr
  obtain ⟨_, _, _, k3, M3⟩ := Z.why
  obtain ⟨_, _, _, k4, G4⟩ := Z.tower
  obtain ⟨_, _, _, k5, G5⟩ := Z.tapes
  refine asgStep (consStep (pairStep nP tab tb fun p1 f1 c1 H1 g1 n1 n1' n1'' a1 l1 d1 => ?_))
  refine consStep (pairStep nP g1.tab g1.tb fun p2 f2 c2 H2 g2 n2 n2' n2'' a2 l2 d2 => ?_)
  refine consStep (pairStep nP g2.tab g2.tb fun p3 f3 c3 H3 g3 n3 n3' n3'' a3 l3 d3 => ?_)
  refine consStep (pairStep nP g3.tab g3.tb fun p4 f4 c4 H4 g4 n4 n4' n4'' a4 l4 d4 => ?_)
  refine consStep (pairStep nP g4.tab g4.tb fun p5 f5 c5 H5 g5 n5 n5' n5'' a5 l5 d5 => ?_)
  refine ⟨(show 5 ≤ sizeLine by decide), fun z hz => ?_⟩
  have e5 := (Gt.refl g5.tab g5.tb).new (o := .lst [.ref p1, .ref p2, .ref p3, .ref p4, .ref p5]) nP hz
  have e4 := g5.trans e5
  have e3 := g4.trans e4
  have e2 := g3.trans e3
  have e1 := g2.trans e2
  refine hn _ _ ⟨z, [p1, p2, p3, p4, p5], ⟨_, _, _, _, _, _, _, _, _, _, _, _, _, _, _, _, _, _, _, _, _, _, _, _, _, _, rfl⟩, e5.tb, upd_same, fun p hp => ?_⟩
  simp only [List.mem_cons, List.not_mem_nil, or_false] at hp
  rcases hp with rfl | rfl | rfl | rfl | rfl
  · refine ⟨f1, _, fun E H Q => tMake C0 (sp_init R C0 Ps) [] E (tCons (tOp (rI0 fun i j => V.int (i - j)) (tC (.int 0)) (tC (.int 1))) (tCons (tC (.int 0)) (tCons (tC (.int 0)) (tCons (tC (.int 0)) tNil)))) [] H Q, e1.keep _ _ n1 a1, e1.keep _ _ n1' l1, e1.keep _ _ n1'' d1, ⟨rfl, rfl, rfl, (fun y hy => by rw [List.mem_singleton.mp hy]; exact ⟨by decide, by decide, by decide⟩), rfl, fun _ _ => rfl, fun A outer s H E f hr2 => pe_make MK FI (hr2.mono k0) (by rfl) T.g_Rule BI .nil (passes_call (takes_of rfl rfl rfl rfl) (fun _ _ _ _ h => h)) (pa_cons (pe_op op_sub pe_int pe_int) (pa_cons pe_int (pa_cons pe_int (pa_cons pe_int pa_nil))))⟩, fun Q G tb0 hQ => ?_⟩
    refine ⟨_, _, rfl, rfl, fun x dx hx hdx nd => ?_⟩
    have gm := mk_gw (C0 := C0) tb0 hx hdx nd
    exact ⟨x, dx, 0 - 1, 0, 0, 0, rfl, upd_same, ⟨by decide, by decide⟩, ⟨by decide, by decide⟩, ⟨by decide, by decide⟩, ⟨by decide, by decide⟩, gm.1, fun n e _ _ _ => by omega, fun _ H' g => .inl ⟨rfl, hQ H' (gm.trans g)⟩⟩
  · refine ⟨f2, _, fun E H Q => tMake C0 (sp_init R C0 Ps) [] E (tCons (tC (.int 1)) (tCons (tC (.int 1)) (tCons (tC (.int 1)) (tCons (tOp (rI0 fun i j => V.int (i - j)) (tC (.int 0)) (tC (.int 1))) tNil)))) [] H Q, e2.keep _ _ n2 a2, e2.keep _ _ n2' l2, e2.keep _ _ n2'' d2, ⟨rfl, rfl, rfl, (fun y hy => by rw [List.mem_singleton.mp hy]; exact ⟨by decide, by decide, by decide⟩), rfl, fun _ _ => rfl, fun A outer s H E f hr2 => pe_make MK FI (hr2.mono k0) (by rfl) T.g_Rule BI .nil (passes_call (takes_of rfl rfl rfl rfl) (fun _ _ _ _ h => h)) (pa_cons pe_int (pa_cons pe_int (pa_cons pe_int (pa_cons (pe_op op_sub pe_int pe_int) pa_nil))))⟩, fun Q G tb0 hQ => ?_⟩
    refine ⟨_, _, rfl, rfl, fun x dx hx hdx nd => ?_⟩
    have gm := mk_gw (C0 := C0) tb0 hx hdx nd
    exact ⟨x, dx, 1, 1, 1, 0 - 1, rfl, upd_same, ⟨by decide, by decide⟩, ⟨by decide, by decide⟩, ⟨by decide, by decide⟩, ⟨by decide, by decide⟩, gm.1, fun n _ _ _ e => by omega, fun _ H' g => .inl ⟨rfl, hQ H' (gm.trans g)⟩⟩
  · refine ⟨f3, _, fun E H Q => tMeth C0 "why" (sp_why K R C0 Ps) [] E (tMake C0 (sp_init R C0 Ps) [] E (tCons (tC (.int 1)) (tCons (tC (.int 1)) (tCons (tC (.int 1)) (tCons (tC (.int 1)) tNil))))) (tCons (tLst (tCons (tC (.int 5)) tNil)) (tCons (tC (.int 6)) tNil)) [] H Q, e3.keep _ _ n3 a3, e3.keep _ _ n3' l3, e3.keep _ _ n3'' d3, ⟨rfl, rfl, rfl, (fun y hy => by rw [List.mem_singleton.mp hy]; exact ⟨by decide, by decide, by decide⟩), rfl, fun _ _ => rfl, fun A outer s H E f hr2 => pe_meth (pe_make MK FI (hr2.mono k0) (by rfl) T.g_Rule BI .nil (passes_call (takes_of rfl rfl rfl rfl) (fun _ _ _ _ h => h)) (pa_cons pe_int (pa_cons pe_int (pa_cons pe_int (pa_cons pe_int pa_nil))))) T.cl M3.m M3.ok (hr2.mono k3) M3.b .nil (passes_call (takes_of rfl rfl rfl rfl) (fun _ _ _ _ h => h)) (pa_cons (pe_lst (pa_cons pe_int pa_nil)) (pa_cons pe_int pa_nil))⟩, fun Q G tb0 hQ => ?_⟩
    refine fun x dx hx hdx nd => ?_
    have gm := mk_gw (C0 := C0) tb0 hx hdx nd
    refine ⟨x, dx, 1, 1, 1, 1, rfl, upd_same, ⟨by decide, by decide⟩, ⟨by decide, by decide⟩, ⟨by decide, by decide⟩, ⟨by decide, by decide⟩, gm.1, fun n n1 n2 n3 n4 => ⟨rfl, ?_⟩, fun z => by omega⟩
    rw [upd_upd]
    have gm2 : Gw Ps G (upd (upd G dx (.own x)) x (.ins C0 dx (ruF n))) := ((Gw.refl tb0).new (o := .own x) hdx).new (by rw [upd_ne nd.symm]; exact hx)
    have nxP : x ∉ Ps := tb0.none hx
    refine ⟨x, dx, _, rfl, upd_same, rfl, (by show 1 ≤ sizeLine; decide), fun u hu => ?_⟩
    have nxu : x ≠ u := ne_of_none upd_same hu
    have gu := gm2.new (o := .lst [.int 5]) hu
    have hok : n.ok := by
      unfold Cn.ok
      omega
    exact ⟨x, u, 6, n, [5], [5], rfl, ⟨dx, by rw [upd_ne nxu]; exact upd_same⟩, hok, ⟨.inl (SqL.of upd_same), by simp [SS], fun _ => Iff.rfl, by decide, fun y hy => by rw [List.mem_singleton.mp hy]; decide⟩, ⟨by decide, by decide⟩, gu.1, fun z => absurd z (by decide), fun _ => .inl ⟨rfl, hQ _ gu⟩⟩
  · refine ⟨f4, _, fun E H Q => tCall (sp_tower R Ps) [] E (tCons (tC (.int 0)) (tCons (tC (.int 3)) tNil)) [] H Q, e4.keep _ _ n4 a4, e4.keep _ _ n4' l4, e4.keep _ _ n4'' d4, ⟨rfl, rfl, rfl, (fun y hy => by rw [List.mem_singleton.mp hy]; exact ⟨by decide, by decide, by decide⟩), rfl, fun _ _ => rfl, fun A outer s H E f hr2 => pe_call G4.ok (hr2.mono k4) (by rfl) G4.g G4.kp G4.b .nil (passes_call (takes_of rfl rfl rfl rfl) (fun _ _ _ _ h => h)) (pa_cons pe_int (pa_cons pe_int pa_nil))⟩, fun Q G tb0 hQ => ?_⟩
    exact ⟨0, 3, rfl, ⟨by decide, by decide⟩, ⟨by decide, by decide⟩, tb0, fun _ => .inl ⟨rfl, hQ _ (Gw.refl tb0)⟩, fun m n e _ => by omega⟩
  · refine ⟨f5, _, fun E H Q => tCall (sp_on_tapes R Ps) [] E (tCons (tC (.int 2)) (tCons (tOp (rI0 fun i j => V.int (i - j)) (tC (.int 0)) (tC (.int 1))) tNil)) [] H Q, e5.keep _ _ n5 a5, e5.keep _ _ n5' l5, e5.keep _ _ n5'' d5, ⟨rfl, rfl, rfl, (fun y hy => by rw [List.mem_singleton.mp hy]; exact ⟨by decide, by decide, by decide⟩), rfl, fun _ _ => rfl, fun A outer s H E f hr2 => pe_call G5.ok (hr2.mono k5) (by rfl) G5.g G5.kp G5.b .nil (passes_call (takes_of rfl rfl rfl rfl) (fun _ _ _ _ h => h)) (pa_cons pe_int (pa_cons (pe_op op_sub pe_int pe_int) pa_nil))⟩, fun Q G tb0 hQ => ?_⟩
    exact ⟨_, _, rfl, rfl, 2, 0 - 1, rfl, ⟨by decide, by decide⟩, ⟨by decide, by decide⟩, tb0, fun _ H' g => .inl ⟨rfl, hQ H' g⟩, fun m n _ e => by omega⟩
end
end K8

set_option maxRecDepth 100000
set_option maxHeartbeats 4000000
namespace K8
open PySem PySem.Spec PyProof.Rows L2
open XT (Sm pe_msg)
open SkE (pmk_own1)
open LamX (Tabs TabS CodeO ExtN codeO_ne)
local macro_rules | `(tactic| walk_at "ev8") => `(tactic| simp only [tSeq, tIfS, tNot, XT.tChain3, rI0, tC, tVar, tRet, tTup, tLst, tCons, tNil, tJs, tFmt, tNext, tTest, tOp, tUn, rI, rU, tCall, tCB, tAnd, tOr, tB, tDrop, tAsg, gName, tAug, tPar, ipI, tBM, rAppend, tSl, rSlS, tPart, tNoPart, tIf, tM1, rEq, rNe, tFld, tMeth, tMake, L2.start, List.map_cons, List.map_nil, List.length_cons, List.length_nil, Nat.reduceAdd, Nat.reduceSub, Nat.sub_self, List.replicate_zero, List.append_nil, List.replicate_succ, List.cons_append, List.nil_append,
  List.getElem?_cons_zero, List.getElem?_cons_succ, Option.some.injEq, exists_eq_left', exists_eq_left, V.int.injEq, V.str.injEq, V.bl.injEq, V.ref.injEq, List.set_cons_zero, List.set_cons_succ, List.cons.injEq, and_true, true_and, reduceCtorEq, false_and, exists_false, false_or, or_false, exists_and_left, and_assoc, decide_eq_true_eq, Bool.not_eq_true', decide_eq_false_iff_not, Bool.not_false, Bool.not_true, if_true, if_false, Bool.false_eq_true, ↓reduceIte])
section
variable {P : Program} {w : World} {K : PySem.W.Frag} {mg : Str → Option Value} {base : Heap} {R Pp C0 : Addr} {Ps : List Addr}
variable {f c d : Addr} {k : Nat} {A : Around} {outer : List Env} {s : Shared} {H0 HB : Hp} {E : XK}

theorem WrongAt.gw {H H' : Hp} {p : Addr} (h : WrongAt P w K mg base k R Pp Ps H p) (tb : Tb Ps H) (g : Gw Ps H H') : WrongAt P w K mg base k R Pp Ps H' p := by
  obtain ⟨f, L, tl, h1, h2, h3, h4, h5⟩ := h
  exact ⟨f, L, tl, g.2 _ _ (tb.not h1 fun _ z => by cases z) h1, g.2 _ _ (tb.not h2 fun _ z => by cases z) h2, g.2 _ _ (tb.not h3 codeO_ne) h3, h4, h5⟩
theorem rEq_tI {H : Hp} {a b : Addr} {ns ms : List Int} {Q : VK} (ha : SqT K H a (ns.map V.int)) (hb : SqT K H b (ms.map V.int)) (q : Q (.bl (decide (ns = ms))) H) : rEqD K (.ref a) (.ref b) H Q := ⟨_, _, dp_tI ha, dp_tI hb, shp_tI _, shp_tI _, by rw [eqv_tI]; exact q⟩
theorem law_ret {g : Addr} {fd : FuncData} (Z : Callees P w K mg base R Pp C0 Ps k) (T : Txt K mg R Pp C0) (G1 : Cal P w K mg base (L2.CX P w) (k + 2) "_law_told" ["what"] (sp__law_told P w K mg base k R Pp) g fd)
    (hr : Room (k + 2) (A.deeper (envOfC "law" (defScope s_law) s.heap.objs.size f (.ref c)))) : ∃ t, PS (LX0 P w K mg base f c A outer s H0 E) (lawS 2) t ∧ ∀ D σ H, PreW P w K mg base k R Pp Ps σ H → (∀ H', D.rt (.bl true) H') → t D σ H := by
  obtain ⟨_, _, _, k2, M2⟩ := Z.stays
  obtain ⟨_, _, _, k3, MK, FI, BI⟩ := Z.mkr
  obtain ⟨td, ed⟩ := T.d_DAY
  obtain ⟨tw, ew⟩ := T.d_WEEK
  obtain ⟨tm, em⟩ := T.d_MONTH
  have hr0 := hr.mono (show k ≤ k + 2 by omega)
  refine ⟨_, ps_ret (pe_and (pe_cmpR (r := rEqD K) (op_eqK rfl hr0.units) (pe_lc (own := [("pair", 26)]) rfl sc_law.nd (pi_list (pv 25)) (blkOk_by (by show blkC Nlaw (defScope s_law) _ _ = true; decide +kernel)) (fun _ _ _ _ _ => (pg_name (i := 26) sc_law.nd rfl (.inl rfl))) (fun _ _ _ _ _ => (pts_one (pt_cmpR op_ne (pe_call G1.ok hr (by rfl) G1.g G1.kp G1.b .nil passF (pa_cons (pe_ix (r := rIxT K) (ix_tupK rfl) (pv 26) pe_int (fun _ _ => rfl)) pa_nil)) (pe_ix (r := rIxT K) (ix_tupK rfl) (pv 26) pe_int (fun _ _ => rfl)) (nomark _)))) (fun _ _ _ _ _ => (pv 26))) (pe_lst pa_nil) (nomark _))
      (pe_and (pe_cmpR (r := rEqD K) (op_eqK rfl hr0.units) (pe_tup (pa_cons (pe_glob (v := .int 24) (by rfl) ed ⟨_, rfl⟩) (pa_cons (pe_glob (v := .int 168) (by rfl) ew ⟨_, rfl⟩) (pa_cons (pe_glob (v := .int 672) (by rfl) em ⟨_, rfl⟩) pa_nil)))) (pe_tup (pa_cons pe_int (pa_cons pe_int (pa_cons pe_int pa_nil)))) (nomark _))
      (pe_one (pe_cmpR (r := rEqD K) (op_eqK rfl hr0.units) (pe_meth (pe_make MK FI (hr0.mono k3) (by rfl) T.g_Rule BI .nil passF (pa_cons pe_int (pa_cons pe_int (pa_cons pe_int (pa_cons pe_int pa_nil))))) T.cl M2.m M2.ok (hr0.mono k2) M2.b .nil passF (pa_cons (pe_lst pa_nil) pa_nil)) (pe_tup pa_nil) (nomark _))))), fun D σ H hp hn => ?_⟩
  obtain ⟨a, ps, ⟨z0, z1, z2, z3, z4, z5, z6, z7, z8, z9, z10, z11, z12, z13, z14, z15, z16, z17, z18, z19, z20, z21, z22, z23, z24, z26, rfl⟩, tb, ha, hw⟩ := hp
  walk_at "ev8"
  have naP : a ∉ Ps := tb.not ha fun _ z => by cases z
  refine ⟨_, rfl, a, rfl, ⟨_, SqL.of ha⟩, fun D' hD => ?_⟩
  have nD : D' ∉ Ps := tb.none hD
  refine lc_list (xs := ps.map V.ref) (fun i G => Gw Ps H G ∧ G D' = some (.lst [])) ⟨(Gw.refl tb).new hD, upd_same⟩ (fun i G _ hP => SqL.of (hP.1.2 _ _ naP ha)) ?_ ?_
  · rintro i x G e ⟨gi, hG⟩
    rw [List.getElem?_map] at e
    obtain ⟨p, hp2, rfl⟩ := Option.map_eq_some_iff.mp e
    obtain ⟨l, L, tl, h1, h2, h3, h4, h5⟩ := (hw p (List.mem_of_getElem? hp2)).gw tb gi
    refine ⟨by simp [wipe], ?_⟩
    simp only [wipe, List.set_cons_zero, List.set_cons_succ]
    walk_at "ev8"
    refine ⟨p, _, 0, _, rfl, rfl, SqT_of h1, rfl, l, L, tl, rfl, h2, h3, h4, h5 _ G gi.1 fun G2 g2 => ?_⟩
    have h6 := g2.2 _ _ (gi.1.not h1 fun _ z => by cases z) h1
    refine ⟨p, _, 1, _, rfl, rfl, SqT_of h6, rfl, rfl, ?_⟩
    rw [if_neg (fun z => z rfl)]
    exact ⟨gi.trans g2, g2.2 _ _ nD hG⟩
  · rintro G ⟨gi, hG⟩
    refine ⟨by decide, fun p hp => ?_⟩
    have nDp : D' ≠ p := ne_of_none hG hp
    refine rEq_lI (ns := []) (ms := []) (SqL.of (by rw [upd_ne nDp]; exact hG)) (SqL.of upd_same) ⟨_, rfl, ?_⟩
    rw [if_pos (by decide)]
    have g2 := gi.new (o := .lst []) hp
    have three : 3 ≤ sizeLine := by decide
    refine ⟨three, fun p1 h1 => ⟨three, fun p2 h2 => ?_⟩⟩
    have n12 : p1 ≠ p2 := (upd_none h2).2.symm
    have g3 := (g2.new (o := .tup [.int 24, .int 168, .int 672]) h1).new (o := .tup [.int 24, .int 168, .int 672]) h2
    refine rEq_tI (ns := [24, 168, 672]) (ms := [24, 168, 672]) (SqT_of (by rw [upd_ne n12]; exact upd_same)) (SqT_of upd_same) ⟨_, rfl, ?_⟩
    rw [show decide (([24, 168, 672] : List Int) = [24, 168, 672]) = true by simp]
    generalize upd (upd (upd G p (.lst [])) p1 (.tup [.int 24, .int 168, .int 672])) p2 (.tup [.int 24, .int 168, .int 672]) = G3 at g3 ⊢
    refine fun x dx hx hdx nd => ?_
    have gm := mk_gw (C0 := C0) g3.1 hx hdx nd
    refine ⟨x, dx, 1, 0, 0, 0, rfl, upd_same, ⟨by decide, by decide⟩, ⟨by decide, by decide⟩, ⟨by decide, by decide⟩, ⟨by decide, by decide⟩, gm.1, fun n n1 n2 n3 n4 => ⟨rfl, ?_⟩, fun z => by omega⟩
    rw [upd_upd]
    have gm2 : Gw Ps G3 (upd (upd G3 dx (.own x)) x (.ins C0 dx (ruF n))) := ((Gw.refl g3.1).new (o := .own x) hdx).new (by rw [upd_ne nd.symm]; exact hx)
    refine ⟨x, dx, _, rfl, upd_same, rfl, (by show 0 ≤ sizeLine; decide), fun u hu => ?_⟩
    have nxu : x ≠ u := ne_of_none upd_same hu
    have gu := gm2.new (o := .lst []) hu
    have hok : n.ok := by
      unfold Cn.ok
      omega
    refine ⟨x, u, n, [], [], rfl, ⟨dx, by rw [upd_ne nxu]; exact upd_same⟩, hok, ⟨.inl (SqL.of upd_same), by simp [SS], fun _ => Iff.rfl, by decide, fun y hy => nomatch hy⟩, gu.1, fun H5 v g5 hv hvo => ?_⟩
    refine ⟨(by show 0 ≤ sizeLine; decide), fun e he => ?_⟩
    have nve : v ≠ e := ne_of_none hvo he
    refine rEq_tI (ns := []) (ms := []) (SqT_of (by rw [upd_ne nve]; exact hvo)) (SqT_of upd_same) ?_
    exact hn _
def sp_law (K : PySem.W.Frag) (T : List (Addr × Str)) (Ps : List Addr) : Sp := fun vs H Q E => ∃ (a : Addr) (ns : List Int), vs = [.ref a] ∧ SqL K H a (ns.map V.int) ∧ Tabs T H ∧ Tb Ps H ∧ ∀ H', Q (.bl true) H'
theorem body_is : defBody s_law = [lawS 0, lawS 1, lawS 2] := rfl
/-- the name of the law's lambdas -/
def lamQ : Str := (envOfC "law" (defScope s_law) 0 0 (.ref 0)).qual ++ "<lambda>"
theorem ok_law {g pT : Addr} {fd fdl : FuncData} (F : FunC K "law" "law" s_law f fdl c) (Z : Callees P w K mg base R Pp C0 Ps k) (T : Txt K mg R Pp C0) (N : Nine K mg R Pp) (TB : LamX.TabB base mg c pT) (nP : pT ∉ Ps) (Fg : Fun K "_law_told" "_law_told" s__law_told g fd) (mgg : mg "_law_told" = some (.ref g)) (bd : Binds K fd ["what"] []) :
    FnOk P w K mg base (L2.CX P w) (k + 3) f fdl ["script"] (sp_law K [(pT, lamQ)] Ps) := by
  have G1 : Cal P w K mg base (L2.CX P w) (k + 2) "_law_told" ["what"] (sp__law_told P w K mg base k R Pp) g fd := ⟨ok__law_told Fg N, mgg, Fg.kp, bd⟩
  refine F.okX sc_law (fun vs H Q E h => ?_) (fun A outer s H vs Q E hr h => ?_)
  · obtain ⟨a, ns, rfl, _⟩ := h
    rfl
  · obtain ⟨a, ns, rfl, ha, tab, tb, hq⟩ := h
    obtain ⟨t0, p0, k0⟩ := law_for (f := f) (c := c) (A := A) (outer := outer) (s := s) (H0 := H) (E := E) Z T N TB (q := lamQ) rfl nP Fg mgg bd hr
    obtain ⟨t1, p1, k1⟩ := law_wrong (f := f) (c := c) (A := A) (outer := outer) (s := s) (H0 := H) (E := E) Z T TB (q := lamQ) rfl nP
    obtain ⟨t2, p2, k2⟩ := law_ret (f := f) (c := c) (A := A) (outer := outer) (s := s) (H0 := H) (E := E) Z T G1 hr
    refine ⟨_, by rw [body_is]; exact pss_cons p0 (pss_cons p1 (pss_one p2)), ?_⟩
    refine k0 _ _ _ ⟨a, ns, ⟨_, _, _, _, _, _, _, _, _, _, _, _, _, _, _, _, _, _, _, _, _, _, _, _, _, _, rfl⟩, ha, tab, tb⟩ fun σ1 H1 h1 => ?_
    refine k1 _ _ _ h1 fun σ2 H2 h2 => ?_
    exact k2 _ _ _ h2 hq
end
end K8

set_option maxRecDepth 100000
set_option maxHeartbeats 4000000
namespace K8
open PySem PySem.Spec PyProof.Rows L2
open LamX (Tabs TabS)
def mkD (x : Str) (st : Stmt) : He.DefD := ⟨(x, none), x, x, defArgs st, defBody st, defScope st, [], []⟩
def mkM (x q : Str) (st : Stmt) : He.DefD := ⟨("Rule", some x), x, q, defArgs st, defBody st, defScope st, [], []⟩
def fnL : List He.DefD := [mkM "__init__" "Rule.__init__" s_init, mkM "parts" "Rule.parts" s_parts, mkM "stays" "Rule.stays" s_stays, mkM "goes" "Rule.goes" s_goes, mkM "why" "Rule.why" s_why, mkM "shown" "Rule.shown" s_shown, mkD "last_of" s_last_of, mkD "span_ends" s_span_ends, mkD "after_each" s_after_each, mkD "both" s_both, mkD "check_stays" s_check_stays, mkD "most_kept" s_most_kept, mkD "widest_gap" s_widest_gap, mkD "tower" s_tower, mkD "tape_of" s_tape_of, mkD "on_tapes" s_on_tapes, mkD "_law_dice" s__law_dice, mkD "_law_roll" s__law_roll, mkD "_law_rounds" s__law_rounds, mkD "_law_told" s__law_told, mkD "law" s_law]
def faL : List He.Fa := [.glo "last_of", .glo "span_ends", .glo "after_each", .glo "both", .glo "check_stays", .glo "most_kept", .glo "widest_gap", .glo "tower", .glo "tape_of", .glo "on_tapes", .glo "_law_dice", .glo "_law_roll", .glo "_law_rounds", .glo "_law_told", .glo "law", .glo "BadPath", .glo "BadPiece", .glo "BadRule", .glo "BadPaper", .glo "BadSize", .glo "BadStore", .glo "BadText", .glo "Lost", .glo "NoSuch", .glo "Rule", .exc "BadRule", .exc "BadPaper", .exm "BadRule" "BadPath" false, .exm "BadRule" "BadPiece" false, .exm "BadRule" "BadRule" true, .exm "BadPaper" "BadPath" false, .exm "BadPaper" "BadPiece" false, .exm "BadPaper" "BadRule" false, .exm "BadPaper" "BadPaper" true, .cls "Rule", .noat "Rule" "newest", .noat "Rule" "days", .noat "Rule" "weeks", .noat "Rule" "months", .meth "Rule" "parts", .meth "Rule" "stays", .meth "Rule" "goes", .meth "Rule" "why", .meth "Rule" "shown", .mkr "Rule", .int "DAY" 24, .int "WEEK" 168, .int "MONTH" 672, .free "len", .free "range", .free "tuple", .free "sum", .free "any", .free "set", .free "min", .free "max", .free "int", .free "abs", .free "list", .free "dict", .free "sorted", .free "zip", .free "enumerate"]
def tfL : List He.Defn := [("check_stays", none), ("tower", none), ("law", none)]
theorem fun_of {K : PySem.W.Frag} {x q : Str} {st : Stmt} {f : Addr} {fd : FuncData} (F : FunD K x q (defArgs st) (defBody st) (defScope st) [] [] f fd) : Fun K x q st f fd := by
  obtain ⟨oc, od, dV, kV, doc, pm, an, cdv, ct, osl, e, lk, hcd, hD, hK⟩ := F.ex
  rcases hD with ⟨_, rfl⟩ | ⟨e, _⟩
  · exact ⟨⟨oc, od, kV, doc, pm, an, cdv, ct, osl, e, lk, hcd⟩, F.kp⟩
  · exact absurd rfl e
theorem funC_of {K : PySem.W.Frag} {x : Str} {st : Stmt} {fd : FuncData} (F : FunD K x x (defArgs st) (defBody st) (defScope st) [] [] (He.ga K x) fd) : FunC K x x st (He.ga K x) fd (He.codeOf K (x, none)) := by
  obtain ⟨oc, od, dV, kV, doc, pm, an, cdv, ct, osl, e, lk, hcd, hD, hK⟩ := F.ex
  obtain ⟨c0, rfl⟩ := He.codeIn_ref hcd
  rcases hD with ⟨_, rfl⟩ | ⟨e, _⟩
  · have ec : He.codeOf K (x, none) = c0 := He.codeOf_eq (p := (x, none)) lk (by rw [e])
    rw [ec]
    exact ⟨⟨oc, od, kV, doc, pm, an, ct, osl, e, lk, hcd⟩, F.kp⟩
  · exact absurd rfl e
/-- the law's own table is none of the others -/
def exL (K : PySem.W.Frag) : Bool := !([(He.cT K ("check_stays", none)).2, (He.cT K ("tower", none)).2].contains (He.cT K ("law", none)).2)
theorem triples0 : TriplesOk ([] : List Value) := by
  first | exact .nil | exact trivial | simp [TriplesOk]
theorem facts {l : PySem.W.OpenLaw} {w : World} {K : PySem.W.Frag} {h : Heap} {mg : Str → Option Value} {fa : Addr} {n : Nat} (X : K.In h) (G : h.Ns mainGlobals mg) (hfa : mg ("law" : Str) = some (.ref fa)) (c : He.SaysX faL fnL [] tfL exL w h K) :
    LamX.LawAtS l w K (L2.CX l.prog w) 14 n "script" mg fa h := by
  have c0 := c.t.d
  obtain ⟨d0, F0⟩ := c0.def_ 0 (d := mkM "__init__" "Rule.__init__" s_init) rfl
  obtain ⟨d1, F1⟩ := c0.def_ 1 (d := mkM "parts" "Rule.parts" s_parts) rfl
  obtain ⟨d2, F2⟩ := c0.def_ 2 (d := mkM "stays" "Rule.stays" s_stays) rfl
  obtain ⟨d3, F3⟩ := c0.def_ 3 (d := mkM "goes" "Rule.goes" s_goes) rfl
  obtain ⟨d4, F4⟩ := c0.def_ 4 (d := mkM "why" "Rule.why" s_why) rfl
  obtain ⟨d5, F5⟩ := c0.def_ 5 (d := mkM "shown" "Rule.shown" s_shown) rfl
  obtain ⟨d6, F6⟩ := c0.def_ 6 (d := mkD "last_of" s_last_of) rfl
  obtain ⟨d7, F7⟩ := c0.def_ 7 (d := mkD "span_ends" s_span_ends) rfl
  obtain ⟨d8, F8⟩ := c0.def_ 8 (d := mkD "after_each" s_after_each) rfl
  obtain ⟨d9, F9⟩ := c0.def_ 9 (d := mkD "both" s_both) rfl
  obtain ⟨d10, F10⟩ := c0.def_ 10 (d := mkD "check_stays" s_check_stays) rfl
  obtain ⟨d11, F11⟩ := c0.def_ 11 (d := mkD "most_kept" s_most_kept) rfl
  obtain ⟨d12, F12⟩ := c0.def_ 12 (d := mkD "widest_gap" s_widest_gap) rfl
  obtain ⟨d13, F13⟩ := c0.def_ 13 (d := mkD "tower" s_tower) rfl
  obtain ⟨d14, F14⟩ := c0.def_ 14 (d := mkD "tape_of" s_tape_of) rfl
  obtain ⟨d15, F15⟩ := c0.def_ 15 (d := mkD "on_tapes" s_on_tapes) rfl
  obtain ⟨d16, F16⟩ := c0.def_ 16 (d := mkD "_law_dice" s__law_dice) rfl
  obtain ⟨d17, F17⟩ := c0.def_ 17 (d := mkD "_law_roll" s__law_roll) rfl
  obtain ⟨d18, F18⟩ := c0.def_ 18 (d := mkD "_law_rounds" s__law_rounds) rfl
  obtain ⟨d19, F19⟩ := c0.def_ 19 (d := mkD "_law_told" s__law_told) rfl
  obtain ⟨d20, F20⟩ := c0.def_ 20 (d := mkD "law" s_law) rfl
  have g_last_of := He.glo_ok X G (c0.fact 0 (f := .glo "last_of") rfl)
  have g_span_ends := He.glo_ok X G (c0.fact 1 (f := .glo "span_ends") rfl)
  have g_after_each := He.glo_ok X G (c0.fact 2 (f := .glo "after_each") rfl)
  have g_both := He.glo_ok X G (c0.fact 3 (f := .glo "both") rfl)
  have g_check_stays := He.glo_ok X G (c0.fact 4 (f := .glo "check_stays") rfl)
  have g_most_kept := He.glo_ok X G (c0.fact 5 (f := .glo "most_kept") rfl)
  have g_widest_gap := He.glo_ok X G (c0.fact 6 (f := .glo "widest_gap") rfl)
  have g_tower := He.glo_ok X G (c0.fact 7 (f := .glo "tower") rfl)
  have g_tape_of := He.glo_ok X G (c0.fact 8 (f := .glo "tape_of") rfl)
  have g_on_tapes := He.glo_ok X G (c0.fact 9 (f := .glo "on_tapes") rfl)
  have g__law_dice := He.glo_ok X G (c0.fact 10 (f := .glo "_law_dice") rfl)
  have g__law_roll := He.glo_ok X G (c0.fact 11 (f := .glo "_law_roll") rfl)
  have g__law_rounds := He.glo_ok X G (c0.fact 12 (f := .glo "_law_rounds") rfl)
  have g__law_told := He.glo_ok X G (c0.fact 13 (f := .glo "_law_told") rfl)
  have g_law := He.glo_ok X G (c0.fact 14 (f := .glo "law") rfl)
  have g_BadPath := He.glo_ok X G (c0.fact 15 (f := .glo "BadPath") rfl)
  have g_BadPiece := He.glo_ok X G (c0.fact 16 (f := .glo "BadPiece") rfl)
  have g_BadRule := He.glo_ok X G (c0.fact 17 (f := .glo "BadRule") rfl)
  have g_BadPaper := He.glo_ok X G (c0.fact 18 (f := .glo "BadPaper") rfl)
  have g_BadSize := He.glo_ok X G (c0.fact 19 (f := .glo "BadSize") rfl)
  have g_BadStore := He.glo_ok X G (c0.fact 20 (f := .glo "BadStore") rfl)
  have g_BadText := He.glo_ok X G (c0.fact 21 (f := .glo "BadText") rfl)
  have g_Lost := He.glo_ok X G (c0.fact 22 (f := .glo "Lost") rfl)
  have g_NoSuch := He.glo_ok X G (c0.fact 23 (f := .glo "NoSuch") rfl)
  have g_Rule := He.glo_ok X G (c0.fact 24 (f := .glo "Rule") rfl)
  obtain ⟨r1, r2, r3, r4⟩ := He.exc_ok (c0.fact 25 (f := .exc "BadRule") rfl)
  obtain ⟨p1, p2, p3, p4⟩ := He.exc_ok (c0.fact 26 (f := .exc "BadPaper") rfl)
  have y0 := He.exm_ok (c0.fact 27 (f := .exm "BadRule" "BadPath" false) rfl)
  have y1 := He.exm_ok (c0.fact 28 (f := .exm "BadRule" "BadPiece" false) rfl)
  have y2 := He.exm_ok (c0.fact 29 (f := .exm "BadRule" "BadRule" true) rfl)
  have y3 := He.exm_ok (c0.fact 30 (f := .exm "BadPaper" "BadPath" false) rfl)
  have y4 := He.exm_ok (c0.fact 31 (f := .exm "BadPaper" "BadPiece" false) rfl)
  have y5 := He.exm_ok (c0.fact 32 (f := .exm "BadPaper" "BadRule" false) rfl)
  have y6 := He.exm_ok (c0.fact 33 (f := .exm "BadPaper" "BadPaper" true) rfl)
  have hcls := He.cls_ok (c0.fact 34 (f := .cls "Rule") rfl)
  have n_newest := He.noat_ok (c0.fact 35 (f := .noat "Rule" "newest") rfl)
  have n_days := He.noat_ok (c0.fact 36 (f := .noat "Rule" "days") rfl)
  have n_weeks := He.noat_ok (c0.fact 37 (f := .noat "Rule" "weeks") rfl)
  have n_months := He.noat_ok (c0.fact 38 (f := .noat "Rule" "months") rfl)
  have m_parts := He.meth_ok (c0.fact 39 (f := .meth "Rule" "parts") rfl)
  have m_stays := He.meth_ok (c0.fact 40 (f := .meth "Rule" "stays") rfl)
  have m_goes := He.meth_ok (c0.fact 41 (f := .meth "Rule" "goes") rfl)
  have m_why := He.meth_ok (c0.fact 42 (f := .meth "Rule" "why") rfl)
  have m_shown := He.meth_ok (c0.fact 43 (f := .meth "Rule" "shown") rfl)
  have hmk := He.mkr_ok (c0.fact 44 (f := .mkr "Rule") rfl)
  have i_DAY := He.int_ok X G (c0.fact 45 (f := .int "DAY" 24) rfl)
  have i_WEEK := He.int_ok X G (c0.fact 46 (f := .int "WEEK" 168) rfl)
  have i_MONTH := He.int_ok X G (c0.fact 47 (f := .int "MONTH" 672) rfl)
  have z_len := He.free_ok X G (c0.fact 48 (f := .free "len") rfl)
  have z_range := He.free_ok X G (c0.fact 49 (f := .free "range") rfl)
  have z_tuple := He.free_ok X G (c0.fact 50 (f := .free "tuple") rfl)
  have z_sum := He.free_ok X G (c0.fact 51 (f := .free "sum") rfl)
  have z_any := He.free_ok X G (c0.fact 52 (f := .free "any") rfl)
  have z_set := He.free_ok X G (c0.fact 53 (f := .free "set") rfl)
  have z_min := He.free_ok X G (c0.fact 54 (f := .free "min") rfl)
  have z_max := He.free_ok X G (c0.fact 55 (f := .free "max") rfl)
  have z_int := He.free_ok X G (c0.fact 56 (f := .free "int") rfl)
  have z_abs := He.free_ok X G (c0.fact 57 (f := .free "abs") rfl)
  have z_list := He.free_ok X G (c0.fact 58 (f := .free "list") rfl)
  have z_dict := He.free_ok X G (c0.fact 59 (f := .free "dict") rfl)
  have z_sorted := He.free_ok X G (c0.fact 60 (f := .free "sorted") rfl)
  have z_zip := He.free_ok X G (c0.fact 61 (f := .free "zip") rfl)
  have z_enumerate := He.free_ok X G (c0.fact 62 (f := .free "enumerate") rfl)
  have e := hfa.symm.trans g_law
  cases e
  have T : Txt K mg (He.ga K "BadRule") (He.ga K "BadPaper") (He.ga K "Rule") := ⟨r1, g_BadRule, r2, r3, r4, p1, g_BadPaper, p2, p3, p4, hcls, g_Rule, n_newest, n_days, n_weeks, n_months, i_DAY, i_WEEK, i_MONTH, z_len, z_range, z_tuple, z_sum, z_any, z_set, z_min, z_max, z_int, z_abs, z_list, z_dict, z_sorted, z_zip, z_enumerate⟩
  have N : Nine K mg (He.ga K "BadRule") (He.ga K "BadPaper") := ⟨⟨_, g_BadPath, y0, y3⟩, ⟨_, g_BadPiece, y1, y4⟩, ⟨g_BadRule, y2, y5⟩, ⟨g_BadPaper, y6⟩, ⟨_, g_BadSize⟩, ⟨_, g_BadStore⟩, ⟨_, g_BadText⟩, ⟨_, g_Lost⟩, ⟨_, g_NoSuch⟩⟩
  have f0 := fun_of (x := "__init__") (q := "Rule.__init__") (st := s_init) F0
  have b0 := f0.binds (ps := ["self", "last", "days", "weeks", "months"]) fun _ _ _ _ _ _ us hl => match us, hl with | [_, _, _, _, _], _ => rfl
  have f1 := fun_of (x := "parts") (q := "Rule.parts") (st := s_parts) F1
  have b1 := f1.binds (ps := ["self"]) fun _ _ _ _ _ _ us hl => match us, hl with | [_], _ => rfl
  have f2 := fun_of (x := "stays") (q := "Rule.stays") (st := s_stays) F2
  have b2 := f2.binds (ps := ["self", "times"]) fun _ _ _ _ _ _ us hl => match us, hl with | [_, _], _ => rfl
  have f3 := fun_of (x := "goes") (q := "Rule.goes") (st := s_goes) F3
  have b3 := f3.binds (ps := ["self", "times"]) fun _ _ _ _ _ _ us hl => match us, hl with | [_, _], _ => rfl
  have f4 := fun_of (x := "why") (q := "Rule.why") (st := s_why) F4
  have b4 := f4.binds (ps := ["self", "times", "time"]) fun _ _ _ _ _ _ us hl => match us, hl with | [_, _, _], _ => rfl
  have f5 := fun_of (x := "shown") (q := "Rule.shown") (st := s_shown) F5
  have b5 := f5.binds (ps := ["self"]) fun _ _ _ _ _ _ us hl => match us, hl with | [_], _ => rfl
  have f6 := fun_of (x := "last_of") (q := "last_of") (st := s_last_of) F6
  have b6 := f6.binds (ps := ["rows", "count"]) fun _ _ _ _ _ _ us hl => match us, hl with | [_, _], _ => rfl
  have f7 := fun_of (x := "span_ends") (q := "span_ends") (st := s_span_ends) F7
  have b7 := f7.binds (ps := ["times", "length", "count"]) fun _ _ _ _ _ _ us hl => match us, hl with | [_, _, _], _ => rfl
  have f8 := fun_of (x := "after_each") (q := "after_each") (st := s_after_each) F8
  have b8 := f8.binds (ps := ["rule", "times"]) fun _ _ _ _ _ _ us hl => match us, hl with | [_, _], _ => rfl
  have f9 := fun_of (x := "both") (q := "both") (st := s_both) F9
  have b9 := f9.binds (ps := ["one", "other"]) fun _ _ _ _ _ _ us hl => match us, hl with | [_, _], _ => rfl
  have f10 := funC_of (x := "check_stays") (st := s_check_stays) F10
  have b10 := f10.binds (ps := ["rule", "times", "stays"]) fun _ _ _ _ _ _ us hl => match us, hl with | [_, _, _], _ => rfl
  have f11 := fun_of (x := "most_kept") (q := "most_kept") (st := s_most_kept) F11
  have b11 := f11.binds (ps := ["rule"]) fun _ _ _ _ _ _ us hl => match us, hl with | [_], _ => rfl
  have f12 := fun_of (x := "widest_gap") (q := "widest_gap") (st := s_widest_gap) F12
  have b12 := f12.binds (ps := ["times"]) fun _ _ _ _ _ _ us hl => match us, hl with | [_], _ => rfl
  have f13 := funC_of (x := "tower") (st := s_tower) F13
  have b13 := f13.binds (ps := ["count", "turns"]) fun _ _ _ _ _ _ us hl => match us, hl with | [_, _], _ => rfl
  have f14 := fun_of (x := "tape_of") (q := "tape_of") (st := s_tape_of) F14
  have b14 := f14.binds (ps := ["turn", "count"]) fun _ _ _ _ _ _ us hl => match us, hl with | [_, _], _ => rfl
  have f15 := fun_of (x := "on_tapes") (q := "on_tapes") (st := s_on_tapes) F15
  have b15 := f15.binds (ps := ["count", "turns"]) fun _ _ _ _ _ _ us hl => match us, hl with | [_, _], _ => rfl
  have f16 := fun_of (x := "_law_dice") (q := "_law_dice") (st := s__law_dice) F16
  have b16 := f16.binds (ps := ["cell"]) fun _ _ _ _ _ _ us hl => match us, hl with | [_], _ => rfl
  have f17 := fun_of (x := "_law_roll") (q := "_law_roll") (st := s__law_roll) F17
  have b17 := f17.binds (ps := ["dice", "many"]) fun _ _ _ _ _ _ us hl => match us, hl with | [_, _], _ => rfl
  have f18 := fun_of (x := "_law_rounds") (q := "_law_rounds") (st := s__law_rounds) F18
  have b18 := f18.binds (ps := ["script", "most"]) fun _ _ _ _ _ _ us hl => match us, hl with | [_, _], _ => rfl
  have f19 := fun_of (x := "_law_told") (q := "_law_told") (st := s__law_told) F19
  have b19 := f19.binds (ps := ["what"]) fun _ _ _ _ _ _ us hl => match us, hl with | [_], _ => rfl
  have f20 := funC_of (x := "law") (st := s_law) F20
  have b20 := f20.binds (ps := ["script"]) fun _ _ _ _ _ _ us hl => match us, hl with | [_], _ => rfl
  have nP : (He.cT K ("law", none)).2 ∉ [(He.cT K ("check_stays", none)).2, (He.cT K ("tower", none)).2] := fun z => by
    have q := c.more
    unfold exL at q
    rw [List.contains_iff_mem.mpr z] at q
    cases q
  refine ⟨d20, tfL.map (He.cT K), sp_law K [((He.cT K ("law", none)).2, lamQ)] [(He.cT K ("check_stays", none)).2, (He.cT K ("tower", none)).2], fun p hp => ?_, fun p hp => ?_, fun p hp => ?_, fun s u => ?_, fun H a ns _ _ hT hS => ?_, fun base KB GB TB => ?_⟩
  · obtain ⟨q, hq, rfl⟩ := List.mem_map.mp hp
    exact c.empty q hq
  · obtain ⟨q, hq, rfl⟩ := List.mem_map.mp hp
    exact c.out q hq
  · obtain ⟨q, hq, rfl⟩ := List.mem_map.mp hp
    exact PySem.W.codeHd_of_K X (c.hd q hq)
  · exact FunD.bindsA (ps := ["script"]) F20 (fun _ _ _ _ _ _ us hl => match us, hl with | [_], _ => rfl) s [u] rfl
  · have t1 := hT (He.cT K ("check_stays", none)) (List.mem_map.mpr ⟨_, by simp [tfL], rfl⟩)
    have t2 := hT (He.cT K ("tower", none)) (List.mem_map.mpr ⟨_, by simp [tfL], rfl⟩)
    have t4 := hT (He.cT K ("law", none)) (List.mem_map.mpr ⟨_, by simp [tfL], rfl⟩)
    refine ⟨a, ns, rfl, hS, fun p hp => ?_, fun p hp => ?_, fun _ => rfl⟩
    · rw [List.mem_singleton.mp hp]
      exact ⟨#[], t4, triples0, fun pos cv hc => by cases hc⟩
    · simp only [List.mem_cons, List.not_mem_nil, or_false] at hp
      rcases hp with rfl | rfl
      · exact ⟨#[], t1, triples0⟩
      · exact ⟨#[], t2, triples0⟩
  · have B1 := TB (He.cT K ("check_stays", none)) (List.mem_map.mpr ⟨_, by simp [tfL], rfl⟩)
    have B2 := TB (He.cT K ("tower", none)) (List.mem_map.mpr ⟨_, by simp [tfL], rfl⟩)
    have B4 := TB (He.cT K ("law", none)) (List.mem_map.mpr ⟨_, by simp [tfL], rfl⟩)
    have g (b : Addr × Addr) (B : LamX.TabB base mg b.1 b.2) : GxR.TabB base mg b.1 b.2 := ⟨B.code, B.bm, B.gP⟩
    have q_dice : Cal l.prog w K mg base (L2.CX l.prog w) 1 "_law_dice" ["cell"] sp__law_dice _ _ := ⟨ok__law_dice (k := 0) f16 T, g__law_dice, f16.kp, b16⟩
    have q_roll : Cal l.prog w K mg base (L2.CX l.prog w) 1 "_law_roll" ["dice", "many"] sp__law_roll _ _ := ⟨ok__law_roll (k := 0) f17 T, g__law_roll, f17.kp, b17⟩
    have q_rounds : Cal l.prog w K mg base (L2.CX l.prog w) 2 "_law_rounds" ["script", "most"] (sp__law_rounds K [(He.cT K ("check_stays", none)).2, (He.cT K ("tower", none)).2]) _ _ := ⟨ok__law_rounds (k := 1) f18 T q_dice (by omega), g__law_rounds, f18.kp, b18⟩
    have q_parts : MCal l.prog w K mg base (L2.CX l.prog w) 1 (He.ga K "Rule") "parts" ["self"] (sp_parts (He.ga K "Rule") [(He.cT K ("check_stays", none)).2, (He.cT K ("tower", none)).2]) _ _ := ⟨ok_parts (k := 0) f1 T, m_parts, b1⟩
    have q_shown : MCal l.prog w K mg base (L2.CX l.prog w) 1 (He.ga K "Rule") "shown" ["self"] (sp_shown (He.ga K "Rule") [(He.cT K ("check_stays", none)).2, (He.cT K ("tower", none)).2]) _ _ := ⟨ok_shown (k := 0) f5 T, m_shown, b5⟩
    have q_last : Cal l.prog w K mg base (L2.CX l.prog w) 1 "last_of" ["rows", "count"] (sp_last_of K [(He.cT K ("check_stays", none)).2, (He.cT K ("tower", none)).2]) _ _ := ⟨ok_last_of (k := 0) f6 T, g_last_of, f6.kp, b6⟩
    have q_span : Cal l.prog w K mg base (L2.CX l.prog w) 2 "span_ends" ["times", "length", "count"] (sp_span_ends K [(He.cT K ("check_stays", none)).2, (He.cT K ("tower", none)).2]) _ _ := ⟨ok_span_ends (k := 1) f7 T q_last (by omega), g_span_ends, f7.kp, b7⟩
    have q_stays : MCal l.prog w K mg base (L2.CX l.prog w) 3 (He.ga K "Rule") "stays" ["self", "times"] (sp_stays K (He.ga K "Rule") [(He.cT K ("check_stays", none)).2, (He.cT K ("tower", none)).2]) _ _ := ⟨ok_stays (k := 2) f2 T q_last q_span q_parts (by omega) (by omega) (by omega), m_stays, b2⟩
    have q_goes : MCal l.prog w K mg base (L2.CX l.prog w) 4 (He.ga K "Rule") "goes" ["self", "times"] (sp_goes K (He.ga K "Rule") [(He.cT K ("check_stays", none)).2, (He.cT K ("tower", none)).2]) _ _ := ⟨ok_goes (k := 3) f3 T q_stays (by omega), m_goes, b3⟩
    have q_why : MCal l.prog w K mg base (L2.CX l.prog w) 3 (He.ga K "Rule") "why" ["self", "times", "time"] (sp_why K (He.ga K "BadRule") (He.ga K "Rule") [(He.cT K ("check_stays", none)).2, (He.cT K ("tower", none)).2]) _ _ := ⟨ok_why (k := 2) f4 T q_last q_span q_parts (by omega) (by omega) (by omega), m_why, b4⟩
    have q_init : FnOk l.prog w K mg base (L2.CX l.prog w) 1 _ _ ["self", "last", "days", "weeks", "months"] (sp_init (He.ga K "BadRule") (He.ga K "Rule") [(He.cT K ("check_stays", none)).2, (He.cT K ("tower", none)).2]) := ok_init (k := 0) f0 T
    have q_after : Cal l.prog w K mg base (L2.CX l.prog w) 4 "after_each" ["rule", "times"] (sp_after_each K (He.ga K "Rule") [(He.cT K ("check_stays", none)).2, (He.cT K ("tower", none)).2]) _ _ := ⟨ok_after_each (k := 3) f8 T q_stays (by omega), g_after_each, f8.kp, b8⟩
    have q_both : Cal l.prog w K mg base (L2.CX l.prog w) 3 "both" ["one", "other"] (sp_both (He.ga K "Rule") [(He.cT K ("check_stays", none)).2, (He.cT K ("tower", none)).2]) _ _ := ⟨ok_both (k := 2) f9 T q_shown hmk q_init b0 (by omega) (by omega), g_both, f9.kp, b9⟩
    have q_check : Cal l.prog w K mg base (L2.CX l.prog w) 11 "check_stays" ["rule", "times", "stays"] (sp_check_stays K (He.ga K "BadPaper") (He.ga K "Rule") [(He.cT K ("check_stays", none)).2, (He.cT K ("tower", none)).2]) _ _ := ⟨ok_check_stays (k := 3) f10 (g _ B1) (by simp) T q_why (by omega), g_check_stays, f10.kp, b10⟩
    have q_most : Cal l.prog w K mg base (L2.CX l.prog w) 2 "most_kept" ["rule"] (sp_most_kept (He.ga K "Rule") [(He.cT K ("check_stays", none)).2, (He.cT K ("tower", none)).2]) _ _ := ⟨ok_most_kept (k := 1) f11 T q_shown (by omega), g_most_kept, f11.kp, b11⟩
    have q_gap : Cal l.prog w K mg base (L2.CX l.prog w) 1 "widest_gap" ["times"] (sp_widest_gap K [(He.cT K ("check_stays", none)).2, (He.cT K ("tower", none)).2]) _ _ := ⟨ok_widest_gap (k := 0) f12 T, g_widest_gap, f12.kp, b12⟩
    have q_tape : Cal l.prog w K mg base (L2.CX l.prog w) 1 "tape_of" ["turn", "count"] (sp_tape_of [(He.cT K ("check_stays", none)).2, (He.cT K ("tower", none)).2]) _ _ := ⟨ok_tape_of (k := 0) f14 T, g_tape_of, f14.kp, b14⟩
    have q_tower : Cal l.prog w K mg base (L2.CX l.prog w) 9 "tower" ["count", "turns"] (sp_tower (He.ga K "BadRule") [(He.cT K ("check_stays", none)).2, (He.cT K ("tower", none)).2]) _ _ := ⟨ok_tower (k := 1) f13 (g _ B2) (by simp) T q_tape (by omega), g_tower, f13.kp, b13⟩
    have q_on : Cal l.prog w K mg base (L2.CX l.prog w) 10 "on_tapes" ["count", "turns"] (sp_on_tapes (He.ga K "BadRule") [(He.cT K ("check_stays", none)).2, (He.cT K ("tower", none)).2]) _ _ := ⟨ok_on_tapes (k := 9) f15 T q_tower (by omega), g_on_tapes, f15.kp, b15⟩
    have Z : Callees l.prog w K mg base (He.ga K "BadRule") (He.ga K "BadPaper") (He.ga K "Rule") [(He.cT K ("check_stays", none)).2, (He.cT K ("tower", none)).2] 11 := ⟨⟨_, _, 3, by omega, q_stays⟩, ⟨_, _, 4, by omega, q_goes⟩, ⟨_, _, 3, by omega, q_why⟩, ⟨_, _, 1, by omega, q_shown⟩, ⟨_, _, 11, by omega, q_check⟩, ⟨_, _, 2, by omega, q_most⟩, ⟨_, _, 4, by omega, q_after⟩, ⟨_, _, 3, by omega, q_both⟩, ⟨_, _, 1, by omega, q_gap⟩, ⟨_, _, 9, by omega, q_tower⟩, ⟨_, _, 10, by omega, q_on⟩, ⟨_, _, 1, by omega, hmk, q_init, b0⟩, ⟨_, _, 1, by omega, q_roll⟩, ⟨_, _, 2, by omega, q_rounds⟩⟩
    exact ok_law (k := 11) f20 Z T N B4 nP f19 g__law_told b19
end K8

set_option maxRecDepth 100000
set_option maxHeartbeats 0
namespace K8
open PySem PySem.Spec PyProof.Rows L2
abbrev R08 : PySem.W.OpenRow := PySem.W.OpenLaw.row PySem.Challenge.rw_keepwright_k08_which_days_stay
abbrev hk08 : PySem.W.Hook := He.hookX 6 faL fnL [] tfL exL
def ob08 (s : PySem.W.SharedT) : He.AlX := He.obsX 6 faL fnL [] tfL exL (HandSHeadRun.getT s)
theorem ob08_eq (s : PySem.W.SharedT) : ob08 s = hk08.obs s.abs := He.obsX_eq (HandSHeadRun.getT_eq s)
theorem run08 (w : World) : HandSHeadRun.RunEq R08 (PySem.W.view R08.prog [31]) hk08 ob08 6000 ["KeepFault", "BadPath", "BadPiece", "BadRule", "BadPaper", "BadSize", "BadStore", "BadText", "Lost", "NoSuch", "DAY", "WEEK", "MONTH", "Rule", "last_of", "span_ends", "after_each", "both", "check_stays", "most_kept", "widest_gap", "tower", "tape_of", "on_tapes", "_law_dice", "_law_roll", "_law_rounds", "_law_told"] w := by
  intro os
  kernel_rfl
end K8

open PySem PySem.W PySem.Calls PyProof.Rows
set_option maxRecDepth 100000
set_option maxHeartbeats 0
theorem PySem.Challenge.cw_keepwright_k08_which_days_stay_holds : PySem.Challenge.rw_keepwright_k08_which_days_stay.Holds := by
  w_on; o_law
  refine HandSHeadRun.head_any (r := OpenLaw.row PySem.Challenge.rw_keepwright_k08_which_days_stay) (q := view (OpenLaw.row PySem.Challenge.rw_keepwright_k08_which_days_stay).prog [31]) (H := K8.hk08) (ob := K8.ob08) (M := 6000)
    (loose := ["KeepFault", "BadPath", "BadPiece", "BadRule", "BadPaper", "BadSize", "BadStore", "BadText", "Lost", "NoSuch", "DAY", "WEEK", "MONTH", "Rule", "last_of", "span_ends", "after_each", "both", "check_stays", "most_kept", "widest_gap", "tower", "tape_of", "on_tapes", "_law_dice", "_law_roll", "_law_rounds", "_law_told"])
    (d := HandSHeadRun.topDef (OpenLaw.row PySem.Challenge.rw_keepwright_k08_which_days_stay).prog 31) (kwd := []) K8.ob08_eq
    (by kernel_rfl) (fun s => by kernel_rfl) K8.run08 (by kernel_rfl) (by kernel_rfl) (by kernel_rfl) (by rfl) (by first | assumption | decide +kernel) (by decide +kernel) ⟨rfl, rfl, rfl, rfl, rfl, by decide +kernel⟩ ?hw ?hc
  case hw => w_witness2
  case hc =>
    refine LamX.walk_ofTsE (l := PySem.Challenge.rw_keepwright_k08_which_days_stay) (n := 63) (k := 14) (x := "script") (CX := fun w => L2.CX (PySem.Challenge.rw_keepwright_k08_which_days_stay).prog w) rfl (by decide) (by kernel_rfl) ⟨rfl, by decide, by decide⟩ ?F (fun _ _ _ _ _ z => ?_)
    · intro w mg fa h Y G hmg0
      obtain ⟨K, KX, c⟩ := Y
      have hmg : mg ("law" : PySem.Str) = some (.ref fa) := by
        have e : (HandSHeadRun.topDef (OpenLaw.row PySem.Challenge.rw_keepwright_k08_which_days_stay).prog 31).name = ("law" : PySem.Str) := by kernel_rfl
        rw [← e]
        exact hmg0
      exact ⟨K, KX, K8.facts KX G hmg c⟩
    · obtain ⟨_, _, _, _, _, _, _, _, _, _, _, _, hE⟩ := z
      exact hE.elim
