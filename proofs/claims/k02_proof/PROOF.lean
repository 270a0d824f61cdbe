import PyProof.Rows.All
import Wide.All
import OpenK.AllK
import Wide.FinOn
import PyProof.EqAt
import PyProof.EqKinds
import PyProof.TupleCall
import PySem.Challenge.RW_keepwright_k02_texts_cut_in_pieces
import HandS.GenCall
import HandS.Comp
import HandS.Ends
import HandS.AnyAll
import HandS.GenList
import PyProof.TupleOfGen
import PyProof.ConsumeS
import HandS.Lambda
import HandS.TryMany
import HandS.Words
import HandS.WordsExc
import HandS.ForMost
import HandS.RaiseMore
import HandS.FStr
import HandS.SetKeys
import HandS.DictComp
import HandS.Strs
import HandS.Sort
import HandS.Walk
import HandS.TupAny
import HandS.Head2
import HandS.HeadHook4
import HandS.HeadWalk
import HandS.EndTab
import HandS.HeadEnd
set_option Elab.async false
set_option linter.all false
set_option maxRecDepth 100000
set_option maxHeartbeats 4000000
/-! GX: generator expressions, walked by the judgements of the hand layer. -/
namespace GX
open PySem PySem.Spec PyProof.Rows L2 GenW

/-- the code of the one loop -/
abbrev gLoop (elt tg iter : Expr) (ifs : List Expr) (sc : Scope) (pos : Pos) (it : Addr) (env : Env) : Code :=
  .compLoop (.GeneratorExp elt [⟨tg, iter, ifs, 0⟩] sc pos) 0 (.ref it) .none env
abbrev gStart (elt tg iter : Expr) (ifs : List Expr) (sc : Scope) (pos : Pos) (it : Addr) (env : Env) : Code :=
  .compStart (.GeneratorExp elt [⟨tg, iter, ifs, 0⟩] sc pos) 0 (.ref it) .none env
section
variable {A : Around} {elt tg iter : Expr} {ifs : List Expr} {sc : Scope} {pos : Pos} {it : Addr} {env : Env}
theorem over_gl : A.over (gLoop elt tg iter ifs sc pos it env) [] = A.deeper env := by
  obtain ⟨hd, d, fr, gs, u⟩ := A
  first
    | rfl
    | simp [Around.over, Around.deeper, marksOver, frameCount, unitsOf, envsOf, guardsOf, pushEnvs, pushGuards, Code.envs, Code.env?, Code.isFrame, Code.guards, Code.isGuard, Code.weight, Code.frames, Code.isCreation, Code.isCaller, Code.cUnits]
theorem over_gs : A.over (gStart elt tg iter ifs sc pos it env) [] = A.deeper env := by
  obtain ⟨hd, d, fr, gs, u⟩ := A
  first
    | rfl
    | simp [Around.over, Around.deeper, marksOver, frameCount, unitsOf, envsOf, guardsOf, pushEnvs, pushGuards, Code.envs, Code.env?, Code.isFrame, Code.guards, Code.isGuard, Code.weight, Code.frames, Code.isCreation, Code.isCaller, Code.cUnits]
end

/-- what a consumer holds of the generator's state: pins of its own beside the generator's -/
structure Hold (X : Cx) (γ : Type) where
  ok : γ → List (Addr × Obj) → L2.St → Hp → Shared → Prop
  own : Addr → Prop
  unfold : ∀ {g ip σ H s}, ok g ip σ H s → ∃ ps : List (Addr × Obj), (∀ p ∈ ps, own p.1) ∧ Inv X (ps ++ ip) σ H s ∧ ∀ ip' σ' H' s', Inv X (ps ++ ip') σ' H' s' → ok g ip' σ' H' s'

/-- what the user says of the turns: J the walk, W by the turn and a measure, It what an item given out wants, fin the end -/
def Turns {γ : Type} (J : It) (W : Nat → Nat → γ → Hp → Prop) (gt : TG) (tt : TT) (te : TE) (σ0 : L2.St) (vs : List Nat) (Iw : γ → V → Hp → (γ → Hp → Prop) → Prop) (fin : γ → Hp → Prop) : Prop :=
  ∀ i m g H, W i m g H → (J.stop i H ∧ fin g H) ∨ (J.go i H ∧ ∃ Nx : γ → Hp → Prop, (∀ g' H', Nx g' H' → ∃ m', m' < m ∧ W (i + 1) m' g' H') ∧
    ∀ x H', J.yld i H x H' → gt x (wipe σ0 vs) H' fun σ2 H2 => wipe σ2 vs = wipe σ0 vs ∧ tt σ2 H2 fun b H3 => if b = true then te σ2 H3 fun y H4 => Iw g y H4 Nx else Nx g H3)

theorem seg_gx {X : Cx} {γ : Type} (Z : Hold X γ) {A : Around} {R : GenEnd} {Y : Protocol} {elt tg iter : Expr} {ifs : List Expr} {sc : Scope} {pos : Pos} {it : Addr} {fp : List Addr} {tn : Nat → Heap → Prop} {J : It}
    {gt : TG} {tt : TT} {te : TE} {σ0 : L2.St} {vs : List Nat} {W : Nat → Nat → γ → Hp → Prop} {Fu : γ → Nat → Nat → Prop} {Iw : γ → V → Hp → (γ → Hp → Prop) → Prop} {fin : γ → Hp → Prop} {Sn : Shared → γ → Prop}
    (hov : A.over (gLoop elt tg iter ifs sc pos it X.env) [] = X.A) (hex : X.ex = fp) (T : Turn X.prog X.w X.K tg J fp it tn) (hc : X.calm = true) (hpn : ∀ b ∈ fp, ∀ p ∈ X.pn, p.1 ≠ b)
    (pg : PG X tg gt) (pt : PTs X ifs tt) (pe : PE X elt te) (hco : X.env.scope.isCoroutine = false) (hxe : ∀ e s, ¬ X.xe e s)
    (turn : Turns J W gt tt te σ0 vs Iw fin) (hdown : ∀ {g n m m'}, Fu g n m → m' < m → Fu g n m')
    (hfp : ∀ b ∈ fp, ¬ Z.own b) (hSn : ∀ {g ip σ H s}, Z.ok g ip σ H s → Sn s g)
    (hY : ∀ {n s₀ m g y H v ip σ s Nx}, (∀ p ∈ ip, p.1 ∈ fp) → RelV y v → Z.ok g ip σ H s → Sn s₀ g → Fu g n m → Iw g y H Nx → ∃ n', n = n' + 1 ∧ ∀ kap : Resume → Shared → Prop,
      (∀ g' s', Nx g' H → Z.ok g' ip σ H s' → (∀ m', m' < m → Fu g' n' m') → kap (.send .none) s') → Y n' s₀ v s kap)
    (hR : ∀ {n s₀ m g ip σ H s}, Z.ok g ip σ H s → Sn s₀ g → fin g H → Fu g n m → R n s₀ (.ok .next) s) :
    ∀ (m n i : Nat) (s₀ s : Shared) (g : γ) (H : Hp), W i m g H → Fu g n m → Sn s₀ g → Z.ok g [] (wipe σ0 vs) H s → tn i s.heap → (∀ b ∈ fp, H b = none) →
      Seg (model X.prog X.w) A R Y n s₀ (gLoop elt tg iter ifs sc pos it X.env) ((model X.prog X.w).den (gLoop elt tg iter ifs sc pos it X.env)) [] s := by
  have stat : ∀ {ps : List (Addr × Obj)} {σ' : L2.St} {H' : Hp} {s' : Shared}, Inv X ps σ' H' s' → (∀ b ∈ fp, ∀ p ∈ ps, p.1 ≠ b) → (∀ b ∈ fp, H' b = none) → ∀ b ∈ fp, FpOk X ps H' b := fun {ps σ' H' s'} I hp hn b hb => by
    have hbx : b ∈ X.ex := by rw [hex]; exact hb
    refine ⟨hn b hb, (I.ok.exf b hbx).1, I.ok.exfs b hbx, .inl hbx, fun x c e => (I.ok.exf b hbx).2 x c e, fun p hp' => ?_⟩
    rcases List.mem_append.mp hp' with z | z
    · exact hpn b hb p z
    · exact hp b hb p z
  have hy : ∀ v, yieldOut X.env v = yieldValue v := fun v => by simp only [yieldOut, hco, Bool.false_eq_true, if_false]
  intro m
  induction m using Nat.strongRecOn with
  | ind m ih =>
    intro n i s₀ s g H hW hF hSs hZ hst hnf
    obtain ⟨ps, hown, I0, mk⟩ := Z.unfold hZ
    have hps : ∀ b ∈ fp, ∀ p ∈ ps, p.1 ≠ b := fun b hb p hp e => hfp b hb (by rw [← e]; exact hown p hp)
    have I : Inv X ps (wipe σ0 vs) H s := by rw [List.append_nil] at I0; exact I0
    show Seg _ A _ _ _ s₀ _ ((compTurn (.GeneratorExp elt [⟨tg, iter, ifs, 0⟩] sc pos) 0 (.ref it) .none X.env).onRaise (leaving X.env)) [] s
    rw [compTurn_gen, Sem.onRaise_eq_wrap]
    refine seg_bind_wrap (wpAny_standAt ?_)
    rcases turn i m g H hW with ⟨stop, hf⟩ | ⟨go, Nx, hNx, step⟩
    · refine seg_bind_wrap ?_
      rw [hov]
      refine wpAny_mono (T.done X rfl rfl rfl hc i ps s _ H (fun _ _ => False) I (stat I hps hnf) hst stop) (fun r s1 hr => ?_) fun _ _ z => z.elim
      obtain ⟨hr, I1⟩ := hr
      subst hr
      exact seg_end (.ok .next) (hR (mk [] _ _ _ (by rw [List.append_nil]; exact I1)) hSs hf hF)
    · refine seg_bind_wrap ?_
      rw [hov]
      refine wpAny_mono (T.item X rfl rfl rfl hc i ps s _ H (fun _ _ => False) I (stat I hps hnf) hst go) (fun r s1 hr => ?_) fun _ _ z => z.elim
      obtain ⟨u, hr, h6⟩ := hr
      subst hr
      refine seg_bind_wrap ?_
      rw [hov]
      refine wpAny_mono h6 (fun _ s2 h7 => ?_) fun _ _ z => z.elim
      obtain ⟨x, H2, I2, r2, y2, st2, n2⟩ := h7
      have I2' := I2.pinned (stat I2 hps n2) (T.obj _ _ st2)
      refine seg_bind_wrap ?_
      rw [hov]
      refine wpAny_mono (pg.run _ s2 _ H2 x u _ I2' r2 (step x H2 y2)) (fun _ s3 h8 => ?_) fun _ _ z => (hxe _ _ z).elim
      obtain ⟨σ3, H3, I3, hw3, q3⟩ := h8
      refine seg_bind_wrap ?_
      rw [hov]
      refine wpAny_mono (pt.run _ s3 σ3 H3 _ I3 q3) (fun b s4 h9 => ?_) fun _ _ z => (hxe _ _ z).elim
      obtain ⟨H4, I4, q4⟩ := h9
      -- the next turn
      have goOn : ∀ {g' : γ} {H' : Hp} {s' : Shared} {n' m' : Nat} {s₀' : Shared}, Z.ok g' (pinsAt fp s2.heap) σ3 H' s' → m' < m → Fu g' n' m' → Sn s₀' g' → W (i + 1) m' g' H' →
          Seg (model X.prog X.w) A R Y n' s₀' (gLoop elt tg iter ifs sc pos it X.env) ((model X.prog X.w).den (gLoop elt tg iter ifs sc pos it X.env)) [] s' := by
        intro g' H' s' n' m' s₀' hz hlt hfu hsn hw
        obtain ⟨ps', _, J', mk'⟩ := Z.unfold hz
        have pin' : ∀ b ∈ fp, ∀ o, s2.heap.get? b = some o → s'.heap.get? b = some o ∧ H' b = none := fun b hb o e =>
          let z := J'.pin (b, o) (List.mem_append_right _ (List.mem_append_right _ (mem_pinsAt hb e)))
          ⟨z.1, z.2.1⟩
        have hl : (wipe σ0 vs).length = σ3.length := by rw [← hw3, wipe_length]
        refine ih m' hlt n' (i + 1) s₀' s' g' H' hw hfu hsn (mk' [] _ _ _ ?_) (T.keep _ _ _ st2 fun b hb o e => (pin' b hb o e).1) fun b hb => ?_
        · rw [List.append_nil]
          exact (J'.unpinned (pins := ps')).weak hl fun j v e => by
            rw [← hw3] at e
            exact (wipe_some e).1
        · obtain ⟨o, e, _⟩ := T.obj _ _ st2 b hb
          exact (pin' b hb o e).2
      cases b with
      | false =>
        simp only [Bool.false_eq_true, if_false] at q4 ⊢
        obtain ⟨m', hm, hw⟩ := hNx g H4 q4
        exact seg_again rfl (goOn (mk _ _ _ _ I4) hm (hdown hF hm) hSs hw)
      | true =>
        simp only [if_true] at q4 ⊢
        simp only [hy]
        rw [Sem.bind_eq_wrap', Sem.bind_eq_wrap', Sem.wrap_wrap, Sem.wrap_wrap]
        refine seg_wrap ?_
        rw [hov]
        refine wpAny_mono (pe.run _ s4 σ3 H4 _ I4 q4) (fun v s5 h10 => ?_) fun _ _ z => (hxe _ _ z).elim
        obtain ⟨yv, H5, I5, r5, q5⟩ := h10
        obtain ⟨n', hn, hYY⟩ := hY (s₀ := s₀) (fun p hp => (of_pinsAt hp).1) r5 (mk _ _ _ _ I5) hSs hF q5
        subst hn
        refine seg_at (seg_yield rfl rfl rfl (hYY _ fun g' s' hnx hz hfu => ?_))
        obtain ⟨m', hm, hw⟩ := hNx g' H5 hnx
        exact seg_again rfl (goOn hz hm (hfu m' hm) (hSn hz) hw)
end GX

set_option maxRecDepth 100000
set_option maxHeartbeats 4000000
namespace GX
open PySem PySem.Spec PyProof.Rows L2 GenW

theorem seg_gxs {X : Cx} {A : Around} {R : GenEnd} {Y : Protocol} {elt tg iter : Expr} {ifs : List Expr} {sc : Scope} {pos : Pos} {it : Addr} {fp : List Addr} {tn : Nat → Heap → Prop} {J : It} {n i : Nat} {s₀ s : Shared}
    (T : Turn X.prog X.w X.K tg J fp it tn) (hst : tn i s.heap)
    (loop : Seg (model X.prog X.w) A R Y n s₀ (gLoop elt tg iter ifs sc pos it X.env) ((model X.prog X.w).den (gLoop elt tg iter ifs sc pos it X.env)) [] s) :
    Seg (model X.prog X.w) A R Y n s₀ (gStart elt tg iter ifs sc pos it X.env) ((model X.prog X.w).den (gStart elt tg iter ifs sc pos it X.env)) [] s := by
  show Seg _ A _ _ _ s₀ _ ((compStart (.GeneratorExp elt [⟨tg, iter, ifs, 0⟩] sc pos) 0 (.ref it) .none X.env).onRaise (leaving X.env)) [] s
  unfold compStart
  rw [Sem.onRaise_eq_wrap]
  show Seg _ A _ _ _ s₀ _ ((ask >>= _).wrap _ _ _ _) [] s
  refine seg_bind_wrap (wpAny_askSetting ?_)
  split
  · exact seg_again rfl loop
  · refine seg_bind_wrap (wpAny_rule ?_)
    first
      | exact seg_bind_wrap (wpAny_standAt (seg_bind_wrap (T.self _ i s _ _ hst (seg_again rfl loop))))
      | (show Seg _ A _ _ _ s₀ _ ((standAt iter.pos >>= _).wrap _ _ _ _) [] s
         exact seg_bind_wrap (wpAny_standAt (seg_bind_wrap (T.self _ i s _ _ hst (seg_again rfl loop)))))

/-! ### the generator's own names -/
/-- ix: for each of the generator's names the maker's slot that it captures, or none -/
structure GScp (N : List Str) (esc scope : Scope) (Ng : List Str) (ix : List (Option Nat)) : Prop where
  kind : scope.kind = .function
  co : scope.isCoroutine = false
  cell : ∀ y ∈ scope.names, y.2 ≠ .cell
  dot : scope.names.lookup (".0" : Str) = some NameKind.local
  free : ∀ y ∈ scope.names, y.2 = .free → esc.names.lookup y.1 = some .cell ∨ esc.names.lookup y.1 = some .free
  len : ix.length = Ng.length
  cap : ∀ j i : Nat, ix[j]? = some (some i) → ∃ x, Ng[j]? = some x ∧ N[i]? = some x ∧ scope.names.lookup x = some .free
  nd : Ng.Nodup
def gscB (N : List Str) (esc scope : Scope) (Ng : List Str) (ix : List (Option Nat)) : Bool :=
  decide (scope.kind = .function) && !scope.isCoroutine && (scope.names.all fun y => !decide (y.2 = .cell) && (!decide (y.2 = .free) || decide (esc.names.lookup y.1 = some .cell) || decide (esc.names.lookup y.1 = some .free))) &&
  decide (scope.names.lookup (".0" : Str) = some NameKind.local) && decide (ix.length = Ng.length) && decide Ng.Nodup &&
  ((List.range ix.length).all fun j => match ix[j]? with
    | some (some i) => (match Ng[j]?, N[i]? with
      | some x, some y => decide (x = y) && decide (scope.names.lookup x = some .free)
      | _, _ => false)
    | _ => true)
theorem gsc_by {N : List Str} {esc scope : Scope} {Ng : List Str} {ix : List (Option Nat)} (h : gscB N esc scope Ng ix = true) : GScp N esc scope Ng ix := by
  unfold gscB at h
  simp only [Bool.and_eq_true, Bool.or_eq_true, Bool.not_eq_true', decide_eq_true_eq, decide_eq_false_iff_not, List.all_eq_true] at h
  obtain ⟨⟨⟨⟨⟨⟨h1, h2⟩, h3⟩, h4⟩, h5⟩, h6⟩, h7⟩ := h
  refine ⟨h1, h2, fun y hy => (h3 y hy).1, h4, fun y hy e => ?_, h5, fun j i e => ?_, h6⟩
  · rcases (h3 y hy).2 with (z | z) | z
    · exact absurd e z
    · exact .inl z
    · exact .inr z
  · have hj : j < ix.length := (List.getElem?_eq_some_iff.mp e).1
    have q := h7 j (List.mem_range.mpr hj)
    rw [e] at q
    simp only at q
    split at q
    · rename_i x y e1 e2
      rw [Bool.and_eq_true, decide_eq_true_eq, decide_eq_true_eq] at q
      exact ⟨x, e1, by rw [q.1]; exact e2, q.2⟩
    · cases q

/-- the values that the generator sees -/
def capt (ix : List (Option Nat)) (σ : L2.St) : L2.St := ix.map fun o => match o with
  | none => none
  | some i => (σ[i]?).getD none
theorem capt_some {ix : List (Option Nat)} {σ : L2.St} {j : Nat} {v : V} (h : (capt ix σ)[j]? = some (some v)) : ∃ i, ix[j]? = some (some i) ∧ σ[i]? = some (some v) := by
  unfold capt at h
  rw [List.getElem?_map] at h
  cases e : ix[j]? with
  | none => rw [e] at h; cases h
  | some o =>
    rw [e] at h
    cases o with
    | none => cases h
    | some i =>
      have h' : (σ[i]?).getD none = some v := Option.some.inj h
      refine ⟨i, rfl, ?_⟩
      cases q : σ[i]? with
      | none => rw [q] at h'; cases h'
      | some w => rw [q] at h'; exact congrArg some h'

/-- the context of the generator's code: made at s4, H4 by X's def, woken in A -/
def gcx (X : Cx) (A : Around) (s4 : Shared) (H4 : Hp) (Ng : List Str) (genv : Env) (fp : List Addr) : Cx where
  prog := X.prog
  w := X.w
  K := X.K
  mg := X.mg
  base := X.base
  A := A.deeper genv
  N := Ng
  s_0 := s4
  H_0 := H4
  env := genv
  outer := X.stack
  stack := genv :: X.stack
  ex := fp
  fn := fun _ => false
  calm := true
  pn := []
  xe := fun _ _ => False

section
variable {X : Cx} {pins : List (Addr × Obj)} {σ : L2.St} {H : Hp} {s4 : Shared}
theorem gx_inv {A : Around} {s2 : Shared} {scope : Scope} {Ng : List Str} {ix : List (Option Nat)} {fp : List Addr} {code : Value} {m : Str → Option Value} {ps : List (Addr × Obj)} (I : Inv X pins σ H s4) (S : GScp X.N X.env.scope scope Ng ix)
    (hA : A.frames = some X.stack) (hh : A.handled = none) (hfp : ∀ b ∈ fp, FpOk X pins H b ∧ b < s4.heap.objs.size)
    (kp : ∀ b o, s4.heap.get? b = some o → s2.heap.get? b = some o) (os : s2.os = s4.os) (bare : AllBare s2.gens) (hns : s2.heap.Ns s4.heap.objs.size m)
    (hps : ∀ p ∈ ps, s2.heap.get? p.1 = some p.2 ∧ s4.heap.objs.size < p.1 ∧ ∀ v, p.2.data ≠ .cell v) :
    Inv (gcx X A s4 H Ng (genEnv scope (cloFrom X.env.cells scope.names []) s4.heap.objs.size code builtinsNs X.env) fp) ps (capt ix σ) H s2 := by
  have hfree : ∀ y ∈ scope.names, y.2 = .free → ∃ c, X.env.cells.lookup y.1 = some c := fun y hy e => (S.free y hy e).elim (fun z => I.ok.has _ (.inl z)) fun z => I.ok.has _ (.inr z)
  have cm : ∀ {y c}, (cloFrom X.env.cells scope.names []).lookup y = some c → X.env.cells.lookup y = some c := fun {y c} e => by
    rcases cloFrom_mem (PySem.mem_of_lookup e) with hm | ⟨h1, h2⟩
    · cases hm
    · obtain ⟨c1, hc⟩ := hfree _ h1 rfl
      have hc : X.env.cells.lookup y = some c1 := hc
      have e2 : c = c1 := by rw [h2, hc] <;> rfl
      rw [e2]; exact hc
  have look : ∀ {y}, scope.names.lookup y = some .free → ∃ c, (cloFrom X.env.cells scope.names []).lookup y = some c := fun {y} hl =>
    mem_lookup (cloFrom_has (cells := X.env.cells) (acc := []) (PySem.mem_of_lookup hl))
  have young : ∀ b, s4.heap.objs.size ≤ b → H b = none ∧ b ∉ frs X.stack := fun b hb => by
    refine ⟨I.hok.fresh hb, fun z => ?_⟩
    rcases List.mem_cons.mp (I.stkSub b z) with e | e
    · have h1 := I.lt
      rw [← e] at h1
      exact Nat.lt_irrefl _ (Nat.lt_of_lt_of_le h1 hb)
    · exact I.nofs hb e
  have cellK : ∀ {c : Addr} {v : Option Value}, s4.heap.IsCell c v → s2.heap.IsCell c v := fun {c v} ⟨o, ho, hd⟩ => ⟨o, kp _ _ ho, hd⟩
  refine ⟨⟨I.ok.mod, S.kind, I.ok.glob, rfl, Nat.le_refl _, fun y z c e1 e2 => I.ok.inj y z c (cm e1) (cm e2), fun y hy => ?_, fun y c z _ => ?_, fun _ => hh, Around.frames_deeper hA, .inr ⟨rfl, rfl⟩,
      fun b hb => ⟨Nat.ne_of_lt (hfp b hb).2, fun y c e z => (hfp b hb).1.2.2.2.2.1 y c (cm e) z⟩, I.bs, Nat.le_trans I.ok.bsz I.sz, fun b o e hb => ?_, fun b hb z => ?_, I.stack, I.stkFree⟩,
    os, bare, Un.kept kp, ⟨m, hns, fun j y v e1 e2 e3 => ?_⟩, fun y c e => ?_, I.hok.fresh (Nat.le_refl _), fun y c e => I.freeC y c (cm e), fun p hp => ?_, I.hok.kept kp, by unfold capt; rw [List.length_map]; exact S.len⟩
  · have hy : scope.names.lookup y = some .cell ∨ scope.names.lookup y = some .free := hy
    rcases hy with hy | hy
    · exact absurd rfl (S.cell _ (PySem.mem_of_lookup hy))
    · exact look hy
  · have z : false = true := z
    cases z
  · rcases (hfp b hb).1.2.2.2.1 with z | z
    · exact I.ok.noex b o e z
    · exact absurd (Nat.lt_of_lt_of_le (Heap.lt_size e) (Nat.le_trans I.ok.bsz z)) (Nat.lt_irrefl _)
  · rcases List.mem_cons.mp (I.stkSub b z) with z | z
    · exact (hfp b hb).1.2.1 z
    · exact (hfp b hb).1.2.2.1 z
  · obtain ⟨i, ei, es⟩ := capt_some e2
    obtain ⟨x, x1, x2, x3⟩ := S.cap j i ei
    have e1 : Ng[j]? = some y := e1
    rw [x1] at e1
    obtain rfl := Option.some.inj e1
    obtain ⟨m', hn, hl⟩ := I.loc
    have hvis : Vis X.env.scope x := (S.free _ (PySem.mem_of_lookup x3) rfl).elim (fun k => .inr (.inl k)) fun k => .inr (.inr k)
    obtain ⟨u, r, q⟩ := hl i x v x2 es hvis
    obtain ⟨c2, h2⟩ := look x3
    have c1 := cm h2
    refine ⟨u, r, .inr ⟨.inr x3, c2, h2, ?_⟩⟩
    rcases q with ⟨k', _⟩ | ⟨_, c3, e', z⟩
    · have k' : X.env.scope.names.lookup x = some .local := k'
      rcases S.free _ (PySem.mem_of_lookup x3) rfl with k2 | k2 <;> rw [show X.env.scope.names.lookup x = _ from k2] at k' <;> cases k'
    · rw [c1] at e'
      cases e'
      exact cellK z
  · obtain ⟨v, z⟩ := I.cell y c (cm e)
    exact ⟨v, cellK z⟩
  · have hp : p ∈ [] ++ ps := hp
    rw [List.nil_append] at hp
    obtain ⟨h1, h2, h3⟩ := hps p hp
    obtain ⟨y1, y2⟩ := young p.1 (Nat.le_of_lt h2)
    exact ⟨h1, y1, Nat.ne_of_gt h2, y2, h3⟩
end
end GX

set_option maxRecDepth 100000
set_option maxHeartbeats 4000000
namespace GX
open PySem PySem.Spec PyProof.Rows L2 GenW GxR

/-- a generator expression's object just made: the walk J begun, nothing given out yet -/
structure Made (X : Cx) (pins : List (Addr × Obj)) (σ : L2.St) (elt tg iter : Expr) (ifs : List Expr) (scope : Scope) (gpos : Pos) (J : It) (H2 : Hp) (a g it : Addr) (fp : List Addr) (tn : Nat → Heap → Prop) (code : Value) (s4 s5 : Shared) : Prop where
  inv : Inv X pins σ H2 s4
  turn : Turn X.prog X.w X.K tg J fp it tn
  st : tn 0 s4.heap
  fp : ∀ b ∈ fp, FpOk X pins H2 b ∧ b < s4.heap.objs.size
  gs : s5.gens[g]? = some (.fresh (gStart elt tg iter ifs scope gpos it (genEnv scope (cloFrom X.env.cells scope.names []) s4.heap.objs.size code builtinsNs X.env)))
  gen : s5.heap.IsGen a g
  lt : s4.heap.objs.size < a
  ltA : a < s5.heap.objs.size
  os : s5.os = s4.os
  bare : AllBare s5.gens
  lim : s5.heap.NoLimit
  keep : ∀ b o, s4.heap.get? b = some o → s5.heap.get? b = some o
  ns : s5.heap.Ns s4.heap.objs.size fun y => if y = (".0" : Str) then some (.ref it) else none

section
variable {X : Cx} {pins : List (Addr × Obj)} {σ : L2.St} {H : Hp} {s : Shared}
theorem gx_make {c P : Addr} {elt tg iter : Expr} {ifs : List Expr} {gpos : Pos} {scope : Scope} {Ng : List Str} {ix : List (Option Nat)} {wi : TI} {k : Nat} {Q' : Value → Shared → Prop} {R : It → Hp → Prop}
    (hr : Room k X.A) (TB : TabB X.base X.mg c P) (hcode : X.env.code = .ref c) (S : GScp X.N X.env.scope scope Ng ix) (hi : PI X tg iter wi) (hs : ∀ v, genFold iter X.env v = pure v)
    (I : Inv X pins σ H s) (h : wi σ H fun J H1 => TabG H1 P ∧ ∀ H2, Tabbed P H1 H2 → R J H2)
    (hQ : ∀ J H2 a g it fp tn code s4 s5, R J H2 → Made X pins σ elt tg iter ifs scope gpos J H2 a g it fp tn code s4 s5 → Q' (.ref a) s5) :
    wpAny (model X.prog X.w) X.A (eval (.GeneratorExp elt [⟨tg, iter, ifs, 0⟩] scope gpos) X.env) Q' X.xe s := by
  refine wpAny_GeneratorExp_make S.co (closure_ok fun y hy e => (S.free y hy e).elim (fun z => I.ok.has _ (.inl z)) fun z => I.ok.has _ (.inr z)) S.cell S.dot S.kind (by have := hr.dp; omega) ?_ hs
  refine thn (hi.run pins s σ H _ I h) fun xv s1 hx => thn hx fun itv s2 h2 => ?_
  obtain ⟨it, fp, tn, J, H1, rfl, I1, T, st1, f1, ⟨ps, hP, ht⟩, hR⟩ := h2
  refine ⟨I1.nolimit, ?_⟩
  have hP2 : s2.heap.get? P = some { cls := .none, data := .fields ps } := I1.hok P _ hP
  have cd : PySem.W.CodeHd s2.heap c P := TB.code.keeps I1.bk
  -- behind the code object: H3, s3
  have cont : ∀ (code : Value) (h3 : Heap) (tk : Nat) (ps' : Array Value), Heap.ExtBut P s2.heap h3 → s2.heap.objs.size ≤ h3.objs.size → h3.get? P = some { cls := .none, data := .fields ps' } → (∃ more, ps' = ps ++ more) → TriplesOk ps'.toList →
      wpAny (model X.prog X.w) X.A (builtinsFor X.env.globals X.env.builtins) (fun bi s₄ =>
        ∀ h', h'.Ns s₄.heap.objs.size (fun y => if y = ".0" then some (.ref it) else none) → Heap.SameBut s₄.heap.objs.size (s₄.heap.push { cls := .type "frame", data := .dict #[] }) h' →
          Q' (.ref h'.objs.size) { s₄ with
            gens := s₄.gens.push (.fresh (.compStart (.GeneratorExp elt [⟨tg, iter, ifs, 0⟩] scope gpos) 0 (.ref it) .none (genEnv scope (cloFrom X.env.cells scope.names []) s₄.heap.objs.size code bi X.env))),
            toks := s₄.toks + 1 + 1 + 1,
            heap := h'.push { cls := .type "generator", data := .fields #[.int s₄.gens.size 0, .str "<genexpr>" (s₄.toks + 1), .str (X.env.qual ++ "<genexpr>") (s₄.toks + 1 + 1)] } }) X.xe { s2 with heap := h3, toks := tk } := by
    intro code h3 tk ps' hx hsz hP3 hmore ht3
    obtain ⟨bm, ob, e1, e2, e3, e4, e5, e6, e7, e8⟩ := TB.bm
    have keep3 : ∀ b u, b ≠ P → s2.heap.get? b = some u → h3.get? b = some u := fun b u hb e => hx b u hb e
    obtain ⟨more, em⟩ := hmore
    have I3 := inv_tab (more := more) (h' := h3) (g' := s2.gens) (d' := s2.drawn) (t' := tk) I1 hP (fun b u hb e => keep3 b u hb e) (by rw [← em]; exact hP3) I1.bare
    have hTb : Tabbed P H1 (upd H1 P (.tbl (ps ++ more))) := ⟨⟨ps ++ more, upd_same, by rw [← em]; exact ht3⟩, fun b hb => upd_ne hb⟩
    refine wpAny_builtinsFor (m := X.mg) (by rw [I1.ok.glob]; exact ((I1.mod.glob.keeps I1.bk)).extBut hx TB.gP) e1 e2 (keep3 _ _ e4 (I1.bk _ _ e5)) e6 e7 e8 ?_
    intro h' hn' hs'
    have sz' : h'.objs.size = h3.objs.size + 1 := by rw [hs'.1, Heap.size_push]
    have keep' : ∀ b o, h3.get? b = some o → h'.get? b = some o := fun b o e => hs'.extBut b o (Nat.ne_of_lt (Heap.lt_size e)) (Heap.get?_push_of_some _ e)
    have nP : ∀ b, H1 b = none → b ≠ P := fun b e z => by
      rw [z, hP] at e
      cases e
    have stk : tn 0 h3 := T.keep _ _ _ st1 fun b hb o e => keep3 b o (nP b (f1 b hb).1) e
    have fp3 : ∀ b ∈ fp, FpOk X pins (upd H1 P (.tbl (ps ++ more))) b ∧ b < h3.objs.size := fun b hb => by
      obtain ⟨o, e, _⟩ := T.obj _ _ st1 b hb
      refine ⟨⟨?_, (f1 b hb).2⟩, Nat.lt_of_lt_of_le (Heap.lt_size e) hsz⟩
      rw [upd_ne (nP b (f1 b hb).1)]
      exact (f1 b hb).1
    refine hQ J _ _ s2.gens.size it fp tn code { s2 with heap := h3, toks := tk } _ (hR _ hTb)
      ⟨I3, T, stk, fp3, Array.getElem?_push_size .., ⟨_, _, _, Heap.get?_push_size _ rfl, rfl, rfl, rfl⟩, ?_, ?_, rfl, AllBare.push I1.bare rfl, ?_, fun b o e => Heap.get?_push_of_some _ (keep' b o e), hn'.push _⟩
    · show h3.objs.size < h'.objs.size
      omega
    · show h'.objs.size < (h'.push _).objs.size
      rw [Heap.size_push]
      exact Nat.lt_succ_self _
    · exact I3.nolimit.keeps fun b o e => Heap.get?_push_of_some _ (keep' b o e)
  cases hf : codeAmong gpos ps.toList with
  | none =>
    refine wpAny_genexprCodeX hcode (cd.code hP2 ht) (cd.tab hP2) hf fun c' h' tk hx hge hlt hco' _ htab' _ => ?_
    obtain ⟨o1, vs, f1', tf, fl, tg', inF, tx, tt, op, _, _, _, _, _, _, _, _, _, htr, _⟩ := hco'
    exact cont _ h' tk _ hx (Nat.le_trans hge (Nat.le_of_lt hlt)) htab'.2 ⟨_, rfl⟩ htr
  | some cv =>
    refine wpAny_genexprCode_hit hcode (cd.code hP2 ht) hf ?_
    exact cont cv s2.heap s2.toks ps (Heap.ExtBut.refl _ _) (Nat.le_refl _) hP2 ⟨#[], by simp⟩ ht
end
end GX

set_option maxRecDepth 100000
set_option maxHeartbeats 4000000
namespace GX
open PySem PySem.Spec PyProof.Rows L2 GenW GxR

/-- the generator's context -/
abbrev gX (X : Cx) (A : Around) (s4 : Shared) (H4 : Hp) (Ng : List Str) (scope : Scope) (cl : List (Str × Addr)) (C : Addr) (code : Value) (fp : List Addr) : Cx :=
  gcx X A s4 H4 Ng (genEnv scope cl C code builtinsNs X.env) fp

section
variable {X : Cx} {pins : List (Addr × Obj)} {σ : L2.St}
variable {elt tg iter : Expr} {ifs : List Expr} {scope : Scope} {gpos : Pos} {J : It} {H2 : Hp} {a g it : Addr} {fp : List Addr} {tn : Nat → Heap → Prop} {code : Value} {s4 s5 : Shared}
/-- back in the maker's context -/
theorem Made.back {A : Around} {Ng : List Str} {genv : Env} {ps : List (Addr × Obj)} {σ' : L2.St} {H' : Hp} {s' : Shared} (M : Made X pins σ elt tg iter ifs scope gpos J H2 a g it fp tn code s4 s5)
    (I' : Inv (gcx X A s4 H2 Ng genv fp) ps σ' H' s') {s'' : Shared} (hk : ∀ b o, s'.heap.get? b = some o → s''.heap.get? b = some o) (ho : s''.os = s'.os) (hb : AllBare s''.gens) : Inv X pins σ H' s'' :=
  M.inv.call' (ch := fp) (ho.trans I'.os) (I'.base.trans (Un.kept hk)) (I'.hok.kept hk) hb fun b hb => ⟨(M.fp b hb).1.2.2.2.1, (M.fp b hb).1.2.1, (M.fp b hb).1.2.2.2.2.1, (M.fp b hb).1.2.2.2.2.2⟩

/-- what the consumers any and all hold: the generator's own object -/
def Hold.one (X : Cx) (p : Addr × Obj) : Hold X Unit where
  ok := fun _ ip σ H s => Inv X ([p] ++ ip) σ H s
  own := fun b => b = p.1
  unfold := fun {g ip σ H s} h => ⟨[p], fun q hq => by rw [List.mem_singleton.mp hq], h, fun _ _ _ _ h' => h'⟩

end
/-- the protocol: t: the truth value at which the consumer goes on -/
def YAny (t : Bool) (a g : Nat) (Out : Shared → Prop) : Protocol := fun _ _ v s1 kap =>
  ∃ k, v = .bool k ∧ s1.heap.IsGen a g ∧ s1.heap.NoLimit ∧ ∀ s' : Shared, s'.heap = s1.heap → s'.os = s1.os → (AllBare s1.gens → AllBare s'.gens) → if k = t then kap (.send .none) s' else Out s'
def FAny (Fin : Shared → Prop) (_ : Nat) (_ s1 : Shared) : Prop := ∀ s' : Shared, (∀ b o, s1.heap.get? b = some o → s'.heap.get? b = some o) → s'.os = s1.os → (AllBare s1.gens → AllBare s'.gens) → Fin s'
def NoE (_ : Value) (_ : Shared) : Prop := False
/-- the end of a run that raises nothing -/
def RAny (Fin : Shared → Prop) : GenEnd := fun n s₀ r s1 => ((r = .ok (.ret .none) ∨ r = .ok .next) ∧ FAny Fin n s₀ s1) ∨ ∃ e, r = .error e ∧ NoE e s1

section
variable {P : Program} {w : World} {A : Around} {a g : Nat} {R : Result → Shared → Prop} {Out Fin : Shared → Prop}
theorem setGen_same {s : Shared} {g : Nat} {x : GenState} (hx : x.bare = true) : AllBare s.gens → AllBare (s.setGen g x).gens := fun h => allBare_setGen h hx
theorem setGen_here {s : Shared} {g : Nat} {x : GenState} (h : g < s.gens.size) : (s.setGen g x).gens[g]? = some x := setGen_at h
/-- one step of a generator whose run ends or gives out, no exception -/
theorem next_one {t : Bool} {n : Nat} {s : Shared} {gs : GenState} {Q : Option Value → Shared → Prop} {E : Value → Shared → Prop} (hh : A.handled = none) (hd : A.depth < recursionLimit) (hg : s.heap.IsGen a g) (hl : s.heap.NoLimit) (hgs : s.gens[g]? = some gs)
    (hgo : gs.Goes (model P w) A.in1 (RAny Fin) (YAny t a g Out) n (.send .none) (s.setGen g .running))
    (hY : ∀ k s', s'.heap.IsGen a g → s'.heap.NoLimit → (k ≠ t → Out s') → (k = t → ∃ m, n = m + 1 ∧ ∃ gs', s'.gens[g]? = some gs' ∧ gs'.Goes (model P w) A.in1 (RAny Fin) (YAny t a g Out) m (.send .none) (s'.setGen g .running)) → Q (some (.bool k)) s')
    (hP : ∀ s', Fin s' → Q none s') : wpAny (model P w) A (pyNext (.ref a)) Q E s := by
  have hgl : g < s.gens.size := (Array.getElem?_eq_some_iff.mp hgs).1
  refine wpAny_gsz (n := g + 1) hgl (next_genG (A := A) (F := FAny Fin) (Er := NoE) hh hl hd hg hgs hgo (fun v s₁ gs' hbare hv => ?_) (fun s₁ hp h' hk => ?_) fun e s₁ he => he.elim)
  · intro hsz
    obtain ⟨k, rfl, hg1, hl1, hq⟩ := hv
    have hsz1 : g < s₁.gens.size := by
      have q : (s₁.setGen g gs').gens.size = s₁.gens.size := setGen_size _ _ _
      have hsz' : g + 1 ≤ (s₁.setGen g gs').gens.size := hsz
      omega
    refine hY k _ hg1 hl1 (fun hk => ?_) fun hk => ?_
    · have q := hq (s₁.setGen g gs') rfl rfl (setGen_same hbare)
      rw [if_neg hk] at q
      exact q
    · have q := hq ((s₁.setGen g gs').setGen g .running) rfl rfl fun z => setGen_same rfl (setGen_same hbare z)
      rw [if_pos hk] at q
      cases n with
      | zero => exact q.elim
      | succ m => exact ⟨m, rfl, gs', setGen_here hsz1, q⟩
  · intro _
    exact hP _ (hp _ (fun b o e => hk b o e) rfl fun z => setGen_same rfl z)
/-- any: the loop -/
theorem any_loop (hh : A.handled = none) (hd : A.depth < recursionLimit) (hO : ∀ s, Out s → R (.ok (.ret (.bool true))) s) (hF : ∀ s, Fin s → R (.ok (.ret (.bool false))) s) : ∀ (n : Nat) (s : Shared), s.heap.IsGen a g → s.heap.NoLimit →
    (∃ gs, s.gens[g]? = some gs ∧ gs.Goes (model P w) A.in1.in1 (RAny Fin) (YAny false a g Out) n (.send .none) (s.setGen g .running)) → codeAny (model P w) A (.builtin "any.loop" ⟨[.ref a], []⟩) R s := by
  intro n
  induction n using Nat.strongRecOn with
  | ind n ih =>
    intro s hg hl ⟨gs, hgs, hgo⟩
    refine codeAny_builtin F.entry_any_loop ?_
    rw [Around.under_plainId F.plain_any_loop _]
    show wpAny _ A.in1 (pyNext (.ref a) >>= _) _ _ s
    refine wpAny_bind (next_one (A := A.in1) hh hd hg hl hgs hgo (fun k s' hg1 hl1 h1 h2 => ?_) fun s' hf => ?_)
    · refine wpAny_bind (wpAny_holding (wpAny_truthy_bool (wpAny_bind (wpAny_letGo ?_))))
      cases k with
      | true =>
        rw [if_pos rfl]
        exact wpAny_bind (wpAny_rule (wpAny_pure (hO s' (h1 (by decide)))))
      | false =>
        rw [if_neg Bool.false_ne_true]
        obtain ⟨m, hm, gs', e1, e2⟩ := h2 rfl
        exact wpAny_pure ⟨plainId_quiet F.plain_any_loop _, ih m (by omega) s' hg1 hl1 ⟨gs', e1, e2⟩⟩
    · exact wpAny_bind (wpAny_rule (wpAny_pure (hF s' hf)))
theorem all_loop (hh : A.handled = none) (hd : A.depth < recursionLimit) (hO : ∀ s, Out s → R (.ok (.ret (.bool false))) s) (hF : ∀ s, Fin s → R (.ok (.ret (.bool true))) s) : ∀ (n : Nat) (s : Shared), s.heap.IsGen a g → s.heap.NoLimit →
    (∃ gs, s.gens[g]? = some gs ∧ gs.Goes (model P w) A.in1.in1 (RAny Fin) (YAny true a g Out) n (.send .none) (s.setGen g .running)) → codeAny (model P w) A (.builtin "all.loop" ⟨[.ref a], []⟩) R s := by
  intro n
  induction n using Nat.strongRecOn with
  | ind n ih =>
    intro s hg hl ⟨gs, hgs, hgo⟩
    refine codeAny_builtin F.entry_all_loop ?_
    rw [Around.under_plainId F.plain_all_loop _]
    show wpAny _ A.in1 (pyNext (.ref a) >>= _) _ _ s
    refine wpAny_bind (next_one (A := A.in1) hh hd hg hl hgs hgo (fun k s' hg1 hl1 h1 h2 => ?_) fun s' hf => ?_)
    · refine wpAny_bind (wpAny_holding (wpAny_truthy_bool (wpAny_bind (wpAny_letGo ?_))))
      cases k with
      | true =>
        rw [if_pos rfl]
        obtain ⟨m, hm, gs', e1, e2⟩ := h2 rfl
        exact wpAny_pure ⟨plainId_quiet F.plain_all_loop _, ih m (by omega) s' hg1 hl1 ⟨gs', e1, e2⟩⟩
      | false =>
        rw [if_neg Bool.false_ne_true]
        exact wpAny_bind (wpAny_rule (wpAny_pure (hO s' (h1 (by decide)))))
    · exact wpAny_bind (wpAny_rule (wpAny_pure (hF s' hf)))
end
end GX

set_option maxRecDepth 100000
set_option maxHeartbeats 4000000
namespace GX
open PySem PySem.Spec PyProof.Rows L2 GenW GxR

/-- the turns of any (t = false) and all (t = true) -/
def QTurn (t : Bool) (J : It) (gt : TG) (tt : TT) (te : TE) (σ0 : L2.St) (vs : List Nat) (Q : VK) (W : Nat → Nat → Hp → Prop) : Prop :=
  ∀ i m H, W i m H → (J.stop i H ∧ Q (.bl t) H) ∨ (J.go i H ∧ ∃ Nx : Hp → Prop, (∀ H', Nx H' → ∃ m', m' < m ∧ W (i + 1) m' H') ∧
    ∀ x H', J.yld i H x H' → gt x (wipe σ0 vs) H' fun σ2 H2 => wipe σ2 vs = wipe σ0 vs ∧ tt σ2 H2 fun b H3 => if b = true then te σ2 H3 fun y H4 => ∃ k, y = .bl k ∧ (if k = t then Nx H4 else Q (.bl (!t)) H4) else Nx H3)
def tQuant (t : Bool) (P : Addr) (wi : TI) (gt : TG) (tt : TT) (te : TE) (ix : List (Option Nat)) (vs : List Nat) : TE := fun σ H Q => wi σ H fun J H1 => TabG H1 P ∧ ∀ H2, Tabbed P H1 H2 →
  ∃ W : Nat → Nat → Hp → Prop, (∃ m, W 0 m H2) ∧ QTurn t J gt tt te (capt ix σ) vs Q W

section
variable {X : Cx} {pins : List (Addr × Obj)} {σ : L2.St}
variable {elt tg iter : Expr} {ifs : List Expr} {scope : Scope} {gpos : Pos} {J : It} {H2 : Hp} {a g it : Addr} {fp : List Addr} {tn : Nat → Heap → Prop} {code : Value} {s4 s5 : Shared}
theorem ready_quant {t : Bool} {A : Around} {Ng : List Str} {ix : List (Option Nat)} {vs : List Nat} {gt : TG} {tt : TT} {te : TE} {Q : VK} {W : Nat → Nat → Hp → Prop} {m0 : Nat} (M : Made X pins σ elt tg iter ifs scope gpos J H2 a g it fp tn code s4 s5) (S : GScp X.N X.env.scope scope Ng ix)
    (hA : A.frames = some X.stack) (hh : A.handled = none)
    (pg : PG (gX X A s4 H2 Ng scope (cloFrom X.env.cells scope.names []) s4.heap.objs.size code fp) tg gt) (pt : PTs (gX X A s4 H2 Ng scope (cloFrom X.env.cells scope.names []) s4.heap.objs.size code fp) ifs tt) (pe : PE (gX X A s4 H2 Ng scope (cloFrom X.env.cells scope.names []) s4.heap.objs.size code fp) elt te)
    (hW : W 0 m0 H2) (turn : QTurn t J gt tt te (capt ix σ) vs Q W) :
    ∃ n, ∃ gs, s5.gens[g]? = some gs ∧ gs.Goes (model X.prog X.w) A (RAny (EP X pins σ Q (.bool t))) (YAny t a g (EP X pins σ Q (.bool (!t)))) n (.send .none) (s5.setGen g .running) := by
  obtain ⟨go, nm, qn, ego, egc, egd, egs⟩ := M.gen
  have gen' : ∀ {h : Heap}, h.get? a = some go → h.IsGen a g := fun {h} e => ⟨go, nm, qn, e, egc, egd, egs⟩
  have hcell : ∀ v, go.data ≠ .cell v := fun v q => by rw [egd] at q; cases q
  have lt4 : ∀ b ∈ fp, b < s4.heap.objs.size := fun b hb => (M.fp b hb).2
  have bare5 : AllBare (s5.setGen g .running).gens := allBare_setGen M.bare rfl
  have I0 := gx_inv (A := A) (s2 := s5.setGen g .running) (code := code) (ps := [(a, go)]) M.inv S hA hh M.fp (fun b o e => M.keep b o e) M.os bare5 M.ns fun p hp => by
    rw [List.mem_singleton.mp hp]
    exact ⟨ego, M.lt, hcell⟩
  have I1 : Inv (gX X A s4 H2 Ng scope (cloFrom X.env.cells scope.names []) s4.heap.objs.size code fp) ([(a, go)] ++ []) (wipe (capt ix σ) vs) H2 (s5.setGen g .running) :=
    I0.weak (wipe_length _ _) fun j v e => (wipe_some e).1
  refine ⟨m0 + 1, _, M.gs, rfl, ?_⟩
  have st5 : tn 0 (s5.setGen g .running).heap := M.turn.keep _ _ _ M.st fun b _ o e => M.keep b o e
  refine seg_gxs (X := gX X A s4 H2 Ng scope (cloFrom X.env.cells scope.names []) s4.heap.objs.size code fp) (i := 0) M.turn st5 ?_
  refine seg_gx (X := gX X A s4 H2 Ng scope (cloFrom X.env.cells scope.names []) s4.heap.objs.size code fp) (γ := Unit) (Hold.one _ (a, go)) (J := J) (gt := gt) (tt := tt) (te := te) (σ0 := capt ix σ) (vs := vs) (W := fun i m _ H => W i m H) (Fu := fun _ n m => m < n)
    (Iw := fun _ y H Nx => ∃ k, y = .bl k ∧ (if k = t then Nx () H else Q (.bl (!t)) H)) (fin := fun _ H => Q (.bl t) H) (Sn := fun _ _ => True) over_gl rfl M.turn rfl (fun b _ p hp => by cases hp) pg pt pe S.co (fun _ _ z => z)
    (fun i m _ H hw => ?_) (fun h1 h2 => Nat.lt_trans h2 h1) (fun b hb e => ?_) (fun _ => trivial) (fun {n s₀ m _ y H v ip σ' s Nx} _ rv hz _ hf hi => ?_) (fun {n s₀ m _ ip σ' H s} hz _ hf hfu => ?_) m0 (m0 + 1) 0 _ _ () H2 hW (Nat.lt_succ_self _) trivial I1 st5 fun b hb => (M.fp b hb).1.1
  · rcases turn i m H hw with ⟨h1, h2⟩ | ⟨h1, Nx, h2, h3⟩
    · exact .inl ⟨h1, h2⟩
    · exact .inr ⟨h1, fun _ H' => Nx H', fun _ H' z => h2 H' z, h3⟩
  · have hb' := lt4 b hb
    rw [e] at hb'
    exact absurd (Nat.lt_trans M.lt hb') (Nat.lt_irrefl _)
  · obtain ⟨k, rfl, hi⟩ := hi
    obtain rfl : v = Value.bool k := rv
    obtain ⟨n', rfl⟩ : ∃ n', n = n' + 1 := ⟨n - 1, by omega⟩
    refine ⟨n', rfl, fun kap hk => ⟨k, rfl, ?_, hz.nolimit, fun s' h1 h2 h3 => ?_⟩⟩
    · exact gen' (hz.pin (a, go) (List.mem_append_right _ (List.mem_append_left _ (List.mem_singleton.mpr rfl)))).1
    · have bare' : AllBare s'.gens := h3 hz.bare
      split at hi
      · rename_i hkt
        rw [if_pos hkt]
        refine hk () s' hi ?_ fun m' hm => by omega
        have J2 := hz.call' (s' := s') (H' := H) (ch := []) h2 (by rw [h1]; exact Un.refl) (by rw [h1]; exact hz.hok) bare' fun b z => by simp at z
        exact J2
      · rename_i hkt
        rw [if_neg hkt]
        have hkn : k = !t := by cases k <;> cases t <;> first | rfl | exact (hkt rfl).elim
        exact ⟨.bl (!t), H, M.back hz (fun b o e => by rw [h1]; exact e) h2 bare', rfl, hi⟩
  · exact .inl ⟨.inr rfl, fun s' h1 h2 h3 => ⟨.bl t, H, M.back hz h1 h2 (h3 hz.bare), rfl, hf⟩⟩
end

section
variable {X : Cx} {c P : Addr} {elt tg iter : Expr} {ifs : List Expr} {p pos gpos : Pos} {scope : Scope} {Ng : List Str} {ix : List (Option Nat)} {vs : List Nat} {wi : TI} {gt : TG} {tt : TT} {te : TE} {k : Nat}
theorem pe_anyG (hr : Room (k + 1) X.A) (hg : Gl X "any") (hm : X.mg "any" = none) (TB : TabB X.base X.mg c P) (hcode : X.env.code = .ref c) (S : GScp X.N X.env.scope scope Ng ix) (hi : PI X tg iter wi)
    (pg : ∀ (A : Around) (s4 : Shared) (H4 : Hp) (cl : List (Str × Addr)) (C : Addr) (code : Value) (fp : List Addr), PG (gX X A s4 H4 Ng scope cl C code fp) tg gt) (pt : ∀ (A : Around) (s4 : Shared) (H4 : Hp) (cl : List (Str × Addr)) (C : Addr) (code : Value) (fp : List Addr), (∀ env, Room k (A.deeper env)) → PTs (gX X A s4 H4 Ng scope cl C code fp) ifs tt)
    (pe : ∀ (A : Around) (s4 : Shared) (H4 : Hp) (cl : List (Str × Addr)) (C : Addr) (code : Value) (fp : List Addr), (∀ env, Room k (A.deeper env)) → PE (gX X A s4 H4 Ng scope cl C code fp) elt te) (hs : ∀ v, genFold iter X.env v = pure v := by intro _; rfl)
    (he : starEach [.GeneratorExp elt [⟨tg, iter, ifs, 0⟩] scope gpos] X.env = (false, eval (.GeneratorExp elt [⟨tg, iter, ifs, 0⟩] scope gpos) X.env) :: starEach [] X.env := by rfl) :
    PE X (.Call (.Name "any" p) [.GeneratorExp elt [⟨tg, iter, ifs, 0⟩] scope gpos] [] pos) (tQuant false P wi gt tt te ix vs) := by
  refine ⟨fun pins s σ H Q I h => ?_⟩
  refine wpAny_Call_Name_kw (ld_blt I hg hm boot_any ?_)
  refine PyProof.Rows.callWith_builtin1 ?_ he (by rfl)
  rw [he]
  show wpAny _ _ (spliced ((false, eval (.GeneratorExp elt [⟨tg, iter, ifs, 0⟩] scope gpos) X.env) :: backTo pos (starEach [] X.env))) _ _ s
  refine Calls.spliced_cons (gx_make (R := fun J H2 => ∃ W : Nat → Nat → Hp → Prop, (∃ m, W 0 m H2) ∧ QTurn false J gt tt te (capt ix σ) vs Q W) hr TB hcode S hi hs I h fun J H2 a g it fp tn code s4 s5 hR M => ?_)
  obtain ⟨W, ⟨m0, hW⟩, turn⟩ := hR
  refine Calls.spliced_nil ?_
  have hr2 : ∀ env, Room k (X.A.in1.in1.deeper env) := fun env => ⟨hr.hd, by have := hr.dp; show X.A.depth + 1 + 3 * k + 5 < _; omega, by have := hr.un; show X.A.units + 1 + 1 + 3 + 16 * k + 200 < _; omega⟩
  obtain ⟨n, hgo⟩ := ready_quant (A := X.A.in1.in1) M S M.inv.ok.frames hr.hd (pg _ _ _ _ _ _ _) (pt _ _ _ _ _ _ _ hr2) (pe _ _ _ _ _ _ _ hr2) hW turn
  refine call_function_tree F.kind_any F.plain_any F.entry_any (F.args_any1 _) ?_
  unfold Builtin.«any»
  refine wpAny_bind (m := oneArg "any" _) (wpAny_pure (wpAny_bind (wpAny_pyIter_gen M.gen ?_)))
  refine wpAny_pure ⟨plainId_quiet F.plain_any_loop _, any_loop hr.hd (by have := hr.dp; omega) (fun s' h => h) (fun s' h => h) n s5 M.gen M.lim hgo⟩
theorem pe_allG (hr : Room (k + 1) X.A) (hg : Gl X "all") (hm : X.mg "all" = none) (hb : bootBuiltins "all" = some (.builtin "all")) (TB : TabB X.base X.mg c P) (hcode : X.env.code = .ref c) (S : GScp X.N X.env.scope scope Ng ix) (hi : PI X tg iter wi)
    (pg : ∀ (A : Around) (s4 : Shared) (H4 : Hp) (cl : List (Str × Addr)) (C : Addr) (code : Value) (fp : List Addr), PG (gX X A s4 H4 Ng scope cl C code fp) tg gt) (pt : ∀ (A : Around) (s4 : Shared) (H4 : Hp) (cl : List (Str × Addr)) (C : Addr) (code : Value) (fp : List Addr), (∀ env, Room k (A.deeper env)) → PTs (gX X A s4 H4 Ng scope cl C code fp) ifs tt)
    (pe : ∀ (A : Around) (s4 : Shared) (H4 : Hp) (cl : List (Str × Addr)) (C : Addr) (code : Value) (fp : List Addr), (∀ env, Room k (A.deeper env)) → PE (gX X A s4 H4 Ng scope cl C code fp) elt te) (hs : ∀ v, genFold iter X.env v = pure v := by intro _; rfl)
    (he : starEach [.GeneratorExp elt [⟨tg, iter, ifs, 0⟩] scope gpos] X.env = (false, eval (.GeneratorExp elt [⟨tg, iter, ifs, 0⟩] scope gpos) X.env) :: starEach [] X.env := by rfl) :
    PE X (.Call (.Name "all" p) [.GeneratorExp elt [⟨tg, iter, ifs, 0⟩] scope gpos] [] pos) (tQuant true P wi gt tt te ix vs) := by
  refine ⟨fun pins s σ H Q I h => ?_⟩
  refine wpAny_Call_Name_kw (ld_blt I hg hm hb ?_)
  refine PyProof.Rows.callWith_builtin1 ?_ he (by rfl)
  rw [he]
  show wpAny _ _ (spliced ((false, eval (.GeneratorExp elt [⟨tg, iter, ifs, 0⟩] scope gpos) X.env) :: backTo pos (starEach [] X.env))) _ _ s
  refine Calls.spliced_cons (gx_make (R := fun J H2 => ∃ W : Nat → Nat → Hp → Prop, (∃ m, W 0 m H2) ∧ QTurn true J gt tt te (capt ix σ) vs Q W) hr TB hcode S hi hs I h fun J H2 a g it fp tn code s4 s5 hR M => ?_)
  obtain ⟨W, ⟨m0, hW⟩, turn⟩ := hR
  refine Calls.spliced_nil ?_
  have hr2 : ∀ env, Room k (X.A.in1.in1.deeper env) := fun env => ⟨hr.hd, by have := hr.dp; show X.A.depth + 1 + 3 * k + 5 < _; omega, by have := hr.un; show X.A.units + 1 + 1 + 3 + 16 * k + 200 < _; omega⟩
  obtain ⟨n, hgo⟩ := ready_quant (A := X.A.in1.in1) M S M.inv.ok.frames hr.hd (pg _ _ _ _ _ _ _) (pt _ _ _ _ _ _ _ hr2) (pe _ _ _ _ _ _ _ hr2) hW turn
  refine call_function_tree F.kind_all F.plain_all F.entry_all (F.args_all1 _) ?_
  unfold Builtin.«all»
  refine wpAny_bind (m := oneArg "all" _) (wpAny_pure (wpAny_bind (wpAny_pyIter_gen M.gen ?_)))
  refine wpAny_pure ⟨plainId_quiet F.plain_all_loop _, all_loop hr.hd (by have := hr.dp; omega) (fun s' h => h) (fun s' h => h) n s5 M.gen M.lim hgo⟩
end
end GX

set_option maxRecDepth 100000
set_option maxHeartbeats 4000000
namespace GX
open PySem PySem.Spec PyProof.Rows L2 GenW GxR

/-- what a consumer holds that fills a list at S -/
def Hold.fill (X : Cx) (S : Addr) (q : Addr × Obj) : Hold X (List V) where
  ok := fun ys ip σ H s => ∃ (acc : Array Value) (c : Nat), Vals ys acc.toList ∧ Inv X ([(S, lstObj acc c), q] ++ ip) σ H s
  own := fun b => b = S ∨ b = q.1
  unfold := fun {ys ip σ H s} h => by
    obtain ⟨acc, c, r, I⟩ := h
    refine ⟨[(S, lstObj acc c), q], fun p hp => ?_, I, fun _ _ _ _ h' => ⟨acc, c, r, h'⟩⟩
    rcases List.mem_cons.mp hp with z | z
    · exact .inl (by rw [z])
    · exact .inr (by rw [List.mem_singleton.mp z])

def LTurn (J : It) (gt : TG) (tt : TT) (te : TE) (σ0 : L2.St) (vs : List Nat) (cont : List V → Hp → Prop) (W : Nat → Nat → List V → Hp → Prop) : Prop :=
  ∀ i m ys H, W i m ys H → (J.stop i H ∧ cont ys H) ∨ (J.go i H ∧ ∃ Nx : List V → Hp → Prop, (∀ ys' H', Nx ys' H' → ∃ m', m' < m ∧ W (i + 1) m' ys' H') ∧
    ∀ x H', J.yld i H x H' → gt x (wipe σ0 vs) H' fun σ2 H2 => wipe σ2 vs = wipe σ0 vs ∧ tt σ2 H2 fun b H3 => if b = true then te σ2 H3 fun y H4 => ys.length < sizeLine ∧ Nx (ys ++ [y]) H4 else Nx ys H3)
/-- (elt for .. in ..), drained: all that comes, in order -/
def tGenL (P : Addr) (wi : TI) (gt : TG) (tt : TT) (te : TE) (ix : List (Option Nat)) (vs : List Nat) : TGen := fun σ H cont => wi σ H fun J H1 => TabG H1 P ∧ ∀ H2, Tabbed P H1 H2 →
  ∃ W : Nat → Nat → List V → Hp → Prop, (∃ m, W 0 m [] H2) ∧ LTurn J gt tt te (capt ix σ) vs cont W

section
variable {X : Cx} {c P : Addr} {elt tg iter : Expr} {ifs : List Expr} {gpos : Pos} {scope : Scope} {Ng : List Str} {ix : List (Option Nat)} {vs : List Nat} {wi : TI} {gt : TG} {tt : TT} {te : TE} {k : Nat} {E : XK}
theorem pgen_exp (hr : Room k X.A) (TB : TabB X.base X.mg c P) (hcode : X.env.code = .ref c) (S : GScp X.N X.env.scope scope Ng ix) (hi : PI X tg iter wi)
    (pg : ∀ (A : Around) (s4 : Shared) (H4 : Hp) (cl : List (Str × Addr)) (C : Addr) (code : Value) (fp : List Addr), PG (gX X A s4 H4 Ng scope cl C code fp) tg gt) (pt : ∀ (A : Around) (s4 : Shared) (H4 : Hp) (cl : List (Str × Addr)) (C : Addr) (code : Value) (fp : List Addr), (∀ env, Room k (A.deeper env)) → PTs (gX X A s4 H4 Ng scope cl C code fp) ifs tt)
    (pe : ∀ (A : Around) (s4 : Shared) (H4 : Hp) (cl : List (Str × Addr)) (C : Addr) (code : Value) (fp : List Addr), (∀ env, Room k (A.deeper env)) → PE (gX X A s4 H4 Ng scope cl C code fp) elt te) (hs : ∀ v, genFold iter X.env v = pure v := by intro _; rfl) :
    PGen X (k + 1) (.GeneratorExp elt [⟨tg, iter, ifs, 0⟩] scope gpos) (tGenL P wi gt tt te ix vs) E := by
  refine ⟨fun pins s σ H cont I h => ?_⟩
  refine gx_make (R := fun J H2 => ∃ W : Nat → Nat → List V → Hp → Prop, (∃ m, W 0 m [] H2) ∧ LTurn J gt tt te (capt ix σ) vs cont W) hr TB hcode S hi hs I h fun J H2 a g it fp tn code s4 s5 hR M => ?_
  obtain ⟨W, ⟨m0, hW⟩, turn⟩ := hR
  refine ⟨H2, s4, fp, M.inv, fun b hb => ⟨(M.fp b hb).1.2.2.2.1, (M.fp b hb).1.2.1, (M.fp b hb).1.2.2.2.2.1, (M.fp b hb).1.2.2.2.2.2⟩, a, g, _, rfl, Nat.le_of_lt M.lt, M.ltA, M.gen, M.gs, M.os, M.bare, M.lim, M.keep, fun A Sx s2 hra hfr hSx hk2 hSo hos hba => ?_⟩
  obtain ⟨go, nm, qn, ego, egc, egd, egs⟩ := M.gen
  obtain ⟨c0, eS⟩ := hSo
  have gen' : ∀ {h : Heap}, h.get? a = some go → h.IsGen a g := fun {h} e => ⟨go, nm, qn, e, egc, egd, egs⟩
  have hcell : ∀ v, go.data ≠ .cell v := fun v q => by rw [egd] at q; cases q
  have lt4 : ∀ b ∈ fp, b < s4.heap.objs.size := fun b hb => (M.fp b hb).2
  have ltS : a < Sx := Nat.lt_of_lt_of_le M.ltA hSx
  have kp2 : ∀ b o, s4.heap.get? b = some o → s2.heap.get? b = some o := fun b o e => hk2 b o (M.keep b o e)
  have I0 := gx_inv (A := A) (s2 := s2) (code := code) (ps := [(Sx, lstObj #[] c0), (a, go)]) M.inv S hfr hra.hd M.fp kp2 hos hba (M.ns.at' fun o e => hk2 _ o e) fun p hp => by
    rcases List.mem_cons.mp hp with z | z
    · rw [z]
      exact ⟨eS, Nat.lt_trans M.lt ltS, fun v q => by cases q⟩
    · rw [List.mem_singleton.mp z]
      exact ⟨hk2 _ _ ego, M.lt, hcell⟩
  have I1 : Inv (gX X A s4 H2 Ng scope (cloFrom X.env.cells scope.names []) s4.heap.objs.size code fp) ([(Sx, lstObj #[] c0), (a, go)] ++ []) (wipe (capt ix σ) vs) H2 s2 :=
    I0.weak (wipe_length _ _) fun j v e => (wipe_some e).1
  have st2 : tn 0 s2.heap := M.turn.keep _ _ _ M.st fun b _ o e => kp2 b o e
  have hro : ∀ env, Room k (A.deeper env) := fun env => hra.deeper env
  refine seg_gxs (X := gX X A s4 H2 Ng scope (cloFrom X.env.cells scope.names []) s4.heap.objs.size code fp) (i := 0) M.turn st2 ?_
  refine seg_gx (X := gX X A s4 H2 Ng scope (cloFrom X.env.cells scope.names []) s4.heap.objs.size code fp) (γ := List V) (Hold.fill _ Sx (a, go)) (J := J) (gt := gt) (tt := tt) (te := te) (σ0 := capt ix σ) (vs := vs) (W := W) (Fu := fun ys n m => n + ys.length = sizeLine)
    (Iw := fun ys y H Nx => ys.length < sizeLine ∧ Nx (ys ++ [y]) H) (fin := cont) (Sn := fun _ _ => True) over_gl rfl M.turn rfl (fun b _ p hp => by cases hp) (pg _ _ _ _ _ _ _) (pt _ _ _ _ _ _ _ hro) (pe _ _ _ _ _ _ _ hro) S.co (fun _ _ z => z)
    turn (fun h1 _ => h1) (fun b hb e => ?_) (fun _ => trivial) (fun {n s₀ m ys y H v ip σ' s Nx} hip rv hz _ hf hi => ?_) (fun {n s₀ m ys ip σ' H s} hz _ hf hfu => ?_) m0 sizeLine 0 _ _ [] H2 hW (Nat.add_zero _) trivial ⟨#[], c0, .nil, I1⟩ st2 fun b hb => (M.fp b hb).1.1
  · have hb' := lt4 b hb
    rcases e with e | e
    · rw [e] at hb'
      exact absurd (Nat.lt_trans (Nat.lt_trans M.lt ltS) hb') (Nat.lt_irrefl _)
    · rw [e] at hb'
      exact absurd (Nat.lt_trans M.lt hb') (Nat.lt_irrefl _)
  · obtain ⟨acc, cc, rvs, Iz⟩ := hz
    obtain ⟨hlt, hnx⟩ := hi
    obtain ⟨n', rfl⟩ : ∃ n', n = n' + 1 := ⟨n - 1, by omega⟩
    have eS' : s.heap.get? Sx = some (lstObj acc cc) := (Iz.pin (Sx, lstObj acc cc) (List.mem_append_right _ (List.mem_append_left _ List.mem_cons_self))).1
    have hSp := Iz.pin (Sx, lstObj acc cc) (List.mem_append_right _ (List.mem_append_left _ List.mem_cons_self))
    have hap := Iz.pin (a, go) (List.mem_append_right _ (List.mem_append_left _ (List.mem_cons_of_mem _ (List.mem_singleton.mpr rfl))))
    have hasz : acc.size = ys.length := by
      have e1 := rvs.length
      have e2 : acc.toList.length = acc.size := by simp
      omega
    refine ⟨n', rfl, fun kap hk => ⟨Iz.os, Iz.bare, Iz.nolimit, gen' hap.1, ⟨acc, cc, eS', by omega⟩, fun s' z => ?_⟩⟩
    have hG : GI (gX X A s4 H2 Ng scope (cloFrom X.env.cells scope.names []) s4.heap.objs.size code fp) Sx ((a, go) :: ip) ys σ' H s := ⟨acc, cc, rvs, Iz⟩
    have nip : ∀ p ∈ (a, go) :: ip, p.1 ≠ Sx := fun p hp e => by
      rcases List.mem_cons.mp hp with q | q
      · rw [q] at e
        exact Nat.ne_of_lt ltS e
      · have hb := lt4 p.1 (hip p q)
        rw [e] at hb
        exact absurd (Nat.lt_trans (Nat.lt_trans M.lt ltS) hb) (Nat.lt_irrefl _)
    have ncell : ∀ x cl, (gX X A s4 H2 Ng scope (cloFrom X.env.cells scope.names []) s4.heap.objs.size code fp).env.cells.lookup x = some cl → cl ≠ Sx := fun x cl e z => by
      obtain ⟨vc, o, ho, hd⟩ := Iz.cell x cl e
      rw [z, eS'] at ho
      cases ho
      cases hd
    obtain ⟨acc', cc', rvs', Iz'⟩ := hG.woken (x := y) (v := v) (fun p hp => by cases hp) nip ⟨Nat.le_of_lt (Nat.lt_trans M.lt ltS), hSp.2.2.1, ncell⟩ rv z
    exact hk (ys ++ [y]) s' hnx ⟨acc', cc', rvs', Iz'⟩ fun m' _ => by
      rw [List.length_append, List.length_singleton]
      omega
  · obtain ⟨acc, cc, rvs, Iz⟩ := hz
    have hSp := Iz.pin (Sx, lstObj acc cc) (List.mem_append_right _ (List.mem_append_left _ List.mem_cons_self))
    exact .inl ⟨.inr rfl, H, ys, acc, cc, Iz.os, Iz.bare, Iz.base, Iz.hok, hSp.2.1, hSp.1, rvs, by omega, hf⟩
end
end GX

set_option maxRecDepth 100000
set_option maxHeartbeats 4000000
namespace GX
open PySem PySem.Spec PyProof.Rows L2 GenW GxR
open AutoSeq1 (wpAny_loadPart')

section
variable {P : Program} {w : World} {outer : List Env} {H : Hp} {sc s : Shared} {ex : List Addr} {cont : List V → Hp → Prop} {A : Around} {k : Nat} {u : Value} {E : Value → Shared → Prop}
/-- what stands behind a generator's draining -/
def Drained (P : Program) (w : World) (outer : List Env) (H : Hp) (sc : Shared) (ex : List Addr) (cont : List V → Hp → Prop) (us : List Value) (s' : Shared) : Prop :=
  ∃ H' ys, Vals ys us ∧ ys.length ≤ sizeLine ∧ s'.os = sc.os ∧ AllBare s'.gens ∧ Un (frs outer) ex H H' sc.heap s'.heap ∧ HOk P w H' s'.heap ∧ cont ys H'
/-- the items of a generator, all at once -/
theorem collect_new {Q : List Value → Shared → Prop} (hr : Room (k + 3) A) (hfr : A.frames = some outer) (h : GMade P w k outer H sc ex cont (fun _ _ _ => False) u s)
    (hQ : ∀ us s', Drained P w outer H sc ex cont us s' → Q us s') : wpAny (model P w) A (collect u) Q E s := by
  obtain ⟨a, g, c, rfl, ha1, ha2, hg, hgs, hos, hb, hl, hkp, wake⟩ := h
  have hSa : s.heap.objs.size ≠ a := Nat.ne_of_gt ha2
  have hcl : cStatics < s.heap.objs.size := let ⟨_, hn, _⟩ := hl; hn.lt
  have hSc : s.heap.objs.size ≠ cStatics := Nat.ne_of_gt hcl
  unfold collect
  refine wpAny_bind (wpAny_runValue (codeAny_builtin F.entry_proto_collect ?_))
  rw [Around.under_plainId F.plain_proto_collect _]
  show wpAny _ A.in1 (newList [] >>= fun l => again (.builtin "list.__iadd__" ⟨[l, .ref a], []⟩)) _ _ s
  refine wpAny_bind (wpAny_newObj_type ?_)
  refine wpAny_pure ⟨plainId_quiet F.plain_list_iadd _, codeAny_builtin F.entry_list_iadd ?_⟩
  rw [Around.under_plainId F.plain_list_iadd _]
  generalize hS : s.heap.objs.size = S at *
  have eS : (s.heap.push { cls := .type "list", data := .seq ([] : List Value).toArray }).get? S = some { cls := .type "list", data := .seq ([] : List Value).toArray } := by
    rw [← hS]
    exact Heap.get?_push_size _ rfl
  have k1 : ∀ b o, s.heap.get? b = some o → (s.heap.push { cls := .type "list", data := .seq ([] : List Value).toArray }).get? b = some o := fun b o e => Heap.get?_push_of_some _ e
  have neS : ∀ b o, s.heap.get? b = some o → b ≠ S := fun b o e => by
    rw [← hS]
    exact Nat.ne_of_lt (Heap.lt_size e)
  have up : ∀ (h : Heap) (f : Obj → Obj), (∀ b o, s.heap.get? b = some o → h.get? b = some o) → ∀ b o, s.heap.get? b = some o → (h.update S f).get? b = some o := fun h f q b o e =>
    (Heap.get?_update_other _ _ (Ne.symm (neS b o e))).trans (q b o e)
  have gty : ∀ {h : Heap}, (∀ b o, s.heap.get? b = some o → h.get? b = some o) → h.IsGen a g := fun {h} q => hg.keeps q
  show wpAny _ A.in1 (Builtin.List.listExtendWith (.ref S) (.ref a) (.ref S)) _ _ _
  unfold Builtin.List.listExtendWith
  refine wpAny_bind (wpAny_typeOf (Heap.IsGen.typeIs (s := { s with heap := _ }) (gty k1)) ?_)
  have h1 : Builtin.List.listSameRef (.ref S) (.ref a) = false := by simp [Builtin.List.listSameRef, hSa]
  have h2 : (Value.type "generator" == Value.type "list") = false := by decide
  have h3 : (Value.type "generator" == Value.type "tuple") = false := by decide
  simp only [h1, h2, h3, Bool.or_false, Bool.false_eq_true, if_false]
  refine wpAny_bind (wpAny_pyIter_gen (s := { s with heap := _ }) (gty k1) (wpAny_bind (wpAny_holding ?_)))
  unfold Builtin.List.listLengthHint
  refine wpAny_bind (wpAny_specialOf (Heap.IsGen.typeIs (s := { s with heap := _ }) (gty k1)) F.gen_no_len ?_)
  show wpAny _ A.in1 (specialOf (Value.ref a) (Str.ofString "__length_hint__") >>= _) _ _ _
  refine wpAny_bind (wpAny_specialOf (Heap.IsGen.typeIs (s := { s with heap := _ }) (gty k1)) F.gen_no_hint (wpAny_pure ?_))
  show wpAny _ A.in1 (rule "list.extend.makes-room" >>= fun _ => Builtin.List.listTouch (.ref S) >>= fun _ => again (.builtin "list.extend.loop" ⟨[.ref S, .ref a, .ref S], []⟩)) _ _ _
  refine wpAny_bind (wpAny_rule (wpAny_bind ?_))
  show wpAny _ A.in1 (updateSeq S (·.push .none) >>= fun _ => updateSeq S (·.pop)) _ _ _
  refine wpAny_bind (wpAny_updateSeq eS rfl ?_)
  have e2 := Heap.get?_update_self (Obj.mapSeq (·.push Value.none)) eS rfl
  refine wpAny_updateSeq (hz := by seq_fits) e2 rfl ?_
  have e3 := Heap.get?_update_self (Obj.mapSeq (·.pop)) e2 rfl
  have k3 := up _ (Obj.mapSeq (·.pop)) (up _ (Obj.mapSeq (·.push Value.none)) k1)
  refine wpAny_pure ⟨plainId_quiet F.plain_extend_loop _, ?_⟩
  have hd : A.depth < recursionLimit := by
    have := hr.dp
    omega
  refine drain (P := P) (w := w) (outer := outer) (H := H) (sc := sc) (ex := ex) (Q := cont) (EX := fun _ _ _ => False) (A := A) (g := g) hr.hd hd hSa hSc
    (fun s' acc c H' ys q1 q2 q3 q4 q5 q6 q7 q8 q9 => ?_) (fun e s' hc => ?_) sizeLine _ (gty k3) (hl.keeps k3) ⟨_, hgs, rfl, ?_⟩
  · show wpAny _ A (load S >>= _) _ _ s'
    exact wpAny_bind (wpAny_load q1 (wpAny_pure (hQ _ s' ⟨H', ys, q2, q3, q4, q5, q6, q7, q9⟩)))
  · obtain ⟨_, _, _, _, _, _, _, _, _, _, _, _, z⟩ := hc
    exact z.elim
  · refine wake _ _ _ ⟨hr.hd, ?_, ?_⟩ hfr ?_ k3 ⟨_, e3⟩ hos (allBare_setGen (s := { s with heap := _ }) hb rfl)
    · have := hr.dp
      show A.depth + 3 * k + 5 < _
      omega
    · have := hr.un
      show A.units + 1 + 1 + 16 * k + 200 < _
      omega
    · exact Nat.le_refl _
/-- tuple(g) -/
theorem call_tuple_new {Q : Value → Shared → Prop} (hr : Room (k + 5) A) (hfr : A.frames = some outer) (h : GMade P w k outer H sc ex cont (fun _ _ _ => False) u s)
    (hQ : ∀ us s', Drained P w outer H sc ex cont us s' → Q (.ref s'.heap.objs.size) { s' with heap := s'.heap.push { cls := .type "tuple", data := .seq us.toArray } }) : wpAny (model P w) A (call (.type "tuple") [u]) Q E s := by
  have hTI : s.TypeIs u "generator" := by
    obtain ⟨a, g, c, rfl, _, _, hg, _⟩ := h
    exact hg.typeIs
  refine callType_codes (Q₁ := fun obj s₁ => s₁.TypeIs obj "tuple" ∧ Q obj s₁) F.called_tuple (F.typeCall_tuple_1 _) F.entry_object_init ?_ fun obj s₁ h₁ =>
    ⟨h₁.1, F.args_object_init_2 obj _, object_init_meets F.called_tuple.init.lookup F.called_tuple.made (by decide) P w A.in1 _ s₁ ⟨h₁.1, rfl, h₁.2⟩⟩
  refine codeAny_of_tree ?_
  show wpAny _ A.in1.in1 (do checkBuiltinCall "tuple.__new__" ⟨[.type "tuple", u], []⟩; again (.builtin "tuple.__new__" ⟨[.type "tuple", u], []⟩)) _ _ s
  refine wpAny_bind (wpAny_of_eq (F.newCall_tuple_1 _) (wpAny_pure ⟨plainId_quiet F.plain_tuple_new _, codeAny_builtin F.entry_tuple_new ?_⟩))
  rw [Around.under_plainId F.plain_tuple_new _]
  have hsub := sub_tuple_self
  have hinit := init_tuple_lookup
  have hmh := madeHere_tuple
  have hroom : Room (k + 3) A.in1.in1 := ⟨hr.hd, by have := hr.dp; show A.depth + 3 * (k + 3) + 5 < _; omega, by have := hr.un; show A.units + 1 + 1 + 16 * (k + 3) + 200 < _; omega⟩
  have hfr2 : A.in1.in1.frames = some outer := hfr
  wp_walk using wpAny_typeOf hTI, collect_new hroom hfr2 h
  intro us s' hD
  have hlen : us.toArray.size ≤ sizeLine := by
    obtain ⟨H', ys, r, hl, _⟩ := hD
    rw [List.size_toArray, ← r.length]
    exact hl
  show wpAny _ _ (Builtin.Tuple.tupleExact us.toArray >>= fun v => ret v) _ _ _
  unfold Builtin.Tuple.tupleExact
  exact wpAny_bind (wpAny_newObj_type (wpAny_pure ⟨⟨_, Heap.get?_push_size _ rfl, rfl⟩, hQ us s' hD⟩) hlen)
end

section
variable {X : Cx} {k : Nat} {p pos : Pos}
def tTupG (tg : TGen) : TE := fun σ H Q => tg σ H fun out H2 => ∀ p, H2 p = none → Q (.ref p) (upd H2 p (.tup out))
/-- behind the draining, in the def's context -/
theorem Drained.inv {pins : List (Addr × Obj)} {σ : L2.St} {H1 : Hp} {sc s' : Shared} {ex : List Addr} {cont : List V → Hp → Prop} {us : List Value} (I : Inv X pins σ H1 sc) (hex : ExOk X pins ex) (h : Drained X.prog X.w X.stack H1 sc ex cont us s') :
    ∃ H' ys, Vals ys us ∧ ys.length ≤ sizeLine ∧ Inv X pins σ H' s' ∧ cont ys H' := by
  obtain ⟨H', ys, r, hl, os, hb, un, hok, hc⟩ := h
  exact ⟨H', ys, r, hl, I.call' (ch := ex) os un hok hb hex, hc⟩
theorem pe_tupG {e : Expr} {tg : TGen} {nm : Str} (h : PGen X k e tg (fun _ _ _ => False)) (hr : Room (k + 5) X.A) (hg : Gl X nm) (hmg : X.mg nm = none) (hv : bootBuiltins nm = some (.type "tuple")) (hnm : nm ≠ "__name__" := by decide) (hdb : (nm == ("__debug__" : Str)) = false := by decide)
    (he : starEach [e] X.env = (false, eval e X.env) :: starEach [] X.env := by rfl) : PE X (.Call (.Name nm p) [e] [] pos) (tTupG tg) := by
  refine ⟨fun pins s σ H Q I hq => ?_⟩
  refine wpAny_Call_Name_kw (ld_blt I hg hmg hv ?_ hnm hdb)
  refine PyProof.Rows.callWith_type1 ?_ he rfl
  rw [he]
  show wpAny _ _ (spliced ((false, eval e X.env) :: backTo pos (starEach [] X.env))) _ _ s
  refine Calls.spliced_cons (thn (h.run pins s σ H _ I hq) fun u s1 ⟨H1, sc, ex, I1, hex, hG⟩ => ?_)
  refine Calls.spliced_nil (call_tuple_new hr I1.ok.frames hG fun us s' hD => ?_)
  obtain ⟨H', ys, r, hl, I2, hc⟩ := hD.inv I1 hex
  refine ⟨.ref s'.heap.objs.size, upd H' s'.heap.objs.size (.tup ys), I2.laid (t' := s'.toks) (fun b o e => Heap.get?_push_of_some _ e) (Nat.le_refl _) ⟨hl, us, r, ?_⟩, rfl, hc _ (I2.hok.fresh (Nat.le_refl _))⟩
  exact ⟨_, Heap.get?_push_size _ rfl, rfl, _, rfl⟩
end
end GX

set_option maxRecDepth 100000
set_option maxHeartbeats 4000000
namespace GX
open PySem PySem.Spec PyProof.Rows L2 GenW GxR

/-- the running sum stands in the list at S; the letter: the very list -/
structure Tly where
  t : Int
  tk : Tok
  c : Nat
abbrev Tly.obj (x : Tly) : Obj := lstObj #[.int x.t x.tk] x.c
def Hold.tally (X : Cx) (S : Addr) (q : Addr × Obj) : Hold X Tly where
  ok := fun x ip σ H s => Inv X ([(S, x.obj), q] ++ ip) σ H s
  own := fun b => b = S ∨ b = q.1
  unfold := fun {x ip σ H s} I => by
    refine ⟨[(S, x.obj), q], fun p hp => ?_, I, fun _ _ _ _ h' => h'⟩
    rcases List.mem_cons.mp hp with z | z
    · exact .inl (by rw [z])
    · exact .inr (by rw [List.mem_singleton.mp z])
/-- the protocol of sum -/
def YSum (a g S : Nat) : Protocol := fun _ s₀ v s1 kap =>
  ∃ (j : Int) (tj : Tok) (x : Tly), v = .int j tj ∧ s1.heap.IsGen a g ∧ s1.heap.NoLimit ∧ s₀.heap.get? S = some x.obj ∧ s1.heap.get? S = some x.obj ∧ InLong j ∧ InLong (x.t + j) ∧
    ∀ s' : Shared, (∀ b o, b ≠ S → s1.heap.get? b = some o → s'.heap.get? b = some o) → (∃ tk' c', s'.heap.get? S = some (lstObj #[.int (x.t + j) tk'] c')) → s'.os = s1.os → (AllBare s1.gens → AllBare s'.gens) → kap (.send .none) s'
def FSum (S : Nat) (Fin : Int → Shared → Prop) (_ : Nat) (s₀ s1 : Shared) : Prop := ∃ x : Tly, s₀.heap.get? S = some x.obj ∧ ∀ s' : Shared, (∀ b o, s1.heap.get? b = some o → s'.heap.get? b = some o) → s'.os = s1.os → (AllBare s1.gens → AllBare s'.gens) → Fin x.t s'
def RSum (S : Nat) (Fin : Int → Shared → Prop) : GenEnd := fun n s₀ r s1 => ((r = .ok (.ret .none) ∨ r = .ok .next) ∧ FSum S Fin n s₀ s1) ∨ ∃ e, r = .error e ∧ NoE e s1

section
variable {P : Program} {w : World} {A : Around} {a g S : Nat} {R : Result → Shared → Prop} {Fin : Int → Shared → Prop}
theorem tly_eq {x y : Tly} {o : Option Obj} (h1 : o = some x.obj) (h2 : o = some y.obj) : x.t = y.t := by
  rw [h1] at h2
  have e := Option.some.inj h2
  have e2 : Data.seq #[.int x.t x.tk] x.c = Data.seq #[.int y.t y.tk] y.c := congrArg Obj.data e
  injection e2 with e3 _
  have e4 := congrArg (·[0]?) e3
  simp only [List.getElem?_toArray, List.getElem?_cons_zero] at e4
  injection (Option.some.inj e4)
theorem sum_loop (hh : A.handled = none) (hd : A.depth < recursionLimit) (hSa : S ≠ a) (hSc : S ≠ cStatics) (hF : ∀ t tk s, Fin t s → R (.ok (.ret (.int t tk))) s) : ∀ (n : Nat) (s : Shared), s.heap.IsGen a g → s.heap.NoLimit → (∃ x : Tly, s.heap.get? S = some x.obj) →
    (∃ gs, s.gens[g]? = some gs ∧ gs.Goes (model P w) A.in1.in1 (RSum S Fin) (YSum a g S) n (.send .none) (s.setGen g .running)) →
    codeAny (model P w) A (.builtin "sum.loop" ⟨[.ref a, .ref S, rawInt 0, rawInt 0], []⟩) R s := by
  intro n
  induction n using Nat.strongRecOn with
  | ind n ih =>
    intro s hg hl ⟨x0, hS⟩ ⟨gs, hgs, hgo⟩
    have hgl : g < s.gens.size := (Array.getElem?_eq_some_iff.mp hgs).1
    refine codeAny_builtin F.entry_sum_loop ?_
    rw [Around.under_plainId F.plain_sum_loop _]
    show wpAny _ A.in1 (seqItems? (.ref S) >>= _) _ _ s
    refine wpAny_bind (wpAny_seqItems hS rfl ?_)
    show wpAny _ A.in1 (tryCatch (pyNext (.ref a)) _ >>= _) _ _ s
    refine wpAny_bind (wpAny_tryCatch (wpAny_gsz (n := g + 1) hgl (next_genG (A := A.in1) (F := FSum S Fin) (Er := NoE) hh hl hd hg hgs hgo (fun v s₁ gs' hbare hv => ?_) (fun s₁ hp h' hk => ?_) fun e s₁ he => he.elim)))
    · intro hsz
      obtain ⟨j, tj, x, rfl, hg1, hl1, q0, q1, f1, f2, hq⟩ := hv
      have et : x.t = x0.t := tly_eq q0 hS
      rw [et] at f2 hq
      obtain ⟨f11, f12⟩ := f1
      obtain ⟨f21, f22⟩ := f2
      have hc : ((decide (-(2 ^ 63) ≤ j) && decide (j < 2 ^ 63)) && (decide (-(2 ^ 63) ≤ x0.t + j) && decide (x0.t + j < 2 ^ 63))) = true := by
        simp only [Bool.and_eq_true, decide_eq_true_eq]
        exact ⟨⟨f11, f12⟩, f21, f22⟩
      show wpAny _ A.in1 (if (_ : Bool) = true then (mkInt (x0.t + j) >>= _) else _) _ _ _
      split
      · refine wpAny_bind (wpAny_mkInt ?_)
        show wpAny _ A.in1 (updateSeq S (fun _ => #[.int (x0.t + j) (s₁.setGen g gs').toks]) >>= _) _ _ _
        refine wpAny_bind ?_
        have q1' : (s₁.setGen g gs').heap.get? S = some x.obj := q1
        have hsz1 : g < s₁.gens.size := by
          have q : (s₁.setGen g gs').gens.size = s₁.gens.size := setGen_size _ _ _
          have hsz' : g + 1 ≤ (s₁.setGen g gs').gens.size := hsz
          omega
        have oth : ∀ b o, b ≠ S → s₁.heap.get? b = some o → (s₁.heap.update S (Obj.mapSeq (fun _ => #[.int (x0.t + j) (s₁.setGen g gs').toks]))).get? b = some o := fun b o hb e => (Heap.get?_update_other _ _ (Ne.symm hb)).trans e
        have newS := Heap.get?_update_self (Obj.mapSeq (fun _ => (#[.int (x0.t + j) (s₁.setGen g gs').toks] : Array Value))) q1 rfl
        cases n with
        | zero => exact (hq { s₁ with heap := s₁.heap.update S (Obj.mapSeq (fun _ => #[.int (x0.t + j) (s₁.setGen g gs').toks])) } oth ⟨_, _, newS⟩ rfl (fun z => z)).elim
        | succ m =>
          refine wpAny_updateSeq q1' rfl (wpAny_pure ⟨plainId_quiet F.plain_sum_loop _, ih m (Nat.lt_succ_self _) _ ?_ ?_ ⟨⟨_, _, _⟩, newS⟩ ⟨gs', setGen_here hsz1, ?_⟩⟩)
          · obtain ⟨o, nm, qn, ho, r⟩ := hg1
            exact ⟨o, nm, qn, oth a o (Ne.symm hSa) ho, r⟩
          · obtain ⟨mc, hns, hnn⟩ := hl1
            exact ⟨mc, hns.at' fun o e => oth _ o (Ne.symm hSc) e, hnn⟩
          · exact hq _ oth ⟨_, _, newS⟩ rfl fun z => setGen_same rfl (setGen_same hbare z)
      · rename_i hneg
        exact absurd hc hneg
    · intro _
      obtain ⟨x, q0, hfin⟩ := hp
      have et : x.t = x0.t := tly_eq q0 hS
      rw [et] at hfin
      exact wpAny_pure (hF _ _ _ (hfin _ (fun b o e => hk b o e) rfl fun z => setGen_same rfl z))
end

def STurn (J : It) (gt : TG) (tt : TT) (te : TE) (σ0 : L2.St) (vs : List Nat) (Q : VK) (W : Nat → Nat → Int → Hp → Prop) : Prop :=
  ∀ i m t H, W i m t H → (J.stop i H ∧ Q (.int t) H) ∨ (J.go i H ∧ ∃ Nx : Int → Hp → Prop, (∀ t' H', Nx t' H' → ∃ m', m' < m ∧ W (i + 1) m' t' H') ∧
    ∀ x H', J.yld i H x H' → gt x (wipe σ0 vs) H' fun σ2 H2 => wipe σ2 vs = wipe σ0 vs ∧ tt σ2 H2 fun b H3 => if b = true then te σ2 H3 fun y H4 => ∃ j, y = .int j ∧ InLong j ∧ InLong (t + j) ∧ Nx (t + j) H4 else Nx t H3)
def tSumG (P : Addr) (wi : TI) (gt : TG) (tt : TT) (te : TE) (ix : List (Option Nat)) (vs : List Nat) : TE := fun σ H Q => wi σ H fun J H1 => TabG H1 P ∧ ∀ H2, Tabbed P H1 H2 →
  ∃ W : Nat → Nat → Int → Hp → Prop, (∃ m, W 0 m 0 H2) ∧ STurn J gt tt te (capt ix σ) vs Q W

section
variable {X : Cx} {pins : List (Addr × Obj)} {σ : L2.St}
variable {elt tg iter : Expr} {ifs : List Expr} {scope : Scope} {gpos : Pos} {J : It} {H2 : Hp} {a g it : Addr} {fp : List Addr} {tn : Nat → Heap → Prop} {code : Value} {s4 s5 : Shared}
theorem ready_sum {A : Around} {Ng : List Str} {ix : List (Option Nat)} {vs : List Nat} {gt : TG} {tt : TT} {te : TE} {Q : VK} {W : Nat → Nat → Int → Hp → Prop} {m0 : Nat} {Sx : Addr} {x0 : Tly} {s2 : Shared} (M : Made X pins σ elt tg iter ifs scope gpos J H2 a g it fp tn code s4 s5) (S : GScp X.N X.env.scope scope Ng ix)
    (hfr : A.frames = some X.stack) (hh : A.handled = none) (hSx : s5.heap.objs.size ≤ Sx) (hk2 : ∀ b o, s5.heap.get? b = some o → s2.heap.get? b = some o) (eS : s2.heap.get? Sx = some x0.obj) (hx0 : x0.t = 0) (hos : s2.os = s5.os) (hba : AllBare s2.gens)
    (pg : PG (gX X A s4 H2 Ng scope (cloFrom X.env.cells scope.names []) s4.heap.objs.size code fp) tg gt) (pt : PTs (gX X A s4 H2 Ng scope (cloFrom X.env.cells scope.names []) s4.heap.objs.size code fp) ifs tt) (pe : PE (gX X A s4 H2 Ng scope (cloFrom X.env.cells scope.names []) s4.heap.objs.size code fp) elt te)
    (hW : W 0 m0 0 H2) (turn : STurn J gt tt te (capt ix σ) vs Q W) :
    ∃ n, (GenState.fresh (gStart elt tg iter ifs scope gpos it (genEnv scope (cloFrom X.env.cells scope.names []) s4.heap.objs.size code builtinsNs X.env))).Goes (model X.prog X.w) A (RSum Sx fun t s' => ∃ H', Inv X pins σ H' s' ∧ Q (.int t) H') (YSum a g Sx) n (.send .none) s2 := by
  obtain ⟨go, nm, qn, ego, egc, egd, egs⟩ := M.gen
  have gen' : ∀ {h : Heap}, h.get? a = some go → h.IsGen a g := fun {h} e => ⟨go, nm, qn, e, egc, egd, egs⟩
  have hcell : ∀ v, go.data ≠ .cell v := fun v q => by rw [egd] at q; cases q
  have lt4 : ∀ b ∈ fp, b < s4.heap.objs.size := fun b hb => (M.fp b hb).2
  have ltS : a < Sx := Nat.lt_of_lt_of_le M.ltA hSx
  have kp2 : ∀ b o, s4.heap.get? b = some o → s2.heap.get? b = some o := fun b o e => hk2 b o (M.keep b o e)
  have I0 := gx_inv (A := A) (s2 := s2) (code := code) (ps := [(Sx, x0.obj), (a, go)]) M.inv S hfr hh M.fp kp2 (hos.trans M.os) hba (M.ns.at' fun o e => hk2 _ o e) fun p hp => by
    rcases List.mem_cons.mp hp with z | z
    · rw [z]
      exact ⟨eS, Nat.lt_trans M.lt ltS, fun v q => by cases q⟩
    · rw [List.mem_singleton.mp z]
      exact ⟨hk2 _ _ ego, M.lt, hcell⟩
  have I1 : Inv (gX X A s4 H2 Ng scope (cloFrom X.env.cells scope.names []) s4.heap.objs.size code fp) ([(Sx, x0.obj), (a, go)] ++ []) (wipe (capt ix σ) vs) H2 s2 :=
    I0.weak (wipe_length _ _) fun j v e => (wipe_some e).1
  have st2 : tn 0 s2.heap := M.turn.keep _ _ _ M.st fun b _ o e => kp2 b o e
  refine ⟨m0 + 1, rfl, ?_⟩
  refine seg_gxs (X := gX X A s4 H2 Ng scope (cloFrom X.env.cells scope.names []) s4.heap.objs.size code fp) (i := 0) M.turn st2 ?_
  refine seg_gx (X := gX X A s4 H2 Ng scope (cloFrom X.env.cells scope.names []) s4.heap.objs.size code fp) (γ := Tly) (Hold.tally _ Sx (a, go)) (J := J) (gt := gt) (tt := tt) (te := te) (σ0 := capt ix σ) (vs := vs) (W := fun i m x H => W i m x.t H) (Fu := fun _ n m => m < n)
    (Iw := fun x y H Nx => ∃ j, y = .int j ∧ InLong j ∧ InLong (x.t + j) ∧ ∀ tk c, Nx ⟨x.t + j, tk, c⟩ H) (fin := fun x H => Q (.int x.t) H) (Sn := fun s x => s.heap.get? Sx = some x.obj) over_gl rfl M.turn rfl (fun b _ p hp => by cases hp) pg pt pe S.co (fun _ _ z => z)
    (fun i m x H hw => ?_) (fun h1 h2 => Nat.lt_trans h2 h1) (fun b hb e => ?_) (fun {x ip σ H s} hz => (hz.pin (Sx, x.obj) (List.mem_append_right _ (List.mem_append_left _ List.mem_cons_self))).1) (fun {n s₀ m x y H v ip σ' s Nx} hip rv hz hsn hf hi => ?_) (fun {n s₀ m x ip σ' H s} hz hsn hf hfu => ?_) m0 (m0 + 1) 0 _ _ x0 H2 (by rw [hx0]; exact hW) (Nat.lt_succ_self _) eS I1 st2 fun b hb => (M.fp b hb).1.1
  · rcases turn i m x.t H hw with ⟨h1, h2⟩ | ⟨h1, Nx, h2, h3⟩
    · exact .inl ⟨h1, h2⟩
    · refine .inr ⟨h1, fun x' H' => Nx x'.t H', fun x' H' z => h2 x'.t H' z, ?_⟩
      have e : (fun (y : V) (H4 : Hp) => ∃ j, y = V.int j ∧ InLong j ∧ InLong (x.t + j) ∧ ∀ (tk : Tok) (c : Nat), Nx (Tly.mk (x.t + j) tk c).t H4) = fun y H4 => ∃ j, y = V.int j ∧ InLong j ∧ InLong (x.t + j) ∧ Nx (x.t + j) H4 := by
        funext y H4
        refine propext ⟨fun ⟨j, e1, e2, e3, e4⟩ => ⟨j, e1, e2, e3, e4 0 0⟩, fun ⟨j, e1, e2, e3, e4⟩ => ⟨j, e1, e2, e3, fun _ _ => e4⟩⟩
      rw [e]
      exact h3
  · have hb' := lt4 b hb
    rcases e with e | e
    · rw [e] at hb'
      exact absurd (Nat.lt_trans (Nat.lt_trans M.lt ltS) hb') (Nat.lt_irrefl _)
    · rw [e] at hb'
      exact absurd (Nat.lt_trans M.lt hb') (Nat.lt_irrefl _)
  · obtain ⟨j, rfl, f1, f2, hnx⟩ := hi
    obtain ⟨tj, rfl⟩ : ∃ tj, v = Value.int j tj := rv
    obtain ⟨n', rfl⟩ : ∃ n', n = n' + 1 := ⟨n - 1, by omega⟩
    have hSp := hz.pin (Sx, x.obj) (List.mem_append_right _ (List.mem_append_left _ List.mem_cons_self))
    have hap := hz.pin (a, go) (List.mem_append_right _ (List.mem_append_left _ (List.mem_cons_of_mem _ (List.mem_singleton.mpr rfl))))
    refine ⟨n', rfl, fun kap hk => ⟨j, tj, x, rfl, gen' hap.1, hz.nolimit, hsn, hSp.1, f1, f2, fun s' h1 h2 h3 h4 => ?_⟩⟩
    obtain ⟨tk', c', eS'⟩ := h2
    refine hk ⟨x.t + j, tk', c'⟩ s' (hnx tk' c') ?_ fun m' hm => by omega
    have nip : ∀ p ∈ (a, go) :: ip, p.1 ≠ Sx := fun p hp e => by
      rcases List.mem_cons.mp hp with q | q
      · rw [q] at e
        exact Nat.ne_of_lt ltS e
      · have hb := lt4 p.1 (hip p q)
        rw [e] at hb
        exact absurd (Nat.lt_trans (Nat.lt_trans M.lt ltS) hb) (Nat.lt_irrefl _)
    have ncell : ∀ y cl, (gX X A s4 H2 Ng scope (cloFrom X.env.cells scope.names []) s4.heap.objs.size code fp).env.cells.lookup y = some cl → cl ≠ Sx := fun y cl e z => by
      obtain ⟨vc, o, ho, hd⟩ := hz.cell y cl e
      rw [z, hSp.1] at ho
      cases ho
      cases hd
    have nt : ∀ b u, H b = some u → b ≠ Sx := fun b u q e => by
      rw [e, hSp.2.1] at q
      cases q
    -- the list at Sx has turned
    have Ia : Inv (gX X A s4 H2 Ng scope (cloFrom X.env.cells scope.names []) s4.heap.objs.size code fp) ((a, go) :: ip) σ' H s := hz.pins_of fun p hp => hz.pin p (List.mem_append_right _ (by
      rcases List.mem_cons.mp hp with q | q
      · exact List.mem_append_left _ (by rw [q]; exact List.mem_cons_of_mem _ (List.mem_singleton.mpr rfl))
      · exact List.mem_append_right _ q))
    have Ib : Inv (gX X A s4 H2 Ng scope (cloFrom X.env.cells scope.names []) s4.heap.objs.size code fp) ((a, go) :: ip) σ' H s' := by
      refine Ia.call' (ch := [Sx]) h3 ⟨fun b o e n _ hc => h1 b o (fun z => hc (by rw [z]; exact List.mem_singleton.mpr rfl)) e, fun b o e n _ hc => ⟨o.slots, h1 b o (fun z => hc (by rw [z]; exact List.mem_singleton.mpr rfl)) e⟩, fun _ _ _ n _ => n,
        fun b o e hc => ⟨o, h1 b o (fun z => hc (by rw [z]; exact List.mem_singleton.mpr rfl)) e⟩, fun _ _ q => q, fun _ _ _ q => q, fun b ps q => ⟨#[], by rw [q]; simp⟩⟩ (fun b u q => ?_) (h4 hz.bare) fun b hb => ?_
      · refine (Ia.hok b u q).stay (fun c v hc y => h1 c v ?_ y) (fun _ y => y) fun _ _ y => y
        rcases hc with y | y
        · rw [y]
          exact nt b u q
        · exact nt c _ y
      · rw [List.mem_singleton.mp hb]
        exact ⟨.inr (Nat.le_of_lt (Nat.lt_trans M.lt ltS)), hSp.2.2.1.symm.symm, fun y cl e => ncell y cl e, fun p hp => nip p (by
          rcases List.mem_append.mp hp with q | q
          · cases q
          · exact q)⟩
    refine Ib.pins_of fun p hp => ?_
    rcases List.mem_append.mp hp with q | q
    · rcases List.mem_cons.mp q with q | q
      · rw [q]
        exact ⟨eS', hSp.2.1, hSp.2.2.1, hSp.2.2.2.1, fun v z => by cases z⟩
      · rw [List.mem_singleton.mp q]
        exact Ib.pin (a, go) (List.mem_append_right _ List.mem_cons_self)
    · exact Ib.pin p (List.mem_append_right _ (List.mem_cons_of_mem _ q))
  · exact .inl ⟨.inr rfl, x, hsn, fun s' h1 h2 h3 => ⟨H, M.back hz h1 h2 (h3 hz.bare), hf⟩⟩
end
end GX

set_option maxRecDepth 100000
set_option maxHeartbeats 4000000
namespace GX
open PySem PySem.Spec PyProof.Rows L2 GenW GxR
section
variable {X : Cx} {c P : Addr} {elt tg iter : Expr} {ifs : List Expr} {p pos gpos : Pos} {scope : Scope} {Ng : List Str} {ix : List (Option Nat)} {vs : List Nat} {wi : TI} {gt : TG} {tt : TT} {te : TE} {k : Nat}
theorem pe_sumG (hr : Room (k + 1) X.A) (hg : Gl X "sum") (hm : X.mg "sum" = none) (hb : bootBuiltins "sum" = some (.builtin "sum")) (TB : TabB X.base X.mg c P) (hcode : X.env.code = .ref c) (S : GScp X.N X.env.scope scope Ng ix) (hi : PI X tg iter wi)
    (pg : ∀ (A : Around) (s4 : Shared) (H4 : Hp) (cl : List (Str × Addr)) (C : Addr) (code : Value) (fp : List Addr), PG (gX X A s4 H4 Ng scope cl C code fp) tg gt) (pt : ∀ (A : Around) (s4 : Shared) (H4 : Hp) (cl : List (Str × Addr)) (C : Addr) (code : Value) (fp : List Addr), (∀ env, Room k (A.deeper env)) → PTs (gX X A s4 H4 Ng scope cl C code fp) ifs tt)
    (pe : ∀ (A : Around) (s4 : Shared) (H4 : Hp) (cl : List (Str × Addr)) (C : Addr) (code : Value) (fp : List Addr), (∀ env, Room k (A.deeper env)) → PE (gX X A s4 H4 Ng scope cl C code fp) elt te) (hs : ∀ v, genFold iter X.env v = pure v := by intro _; rfl)
    (he : starEach [.GeneratorExp elt [⟨tg, iter, ifs, 0⟩] scope gpos] X.env = (false, eval (.GeneratorExp elt [⟨tg, iter, ifs, 0⟩] scope gpos) X.env) :: starEach [] X.env := by rfl) :
    PE X (.Call (.Name "sum" p) [.GeneratorExp elt [⟨tg, iter, ifs, 0⟩] scope gpos] [] pos) (tSumG P wi gt tt te ix vs) := by
  refine ⟨fun pins s σ H Q I h => ?_⟩
  refine wpAny_Call_Name_kw (ld_blt I hg hm hb ?_)
  refine PyProof.Rows.callWith_builtin1 ?_ he (by rfl)
  rw [he]
  show wpAny _ _ (spliced ((false, eval (.GeneratorExp elt [⟨tg, iter, ifs, 0⟩] scope gpos) X.env) :: backTo pos (starEach [] X.env))) _ _ s
  refine Calls.spliced_cons (gx_make (R := fun J H2 => ∃ W : Nat → Nat → Int → Hp → Prop, (∃ m, W 0 m 0 H2) ∧ STurn J gt tt te (capt ix σ) vs Q W) hr TB hcode S hi hs I h fun J H2 a g it fp tn code s4 s5 hR M => ?_)
  obtain ⟨W, ⟨m0, hW⟩, turn⟩ := hR
  have hr2 : ∀ env, Room k (X.A.in1.in1.deeper env) := fun env => ⟨hr.hd, by have := hr.dp; show X.A.depth + 1 + 3 * k + 5 < _; omega, by have := hr.un; show X.A.units + 1 + 1 + 3 + 16 * k + 200 < _; omega⟩
  refine Calls.spliced_nil (call_function_tree F.kind_sum F.plain_sum F.entry_sum (F.args_sum1 _) ?_)
  unfold Builtin.«sum»
  simp only [List.length_cons, List.length_nil]
  rw [if_neg (by decide)]
  refine wpAny_bind (wpAny_of_eq (show Builtin.Builtins.bindParams "sum" ["start"] 0 { } = pure [none] from rfl) (wpAny_bind (wpAny_pyIter_gen M.gen ?_)))
  refine wpAny_bind (wpAny_mkInt (wpAny_bind (wpAny_pure ?_)))
  simp only [List.forIn_cons, List.forIn_nil]
  refine wpAny_bind (wpAny_bind (wpAny_bind (wpAny_isInstance (T := "int") (b := false) (typeIs_int _ _ _) PySem.sub_int_str ?_)))
  simp only [Bool.false_eq_true, if_false]
  refine wpAny_pure (wpAny_bind (wpAny_bind (wpAny_isInstance (T := "int") (b := false) (typeIs_int _ _ _) PySem.sub_int_bytes ?_)))
  simp only [Bool.false_eq_true, if_false]
  refine wpAny_pure (wpAny_bind (wpAny_bind (wpAny_isInstance (T := "int") (b := false) (typeIs_int _ _ _) PySem.sub_int_bytearray ?_)))
  simp only [Bool.false_eq_true, if_false]
  refine wpAny_pure (wpAny_pure (wpAny_bind (wpAny_newObj_type ?_)))
  have ltS : s5.heap.objs.size ≠ a := Nat.ne_of_gt M.ltA
  have hcl : cStatics < s5.heap.objs.size := let ⟨_, hn, _⟩ := M.lim; hn.lt
  have kp : ∀ b o, s5.heap.get? b = some o → (s5.heap.push { cls := .type "list", data := .seq ([Value.int 0 s5.toks] : List Value).toArray }).get? b = some o := fun b o e => Heap.get?_push_of_some _ e
  have eS : (s5.heap.push { cls := .type "list", data := .seq ([Value.int 0 s5.toks] : List Value).toArray }).get? s5.heap.objs.size = some (Tly.obj ⟨0, s5.toks, 0⟩) := Heap.get?_push_size _ rfl
  refine wpAny_pure ⟨plainId_quiet F.plain_sum_loop _, ?_⟩
  obtain ⟨n, hgo⟩ := ready_sum (A := X.A.in1.in1) (Sx := s5.heap.objs.size) (x0 := ⟨0, s5.toks, 0⟩) (s2 := ({ s5 with heap := s5.heap.push { cls := .type "list", data := .seq ([Value.int 0 s5.toks] : List Value).toArray }, toks := s5.toks + 1 } : Shared).setGen g .running) M S M.inv.ok.frames hr.hd (Nat.le_refl _) kp eS rfl rfl (allBare_setGen (s := { s5 with heap := _ }) M.bare rfl)
    (pg _ _ _ _ _ _ _) (pt _ _ _ _ _ _ _ hr2) (pe _ _ _ _ _ _ _ hr2) hW turn
  refine sum_loop (A := X.A) (Fin := fun t s' => ∃ H', Inv X pins σ H' s' ∧ Q (.int t) H') hr.hd (by have := hr.dp; omega) ltS (Nat.ne_of_gt hcl) (fun t tk s' h => ?_) n _ (M.gen.keeps kp) (M.lim.keeps kp) ⟨_, eS⟩ ⟨_, M.gs, hgo⟩
  obtain ⟨H', I', q⟩ := h
  exact ⟨.int t, H', I', ⟨tk, rfl⟩, q⟩
end
end GX

set_option maxRecDepth 100000
set_option maxHeartbeats 4000000
/-! LX: lambdas without parameters as values; the def that calls one and tells its errors by words. -/
namespace LX
open PySem PySem.Spec PyProof.Rows L2
open LamX (CodeO TabS Tabs ExtN inv_table codeO_ne among_app LamS)

/-- a lambda's own words -/
structure LF where
  params : Arguments
  body : Expr
  scope : Scope
  cl : List (Str × Addr)
  c : Addr
  qual : Str
def LamO (f : Addr) (L : LF) : HO := .ext fun h => ∃ pm ctv, h.get? f = some (PySem.W.kla_obj "<lambda>" L.qual L.params L.body L.scope L.cl pm L.c ctv)
theorem lamO_at {P : Program} {w : World} {H : Hp} {h : Heap} {f : Addr} {L : LF} (hok : HOk P w H h) (e : H f = some (LamO f L)) : ∃ pm ctv, h.get? f = some (PySem.W.kla_obj "<lambda>" L.qual L.params L.body L.scope L.cl pm L.c ctv) := by
  obtain ⟨z, _, _⟩ := hok f _ e
  exact z
section
variable {X : Cx} {pins : List (Addr × Obj)} {σ : L2.St} {H : Hp} {s : Shared}
theorem inv_lam {L : LF} {pm ctv : Value} {t' : Nat} (I : Inv X pins σ H s) :
    Inv X pins σ (upd H s.heap.objs.size (LamO s.heap.objs.size L)) { s with heap := s.heap.push (PySem.W.kla_obj "<lambda>" L.qual L.params L.body L.scope L.cl pm L.c ctv), toks := t' } := by
  refine I.laid (a := s.heap.objs.size) (fun b u e => Heap.get?_push_of_some _ e) (Nat.le_refl _) ?_
  have e : (s.heap.push (PySem.W.kla_obj "<lambda>" L.qual L.params L.body L.scope L.cl pm L.c ctv)).get? s.heap.objs.size = some (PySem.W.kla_obj "<lambda>" L.qual L.params L.body L.scope L.cl pm L.c ctv) := Heap.get?_push_size _ rfl
  exact ⟨⟨pm, ctv, e⟩, ⟨_, e⟩, fun h1 h2 ⟨p, t, z⟩ st => ⟨p, t, st _ z⟩⟩
/-- the lambda is made, and known from now on -/
theorem lam_new {T : List (Addr × Str)} {c P : Addr} {params : Arguments} {body : Expr} {scope : Scope} {pos : Pos} {E : Value → Shared → Prop} {Q : Value → Shared → Prop} (I : Inv X pins σ H s) (TB : LamX.TabB X.base X.mg c P) (hcode : X.env.code = .ref c)
    (hm : (P, X.env.qual ++ "<lambda>") ∈ T) (hu : ∀ p ∈ T, p.1 = P → p.2 = X.env.qual ++ "<lambda>") (hT : Tabs T H) (hdef : defaultsOf params X.env = ([], [])) (hfree : ∀ y ∈ scope.names, y.2 = .free → ∃ c, X.env.cells.lookup y.1 = some c)
    (h : ∀ (f c' : Addr) (H1 : Hp) (s' : Shared), Inv X pins σ H1 s' → ExtN H H1 → Tabs T H1 → H f = none → H1 f = some (LamO f ⟨params, body, scope, cloFrom X.env.cells scope.names [], c', X.env.qual ++ "<lambda>"⟩) → H1 c' = some (CodeO c' (X.env.qual ++ "<lambda>")) →
      (∀ b, H1 b = none → H b = none) → (∀ b o, b ≠ P → H b = some o → H1 b = some o) → Q (.ref f) s') :
    wpAny (model X.prog X.w) X.A (eval (.Lambda params body scope pos) X.env) Q E s := by
  obtain ⟨ps, hP, ht, ha⟩ := hT _ hm
  refine PySem.W.kla_eval hdef ?_
  have bP : s.heap.BuiltinsAt X.mg P := TB.bm.keeps I.bk
  have hP' : s.heap.get? P = some { cls := .none, data := .fields ps } := I.hok P _ hP
  have back : ∀ {H : Hp} {a b : Addr} {o : HO}, upd H a o b = none → H b = none := fun {H a b o} e => by
    unfold upd at e
    split at e
    · cases e
    · exact e
  cases hc : codeAmong pos ps.toList with
  | none =>
    refine PySem.W.kla_makeFunction (mg := X.mg) (c := c) (P := P) (ps := ps) (closure_ok hfree) I.ok.glob (I.mod.glob.keeps I.bk) hcode (TB.code.keeps I.bk) hP' ht hc TB.gP bP fun c' ctv h' tk hx hge hlt hrec htb => ?_
    obtain ⟨c2, oc, vs, t, e2, hoc, hd, hv⟩ := hrec
    cases e2
    have nC : H c' = none := I.hok.fresh hge
    have I1 := inv_table (t' := tk) (more := #[rawInt pos.line, rawInt pos.col, .ref c']) (h' := h') I hP (fun b o hb e => hx b o hb e) htb hge ⟨oc, vs, t, hoc, hd, hv⟩
    have eL : (ps ++ #[rawInt pos.line, rawInt pos.col, .ref c']).toList = ps.toList ++ [rawInt pos.line, rawInt pos.col, .ref c'] := by simp
    have hE : ExtN H (upd (upd H P (.tbl (ps ++ #[rawInt pos.line, rawInt pos.col, .ref c']))) c' (CodeO c' (X.env.qual ++ "<lambda>"))) := fun b o e n => by
      rw [upd_ne (ne_of_none e nC), upd_ne (fun z => n ps (Option.some.inj (e.symm.trans (by rw [z]; exact hP))))]
      exact e
    have T1 : Tabs T (upd (upd H P (.tbl (ps ++ #[rawInt pos.line, rawInt pos.col, .ref c']))) c' (CodeO c' (X.env.qual ++ "<lambda>"))) := fun p hp => by
      by_cases hb : p.1 = P
      · rw [hu p hp hb, hb]
        refine ⟨_, by rw [upd_ne (ne_of_none hP nC), upd_same], by rw [eL]; exact PySem.TriplesOk_snoc _ _ _ _ ht, fun p' cv hcv => ?_⟩
        rw [eL] at hcv
        rcases among_app _ ht hcv with z | z
        · obtain ⟨c0, e1, e2⟩ := ha p' cv z
          exact ⟨c0, e1, hE _ _ e2 codeO_ne⟩
        · exact ⟨c', z, upd_same⟩
      · obtain ⟨ps', a1, a2, a3⟩ := hT p hp
        refine ⟨ps', by rw [upd_ne (ne_of_none a1 nC), upd_ne hb]; exact a1, a2, fun p' cv hcv => ?_⟩
        obtain ⟨c0, e1, e2⟩ := a3 p' cv hcv
        exact ⟨c0, e1, hE _ _ e2 codeO_ne⟩
    have nF := I1.hok.fresh (Nat.le_refl _)
    have I2 := inv_lam (L := ⟨params, body, scope, cloFrom X.env.cells scope.names [], c', X.env.qual ++ "<lambda>"⟩) (pm := (X.mg "__name__").getD .none) (ctv := ctv) (t' := tk) I1
    refine h h'.objs.size c' _ _ I2 (fun b o e n => ?_) (T1.ext fun b o e => ?_) (I.hok.fresh (Nat.le_trans hge (Nat.le_of_lt hlt))) upd_same ((upd_ne (Nat.ne_of_lt hlt)).trans upd_same) (fun b e => back (back (back e))) (fun b o nb e => by
      have e2 : upd (upd H P (.tbl (ps ++ #[rawInt pos.line, rawInt pos.col, .ref c']))) c' (CodeO c' (X.env.qual ++ "<lambda>")) b = some o := by
        rw [upd_ne (ne_of_none e nC), upd_ne nb]
        exact e
      exact (upd_ne (ne_of_none e2 nF)).trans e2)
    · exact (upd_ne (ne_of_none (hE b o e n) nF)).trans (hE b o e n)
    · exact (upd_ne (ne_of_none e nF)).trans e
  | some cv =>
    obtain ⟨c', e, hco⟩ := ha pos cv hc
    subst e
    refine PySem.W.kla_makeFunctionHit (mg := X.mg) (c := c) (P := P) (ps := ps) (closure_ok hfree) I.ok.glob (I.mod.glob.keeps I.bk) hcode (TB.code.keeps I.bk) hP' ht hc bP fun ctv h' tk hx hsz => ?_
    have I1 : Inv X pins σ H { s with heap := h', toks := tk } := I.kept hx
    have nF : H h'.objs.size = none := I1.hok.fresh (Nat.le_refl _)
    have I2 := inv_lam (L := ⟨params, body, scope, cloFrom X.env.cells scope.names [], c', X.env.qual ++ "<lambda>"⟩) (pm := (X.mg "__name__").getD .none) (ctv := ctv) (t' := tk) I1
    refine h h'.objs.size c' _ _ I2 (fun b o e n => ?_) (hT.ext fun b o e => ?_) nF upd_same ((upd_ne (ne_of_none hco nF)).trans hco) (fun b e => back e) (fun b o _ e => (upd_ne (ne_of_none e nF)).trans e)
    · exact (upd_ne (ne_of_none e nF)).trans e
    · exact (upd_ne (ne_of_none e nF)).trans e
end
/-- the lambda as a value -/
def tLamV (T : List (Addr × Str)) (P : Addr) (mk : Addr → LF) : TE := fun σ H Q => Tabs T H ∧ ∀ (f c' : Addr) (H1 : Hp), ExtN H H1 → Tabs T H1 → H f = none → H1 f = some (LamO f (mk c')) → H1 c' = some (CodeO c' (mk c').qual) → (∀ b, H1 b = none → H b = none) → (∀ b o, b ≠ P → H b = some o → H1 b = some o) → Q (.ref f) H1
section
variable {X : Cx}
theorem pe_lam {T : List (Addr × Str)} {c P : Addr} {params : Arguments} {body : Expr} {scope : Scope} {pos : Pos} (TB : LamX.TabB X.base X.mg c P) (hcode : X.env.code = .ref c) (hm : (P, X.env.qual ++ "<lambda>") ∈ T) (hu : ∀ p ∈ T, p.1 = P → p.2 = X.env.qual ++ "<lambda>")
    (L : LamS X.env.scope scope) (hdef : defaultsOf params X.env = ([], []) := by rfl) :
    PE X (.Lambda params body scope pos) (tLamV T P fun c' => ⟨params, body, scope, cloFrom X.env.cells scope.names [], c', X.env.qual ++ "<lambda>"⟩) := by
  refine ⟨fun pins s σ H Q I h => ?_⟩
  obtain ⟨hT, h⟩ := h
  exact lam_new I TB hcode hm hu hT hdef (L.has I.ok) fun f c' H1 s' I1 eN T1 f0 f1 c1 nn kp => ⟨.ref f, H1, I1, rfl, h f c' H1 eN T1 f0 f1 c1 nn kp⟩
end
end LX

set_option maxRecDepth 100000
set_option maxHeartbeats 4000000
namespace LX
open PySem PySem.Spec PyProof.Rows L2
open LamX (CodeO TabS Tabs ExtN inv_table codeO_ne among_app LamS)

abbrev lamE (L : LF) (n f : Addr) : Env := PySem.W.envX L.qual L.scope n f (.ref L.c) L.cl
/-- the context of a lambda's body that captures nothing -/
def lamC (P : Program) (w : World) (K : PySem.W.Frag) (mg : Str → Option Value) (base : Heap) (A : Around) (outer : List Env) (s : Shared) (H : Hp) (E : XK) (L : LF) (f : Addr) : Cx where
  prog := P
  w := w
  K := K
  mg := mg
  base := base
  A := A.deeper (lamE L s.heap.objs.size f)
  N := []
  s_0 := s
  H_0 := H
  env := lamE L s.heap.objs.size f
  outer := outer
  stack := lamE L s.heap.objs.size f :: outer
  ex := []
  fn := fun _ => false
  calm := true
  pn := []
  xe := fun e s' => wpAny (model P w) (A.deeper (lamE L s.heap.objs.size f)) (leaving (lamE L s.heap.objs.size f) e) (fun _ s'' => L2.CX P w outer H s E e s'') (fun e' s'' => L2.CX P w outer H s E e' s'') s'
/-- a lambda that captures nothing: tl is what its body is worth -/
structure LamOk (P : Program) (w : World) (K : PySem.W.Frag) (mg : Str → Option Value) (base : Heap) (k : Nat) (L : LF) (tl : XK → Hp → VK → Prop) : Prop where
  kind : L.scope.kind = .function
  co : L.scope.isCoroutine = false
  gen : L.scope.isGenerator = false
  own : ∀ y ∈ L.scope.names, y.2 ≠ .local ∧ y.2 ≠ .cell ∧ y.2 ≠ .free
  cl : L.cl = []
  bind : ∀ pm ctv : Value, bindArgs (PySem.W.kla_fn "<lambda>" L.qual L.params L.body L.scope L.cl pm (.ref L.c) ctv) ⟨[], []⟩ = pure []
  body : ∀ (A : Around) (outer : List Env) (s : Shared) (H : Hp) (E : XK) (f : Addr), Room k (A.deeper (lamE L s.heap.objs.size f)) → PE (lamC P w K mg base A outer s H E L f) L.body (fun _ H' Q => tl E H' Q)

section
variable {P : Program} {w : World} {K : PySem.W.Frag} {mg : Str → Option Value} {base : Heap}
theorem lam_begin {A : Around} {outer : List Env} {s1 : Shared} {HZ : Hp} {E : XK} {L : LF} {f : Addr} {h₁ : Heap} {tk : Nat} (kind : L.scope.kind = .function) (own : ∀ y ∈ L.scope.names, y.2 ≠ .local ∧ y.2 ≠ .cell ∧ y.2 ≠ .free) (hcl : L.cl = []) (e0 : Env0 P w K mg base A outer s1 HZ) (hd : A.handled = none)
    (hns : h₁.Ns s1.heap.objs.size fun y => ([] : List (Str × Value)).reverse.lookup y) (kp : ∀ b o, s1.heap.get? b = some o → h₁.get? b = some o) :
    Inv (lamC P w K mg base A outer s1 HZ E L f) [] [] HZ { s1 with heap := h₁, toks := tk } := by
  have nocl : ∀ {y : Str} {c : Addr}, (lamE L s1.heap.objs.size f).cells.lookup y = some c → False := fun {y c} e => by
    have e : L.cl.lookup y = some c := e
    rw [hcl] at e
    cases e
  have noA : ∀ b : Addr, b ∉ (lamC P w K mg base A outer s1 HZ E L f).ex := fun b z => absurd (show b ∈ ([] : List Addr) from z) (by simp)
  refine ⟨⟨e0.mod, kind, rfl, rfl, Nat.le_refl _, fun y z c e1 e2 => (nocl e1).elim, fun y hy => ?_, fun y c z _ => ?_, fun _ => hd, Around.frames_deeper e0.frames, .inr ⟨rfl, rfl⟩, fun b z => absurd z (noA b), e0.bs, e0.bsz, fun b _ _ => noA b,
      fun b z => absurd z (noA b), e0.funs, e0.frf⟩,
    rfl, e0.bare, Un.kept kp, ⟨_, hns, fun i y v e1 e2 e3 => ?_⟩, fun y c e => (nocl e).elim, e0.hok.fresh (Nat.le_refl _), fun y c e => (nocl e).elim, fun q hq => absurd (show q ∈ ([] : List (Addr × Obj)) ++ [] from hq) (by simp), e0.hok.kept kp, rfl⟩
  · have hy : L.scope.names.lookup y = some .cell ∨ L.scope.names.lookup y = some .free := hy
    rcases hy with hy | hy
    · exact absurd rfl (own _ (PySem.mem_of_lookup hy)).2.1
    · exact absurd rfl (own _ (PySem.mem_of_lookup hy)).2.2
  · have z : false = true := z
    cases z
  · have e1 : ([] : List Str)[i]? = some y := e1
    simp at e1
end
/-- what()  -/
def tAct (P : Program) (w : World) (K : PySem.W.Frag) (mg : Str → Option Value) (base : Heap) (k i : Nat) (E : XK) : TE := fun σ H Q => ∃ f L tl, σ[i]? = some (some (.ref f)) ∧ H f = some (LamO f L) ∧ H L.c = some (CodeO L.c L.qual) ∧ LamOk P w K mg base k L tl ∧ tl E H Q
section
variable {Z : Cx}
theorem pe_act {k i : Nat} {a : Str} {E : XK} {p1 p2 : Pos} (hx : Passes (L2.CX Z.prog Z.w) Z E) (hr : Room (k + 1) Z.A) (hN : Z.N[i]? = some a) (hv : Vis Z.env.scope a) (hd : (a == ("__debug__" : Str)) = false := by decide) (hcd : (a == ("__classdict__" : Str)) = false := by decide) :
    PE Z (.Call (.Name a p1) [] [] p2) (tAct Z.prog Z.w Z.K Z.mg Z.base k i E) := by
  refine ⟨fun pinsZ sZ σZ HZ Q IZ h => ?_⟩
  obtain ⟨f, L, tl, hs, hf, hc, ok, ht⟩ := h
  refine wpAny_Call_Name_kw (thn ((pe_var (pos := p1) (i := i) hN hv hd hcd).run pinsZ sZ σZ HZ (fun v H1 => v = .ref f ∧ H1 = HZ) IZ ⟨.ref f, hs, rfl, rfl⟩) fun u s1 ⟨v, H1, I1, r1, ev, eH⟩ => ?_)
  subst ev
  rw [eH] at I1
  obtain rfl : u = Value.ref f := r1
  obtain ⟨pm, ctv, of1⟩ := lamO_at I1.hok hf
  refine PySem.W.callWith_F0 ⟨_, _, _, _, of1⟩ ?_
  obtain ⟨⟨oc, vs, t, hoc, hdc, hvc⟩, _, _⟩ := I1.hok L.c _ hc
  have rc : codeAny (model Z.prog Z.w) Z.A (.call (.ref f) ⟨[], []⟩) (CR (L2.CX Z.prog Z.w) Z.stack Z.prog Z.w HZ s1 Q E) s1 := by
    refine PySem.W.kla_callFunE hr.depth of1 rfl ok.co ok.gen rfl ⟨L.c, oc, vs, t, rfl, hoc, hdc, hvc⟩ ?_
    rw [ok.bind]
    refine wpAny_pure (wpAny_newFunctionEnv (fun y hy => (ok.own y hy).2.1) (fun y hy => absurd hy (by simp)) (fun h₁ hns hsb => ⟨I1.nolimit.fresh _ hsb, ?_⟩) ok.kind)
    have kp : ∀ b o, s1.heap.get? b = some o → h₁.get? b = some o := fun b o e => hsb.extBut b o (Nat.ne_of_lt (Heap.lt_size e)) (Heap.get?_push_of_some _ e)
    have J : Inv (lamC Z.prog Z.w Z.K Z.mg Z.base Z.A Z.stack s1 HZ E L f) [] [] HZ { s1 with heap := h₁, toks := s1.toks + ([] : List (Str × Value)).length } :=
      lam_begin ok.kind ok.own ok.cl I1.env0 hr.hd hns kp
    refine PySem.W.kla_codeExpr (wpAny_mono ((ok.body _ _ s1 HZ E f (hr.deeper _)).run [] _ _ HZ Q J ht) (fun v s' hq => ?_) fun e s' hq => hq)
    obtain ⟨w', H', J', rv, q⟩ := hq
    exact ⟨w', H', J'.os, J'.bare, J'.base, J'.hok, rv, q⟩
  refine wpAny_call (codeAny_mono rc fun r s' hq => ?_)
  cases r with
  | error e => exact hx pinsZ σZ HZ s1 e s' I1 hq
  | ok fl =>
    cases fl with
    | ret u => exact I1.after hq
    | next => exact False.elim hq
    | brk => exact False.elim hq
    | cont => exact False.elim hq
end
end LX

set_option maxRecDepth 100000
set_option maxHeartbeats 4000000
namespace LX
open PySem PySem.Spec PyProof.Rows L2
open LamX (CodeO TabS Tabs ExtN inv_table codeO_ne among_app LamS GivesTo lamCx lamEnv)
section
variable {X : Cx} {pins : List (Addr × Obj)} {σ : L2.St} {H : Hp} {s : Shared}
theorem lam_raw {T : List (Addr × Str)} {c P : Addr} {params : Arguments} {body : Expr} {scope : Scope} {pos : Pos} {E : Value → Shared → Prop} {Q : Value → Shared → Prop} (I : Inv X pins σ H s) (TB : LamX.TabB X.base X.mg c P) (hcode : X.env.code = .ref c)
    (hm : (P, X.env.qual ++ "<lambda>") ∈ T) (hu : ∀ p ∈ T, p.1 = P → p.2 = X.env.qual ++ "<lambda>") (hT : Tabs T H) (hdef : defaultsOf params X.env = ([], [])) (hfree : ∀ y ∈ scope.names, y.2 = .free → ∃ c, X.env.cells.lookup y.1 = some c)
    (h : ∀ (f c' : Addr) (pm ctv : Value) (H1 : Hp) (s' : Shared), Inv X pins σ H1 s' → ExtN H H1 → Tabs T H1 → s'.heap.get? f = some (PySem.W.kla_obj "<lambda>" (X.env.qual ++ "<lambda>") params body scope (cloFrom X.env.cells scope.names []) pm c' ctv) → H1 f = none → f ∉ frs X.stack → H1 c' = some (CodeO c' (X.env.qual ++ "<lambda>")) →
      (∀ b o, b ≠ P → H b = some o → H1 b = some o) → Q (.ref f) s') :
    wpAny (model X.prog X.w) X.A (eval (.Lambda params body scope pos) X.env) Q E s := by
  have nofr : ∀ f, s.heap.objs.size ≤ f → f ∉ frs X.stack := fun f hf z => (List.mem_cons.mp (I.stkSub _ z)).elim (fun e => by
    have q := I.lt
    rw [← e] at q
    exact absurd (Nat.lt_of_lt_of_le q hf) (Nat.lt_irrefl _)) fun e => I.nofs hf e
  obtain ⟨ps, hP, ht, ha⟩ := hT _ hm
  refine PySem.W.kla_eval hdef ?_
  have bP : s.heap.BuiltinsAt X.mg P := TB.bm.keeps I.bk
  have hP' : s.heap.get? P = some { cls := .none, data := .fields ps } := I.hok P _ hP
  have back : ∀ {H : Hp} {a b : Addr} {o : HO}, upd H a o b = none → H b = none := fun {H a b o} e => by
    unfold upd at e
    split at e
    · cases e
    · exact e
  cases hc : codeAmong pos ps.toList with
  | none =>
    refine PySem.W.kla_makeFunction (mg := X.mg) (c := c) (P := P) (ps := ps) (closure_ok hfree) I.ok.glob (I.mod.glob.keeps I.bk) hcode (TB.code.keeps I.bk) hP' ht hc TB.gP bP fun c' ctv h' tk hx hge hlt hrec htb => ?_
    obtain ⟨c2, oc, vs, t, e2, hoc, hd, hv⟩ := hrec
    cases e2
    have nC : H c' = none := I.hok.fresh hge
    have I1 := inv_table (t' := tk) (more := #[rawInt pos.line, rawInt pos.col, .ref c']) (h' := h') I hP (fun b o hb e => hx b o hb e) htb hge ⟨oc, vs, t, hoc, hd, hv⟩
    have eL : (ps ++ #[rawInt pos.line, rawInt pos.col, .ref c']).toList = ps.toList ++ [rawInt pos.line, rawInt pos.col, .ref c'] := by simp
    have hE : ExtN H (upd (upd H P (.tbl (ps ++ #[rawInt pos.line, rawInt pos.col, .ref c']))) c' (CodeO c' (X.env.qual ++ "<lambda>"))) := fun b o e n => by
      rw [upd_ne (ne_of_none e nC), upd_ne (fun z => n ps (Option.some.inj (e.symm.trans (by rw [z]; exact hP))))]
      exact e
    have T1 : Tabs T (upd (upd H P (.tbl (ps ++ #[rawInt pos.line, rawInt pos.col, .ref c']))) c' (CodeO c' (X.env.qual ++ "<lambda>"))) := fun p hp => by
      by_cases hb : p.1 = P
      · rw [hu p hp hb, hb]
        refine ⟨_, by rw [upd_ne (ne_of_none hP nC), upd_same], by rw [eL]; exact PySem.TriplesOk_snoc _ _ _ _ ht, fun p' cv hcv => ?_⟩
        rw [eL] at hcv
        rcases among_app _ ht hcv with z | z
        · obtain ⟨c0, e1, e2⟩ := ha p' cv z
          exact ⟨c0, e1, hE _ _ e2 codeO_ne⟩
        · exact ⟨c', z, upd_same⟩
      · obtain ⟨ps', a1, a2, a3⟩ := hT p hp
        refine ⟨ps', by rw [upd_ne (ne_of_none a1 nC), upd_ne hb]; exact a1, a2, fun p' cv hcv => ?_⟩
        obtain ⟨c0, e1, e2⟩ := a3 p' cv hcv
        exact ⟨c0, e1, hE _ _ e2 codeO_ne⟩
    have nF := I1.hok.fresh (Nat.le_refl _)
    refine h h'.objs.size c' ((X.mg "__name__").getD .none) ctv _ _ (I1.kept (t' := tk) fun b o e => Heap.get?_push_of_some _ e) hE T1 (Heap.get?_push_size _ rfl) nF (nofr _ (Nat.le_trans hge (Nat.le_of_lt hlt))) upd_same fun b o nb e => ?_
    rw [upd_ne (ne_of_none e nC), upd_ne nb]
    exact e
  | some cv =>
    obtain ⟨c', e, hco⟩ := ha pos cv hc
    subst e
    refine PySem.W.kla_makeFunctionHit (mg := X.mg) (c := c) (P := P) (ps := ps) (closure_ok hfree) I.ok.glob (I.mod.glob.keeps I.bk) hcode (TB.code.keeps I.bk) hP' ht hc bP fun ctv h' tk hx hsz => ?_
    have I1 : Inv X pins σ H { s with heap := h', toks := tk } := I.kept hx
    have nF : H h'.objs.size = none := I1.hok.fresh (Nat.le_refl _)
    exact h h'.objs.size c' ((X.mg "__name__").getD .none) ctv _ _ (I1.kept (t' := tk) fun b o e => Heap.get?_push_of_some _ e) (ExtN.refl H) hT (Heap.get?_push_size _ rfl) nF (nofr _ hsz) hco fun b o _ e => e

end
/-- x(lambda: ..): what the lambda is worth is told of the heap behind its making -/
def tLam3 (T : List (Addr × Str)) (P : Addr) (TT : (XK → Hp → VK → Prop) → Hp → VK → Prop) (t : XK → TE) : TE := fun σ H Q => Tabs T H ∧ ∀ H1, ExtN H H1 → Tabs T H1 → (∀ b o, b ≠ P → H b = some o → H1 b = some o) → TT (fun E H' Q' => t E σ H' Q') H1 Q
section
variable {X : Cx}
theorem pe_lamcall3 {T : List (Addr × Str)} {TT : (XK → Hp → VK → Prop) → Hp → VK → Prop} {x a : Str} {g c P : Addr} {k : Nat} {st : Stmt} {fd : FuncData} {Ng : List Str} {params : Arguments} {body : Expr} {scope : Scope} {t : XK → TE} {p lpos pos : Pos} (hg : Gl X x) (hm : X.mg x = some (.ref g)) (F : Fun X.K x x st g fd) (bd : L2.Binds X.K fd [a] []) (Sg : FnScope Ng [a] (defScope st)) (at0 : Ng[0]? = some a) (vis : Vis (defScope st) a)
    (gives : ∀ cdv, GivesTo X Ng x (defScope st) g cdv (defBody st) a (X.env.qual ++ "<lambda>") TT) (TB : LamX.TabB X.base X.mg c P) (isC : X.env.code = .ref c) (inT : (P, X.env.qual ++ "<lambda>") ∈ T) (only : ∀ p ∈ T, p.1 = P → p.2 = X.env.qual ++ "<lambda>") (room : Room (k + 2) X.A) (L : LamS X.env.scope scope) (nodef : defaultsOf params X.env = ([], []))
    (binds : ∀ (q : Str) (cl : List (Str × Addr)) (pm cv ctv : Value), bindArgs (PySem.W.kla_fn "<lambda>" q params body scope cl pm cv ctv) ⟨[], []⟩ = pure [])
    (worth : ∀ (A : Around) (outer : List Env) (s : Shared) (H : Hp) (E : XK) (f c' : Addr), Room k (A.deeper (lamEnv X scope s.heap.objs.size f c')) → PE (lamCx X A outer s H E scope f c') body (t E))
    (nb : (x == ("__debug__" : Str)) = false := by decide) (nb2 : (a == ("__debug__" : Str)) = false := by decide) (nb3 : (a == ("__classdict__" : Str)) = false := by decide) : PE X (.Call (.Name x p) [.Lambda params body scope lpos] [] pos) (tLam3 T P TT t) := by
  obtain ⟨oc, od, kV, doc, pm, an, cdv, ct, osl, rfl, lk, hcd⟩ := F.ex
  refine ⟨fun pins s σ H Q I h => ?_⟩
  obtain ⟨tabs, told⟩ := h
  refine wpAny_Call_Name_kw (ld_glob I hg hm (PySem.W.callWith_K (h₀ := X.base) I.ok.mod.kin F.kp ?_ (by rfl) (by rfl)) nb)
  show wpAny _ _ (spliced ((false, eval (.Lambda params body scope lpos) X.env) :: backTo pos (starEach [] X.env))) _ _ s
  refine Calls.spliced_cons (lam_raw I TB isC inT only tabs nodef (L.has I.ok) fun l c' pm' ctv G u J eN tabs1 hl ln lfr lco kp => Calls.spliced_nil ⟨J.kIn, ?_⟩)
  have run : codeAny (model X.prog X.w) X.A (.call (.ref g) ⟨[.ref l], []⟩) (CR C8.CX0 X.stack X.prog X.w G u Q C8.E0) u := by
    refine LamX.run_ofS (N := Ng) (ps := [a]) (us := [.ref l]) (vs := [.ref l]) lk hcd Sg room J.env0 (bd u [.ref l] J.kIn rfl) (.cons rfl .nil) rfl fun room' => ?_
    obtain ⟨t', ht', hq'⟩ := gives cdv l c' u G Q (fun E G' Q' => t E σ G' Q') (fun W pn xe E p1 p2 tk hW => LamX.pe_act (i := 0) J L hl ln lfr (binds _ _ _ _ _) tk hW room' (fun A outer s H r2 => worth A outer s H E l c' r2) at0 vis nb2 nb3) lco (told G eN tabs1 kp)
    exact ⟨t', ht'.nox, hq'⟩
  refine wpAny_call (codeAny_mono run fun r u2 hq => ?_)
  rcases r with e | fl
  · exact (show False from hq).elim
  cases fl with
  | ret u => exact J.after hq
  | _ => exact False.elim hq
end
end LX

set_option maxRecDepth 100000
set_option maxHeartbeats 4000000
namespace XT
open PySem PySem.Spec PyProof.Rows L2
section
variable {X : Cx} {a b c d : Expr} {ta tb tc td : TE} {pos : Pos}
/-- a op1 b op2 c op3 d as a test -/
def tChain3 (r r' r'' : R2) (ta tb tc td : TE) : TT := fun σ H Q => ta σ H fun x H1 => tb σ H1 fun y H2 => r x y H2 fun z H3 => ∃ k, z = .bl k ∧
  (if k = true then tc σ H3 fun u H4 => r' y u H4 fun z' H5 => ∃ k', z' = .bl k' ∧ (if k' = true then td σ H5 fun w' H6 => r'' u w' H6 fun z'' H7 => ∃ k'', z'' = .bl k'' ∧ Q k'' H7 else Q false H5) else Q false H3)
theorem pt_chain3 {op op' op'' : CmpOp} {r r' r'' : R2} (ho : OpR X (compareOp op) r) (ho' : OpR X (compareOp op') r') (ho'' : OpR X (compareOp op'') r'') (ha : PE X a ta) (hb : PE X b tb) (hc : PE X c tc) (hd : PE X d td)
    (hm : lastMarks [op, op', op''] [b, c, d] = false := by with_unfolding_all rfl) : PT X (.Compare a [op, op', op''] [b, c, d] pos) (tChain3 r r' r'' ta tb tc td) := by
  refine ⟨fun pins s σ H Q I h => ?_⟩
  refine isTrue_chain (thn (ha.run pins s σ H _ I h) fun v s1 ⟨x, H1, I1, r1, q1⟩ => test_link (thn (hb.run pins s1 σ H1 _ I1 q1) fun u s2 ⟨y, H2, I2, r2, q2⟩ =>
    thn (ho pins s2 σ H2 x y v u _ I2 r1 r2 q2) fun e s3 ⟨z, H3, I3, r3, k, ez, q3⟩ => ?_)) hm
  subst ez
  cases r3
  refine wpAny_truthy_bool ?_
  cases k with
  | false => exact ite_ff ⟨H3, I3, q3⟩
  | true =>
    refine ite_tt (test_link (thn (hc.run pins s3 σ H3 _ I3 q3) fun u2 s4 ⟨y2, H4, I4, r4, q4⟩ => thn (ho' pins s4 σ H4 y y2 u u2 _ I4 r2 r4 q4) fun e2 s5 ⟨z2, H5, I5, r5, k2, ez2, q5⟩ => ?_))
    subst ez2
    cases r5
    refine wpAny_truthy_bool ?_
    cases k2 with
    | false => exact ite_ff ⟨H5, I5, q5⟩
    | true =>
      refine ite_tt (test_last (thn (hd.run pins s5 σ H5 _ I5 q5) fun u3 s6 ⟨y3, H6, I6, r6, q6⟩ => thn (ho'' pins s6 σ H6 y2 y3 u2 u3 _ I6 r4 r6 q6) fun e3 s7 ⟨z3, H7, I7, r7, k3, ez3, q7⟩ => ?_))
      subst ez3
      cases r7
      exact wpAny_truthy_bool ⟨H7, I7, q7⟩
end
end XT

set_option maxRecDepth 100000
set_option maxHeartbeats 4000000
namespace XT
open PySem PySem.Spec PyProof.Rows L2
/-- a small number -/
def Sm (i : Int) : Prop := -100000 ≤ i ∧ i ≤ 100000
theorem Sm.log {i : Int} (h : Sm i) : i.natAbs.log2 < 1920 := by
  have h1 : i.natAbs ≤ 100000 := by
    obtain ⟨a, b⟩ := h
    omega
  have h3 : i.natAbs < 2 ^ 20 := by omega
  by_cases h0 : i.natAbs = 0
  · rw [h0]
    decide
  · have := (Nat.log2_lt h0).mpr h3
    omega
theorem Sm.text {i : Int} (h : Sm i) : (Str.ofString (toString i)).length ≤ 1000 := by
  have h1 : i.natAbs < 10 ^ 7 := by
    obtain ⟨a, b⟩ := h
    omega
  have e := int_text_length_le10 (k := 7) (by decide) h1
  rw [PySem.ofString_length]
  omega
section
variable {X : Cx}
/-- a part of a message: written signs, or a small number's name -/
inductive MP (X : Cx) : Expr → TE → (L2.St → Prop) → Prop where
  | lit {x : Str} {j : Nat} {pos : Pos} (h : x.length ≤ 1000) : MP X (.Constant (.str x) j pos) (tC (.str x)) (fun _ => True)
  | var {e : Expr} {i : Nat} {pos : Pos} (h : PE X e (tVar i)) : MP X (.FormattedValue e (-1) none pos) (tFmt (tVar i)) (fun σ => ∃ z, σ[i]? = some (some (.int z)) ∧ Sm z)
  | txt {e : Expr} {i : Nat} {pos : Pos} (h : PE X e (tVar i)) : MP X (.FormattedValue e (-1) none pos) (tFmt (tVar i)) (fun σ => ∃ z, σ[i]? = some (some (.str z)) ∧ z.length ≤ 1000)
inductive MPs (X : Cx) : List Expr → List TE → (L2.St → Prop) → Prop where
  | nil : MPs X [] [] (fun _ => True)
  | cons {e : Expr} {t : TE} {c : L2.St → Prop} {es : List Expr} {ts : List TE} {cs : L2.St → Prop} (h : MP X e t c) (r : MPs X es ts cs) : MPs X (e :: es) (t :: ts) (fun σ => c σ ∧ cs σ)
theorem str_app_len (x y : Str) : (x ++ y).length = x.length + y.length := by
  first
    | rfl
    | exact Array.size_append
    | simp [Str.length]
theorem MP.pe {e : Expr} {t : TE} {c : L2.St → Prop} (h : MP X e t c) : PE X e t := by
  cases h with
  | lit h => exact pe_str
  | var h => exact pe_fmt h
  | txt h => exact pe_fmt h
theorem MPs.pj {es : List Expr} {ts : List TE} {cs : L2.St → Prop} (h : MPs X es ts cs) : PJ X es ts := by
  induction h with
  | nil => exact .nil
  | cons h r ih => exact .cons h.pe ih
theorem MP.go {e : Expr} {t : TE} {c : L2.St → Prop} (h : MP X e t c) {σ : L2.St} {H : Hp} {Q : V → Hp → Prop} (hc : c σ) (hQ : ∀ y : Str, y.length ≤ 1000 → Q (.str y) H) : t σ H Q := by
  cases h with
  | lit h => exact hQ _ h
  | var h =>
    obtain ⟨z, e, s⟩ := hc
    exact ⟨_, e, .inr ⟨z, rfl, s.log, hQ _ s.text⟩⟩
  | txt h =>
    obtain ⟨z, e, s⟩ := hc
    refine ⟨_, e, .inl ⟨z, rfl, ?_, hQ _ s⟩⟩
    rw [sizeLine_eq]
    omega
theorem MPs.go {es : List Expr} {ts : List TE} {cs : L2.St → Prop} (h : MPs X es ts cs) {σ : L2.St} {H : Hp} {Q : Str → Hp → Prop} : ∀ (acc : Str) (n : Nat), acc.length ≤ 1000 * n → n + es.length ≤ 100 → cs σ → (∀ out, Q out H) → tJs ts acc σ H Q := by
  induction h with
  | nil => intro acc n _ _ _ hQ; exact hQ acc
  | @cons e t c es ts cs h r ih =>
    intro acc n h1 h2 hc hQ
    obtain ⟨c1, c2⟩ := hc
    rw [List.length_cons] at h2
    refine h.go c1 fun y hy => ⟨y, rfl, ?_, ih _ (n + 1) ?_ (by omega) c2 hQ⟩
    · rw [str_app_len, sizeLine_eq]
      omega
    · rw [str_app_len]
      omega
/-- a message: its signs don't matter -/
theorem pe_msg {v1 v2 : Expr} {rest : List Expr} {ts : List TE} {cs : L2.St → Prop} {pos : Pos} (h : MPs X (v1 :: v2 :: rest) ts cs) (hl : (v1 :: v2 :: rest).length ≤ 100 := by decide) : PE X (.JoinedStr (v1 :: v2 :: rest) pos) (fun σ H Q => cs σ ∧ ∀ out : Str, Q (.str out) H) := by
  refine ⟨fun pins s σ H Q I q => ?_⟩
  obtain ⟨q1, q2⟩ := q
  exact (pe_joined h.pj).run pins s σ H Q I (h.go Str.empty 0 (Nat.zero_le _) (by omega) q1 fun out => q2 out)
end
end XT

set_option maxRecDepth 100000
set_option maxHeartbeats 4000000
namespace XT
open PySem PySem.Spec PyProof.Rows L2
open GX (LTurn QTurn STurn)
/-! ### turns that leave the heap as it is -/
theorem fm_succ {α : Type} (f : Nat → Option α) (i : Nat) : (List.range (i + 1)).filterMap f = (List.range i).filterMap f ++ (f i).toList := by
  rw [List.range_succ, List.filterMap_append]
  cases h : f i with
  | none => simp [h]
  | some y => simp [h]
theorem fm_len {α : Type} (f : Nat → Option α) (i : Nat) : ((List.range i).filterMap f).length ≤ i := by
  have := List.length_filterMap_le f (List.range i)
  rw [List.length_range] at this
  exact this
theorem lturn_pure {J : It} {gt : TG} {tt : TT} {te : TE} {σ0 : L2.St} {vs : List Nat} {cont : List V → Hp → Prop} {H2 : Hp} (n : Nat) (f : Nat → Option V) (hn : n ≤ sizeLine) (hgo : ∀ i, i < n → J.go i H2) (hstop : J.stop n H2)
    (hstep : ∀ i, i < n → ∀ x H', J.yld i H2 x H' → ∀ (ys : List V) (Nx : List V → Hp → Prop), ys.length < sizeLine → Nx (ys ++ (f i).toList) H2 →
      gt x (wipe σ0 vs) H' fun σ2 H3 => wipe σ2 vs = wipe σ0 vs ∧ tt σ2 H3 fun b H4 => if b = true then te σ2 H4 fun y H5 => ys.length < sizeLine ∧ Nx (ys ++ [y]) H5 else Nx ys H4)
    (hcont : cont ((List.range n).filterMap f) H2) : ∃ W : Nat → Nat → List V → Hp → Prop, (∃ m, W 0 m [] H2) ∧ LTurn J gt tt te σ0 vs cont W := by
  refine ⟨fun i m ys H => i + m = n ∧ H = H2 ∧ ys = (List.range i).filterMap f, ⟨n, Nat.zero_add n, rfl, rfl⟩, fun i m ys H hw => ?_⟩
  obtain ⟨e, rfl, rfl⟩ := hw
  by_cases hi : i < n
  · refine .inr ⟨hgo i hi, fun ys' H' => H' = H ∧ ys' = (List.range (i + 1)).filterMap f, fun ys' H' z => ⟨m - 1, by omega, by omega, z.1, z.2⟩, fun x H' hy => ?_⟩
    have hl : ((List.range i).filterMap f).length < sizeLine := Nat.lt_of_lt_of_le (Nat.lt_of_le_of_lt (fm_len f i) hi) hn
    exact hstep i hi x H' hy _ (fun ys' H' => H' = H ∧ ys' = (List.range (i + 1)).filterMap f) hl (by exact ⟨rfl, (fm_succ f i).symm⟩)
  · have ei : i = n := by omega
    subst ei
    exact .inl ⟨hstop, hcont⟩
theorem qturn_pure {t : Bool} {J : It} {gt : TG} {tt : TT} {te : TE} {σ0 : L2.St} {vs : List Nat} {Q : VK} {H2 : Hp} (n : Nat) (f : Nat → Bool) (hgo : ∀ i, i < n → J.go i H2) (hstop : J.stop n H2)
    (hstep : ∀ i, i < n → ∀ x H', J.yld i H2 x H' → ∀ Nx : Hp → Prop, (f i = t → Nx H2) → (f i ≠ t → Q (.bl (!t)) H2) →
      gt x (wipe σ0 vs) H' fun σ2 H3 => wipe σ2 vs = wipe σ0 vs ∧ tt σ2 H3 fun b H4 => if b = true then te σ2 H4 fun y H5 => ∃ k, y = .bl k ∧ (if k = t then Nx H5 else Q (.bl (!t)) H5) else Nx H4)
    (h1 : (∀ i, i < n → f i = t) → Q (.bl t) H2) (h2 : (∃ i, i < n ∧ f i ≠ t) → Q (.bl (!t)) H2) : ∃ W : Nat → Nat → Hp → Prop, (∃ m, W 0 m H2) ∧ QTurn t J gt tt te σ0 vs Q W := by
  refine ⟨fun i m H => i + m = n ∧ H = H2 ∧ ∀ j, j < i → f j = t, ⟨n, Nat.zero_add n, rfl, fun j hj => absurd hj (Nat.not_lt_zero j)⟩, fun i m H hw => ?_⟩
  obtain ⟨e, rfl, hf⟩ := hw
  by_cases hi : i < n
  · refine .inr ⟨hgo i hi, fun H' => H' = H ∧ f i = t, fun H' z => ⟨m - 1, by omega, by omega, z.1, fun j hj => ?_⟩, fun x H' hy => ?_⟩
    · by_cases hj2 : j < i
      · exact hf j hj2
      · have ej : j = i := by omega
        rw [ej]
        exact z.2
    · exact hstep i hi x H' hy (fun H' => H' = H ∧ f i = t) (fun z => by exact ⟨rfl, z⟩) fun z => h2 ⟨i, hi, z⟩
  · have ei : i = n := by omega
    subst ei
    exact .inl ⟨hstop, h1 hf⟩
def sumN (f : Nat → Int) : Nat → Int
  | 0 => 0
  | n + 1 => sumN f n + f n
theorem sturn_pure {J : It} {gt : TG} {tt : TT} {te : TE} {σ0 : L2.St} {vs : List Nat} {Q : VK} {H2 : Hp} (n : Nat) (f : Nat → Int) (hb : ∀ i, i < n → InLong (f i) ∧ InLong (sumN f i + f i)) (hgo : ∀ i, i < n → J.go i H2) (hstop : J.stop n H2)
    (hstep : ∀ i, i < n → ∀ x H', J.yld i H2 x H' → ∀ (t : Int) (Nx : Int → Hp → Prop), InLong (f i) → InLong (t + f i) → Nx (t + f i) H2 →
      gt x (wipe σ0 vs) H' fun σ2 H3 => wipe σ2 vs = wipe σ0 vs ∧ tt σ2 H3 fun b H4 => if b = true then te σ2 H4 fun y H5 => ∃ j, y = .int j ∧ InLong j ∧ InLong (t + j) ∧ Nx (t + j) H5 else Nx t H4)
    (hQ : Q (.int (sumN f n)) H2) : ∃ W : Nat → Nat → Int → Hp → Prop, (∃ m, W 0 m 0 H2) ∧ STurn J gt tt te σ0 vs Q W := by
  refine ⟨fun i m t H => i + m = n ∧ H = H2 ∧ t = sumN f i, ⟨n, Nat.zero_add n, rfl, rfl⟩, fun i m t H hw => ?_⟩
  obtain ⟨e, rfl, rfl⟩ := hw
  by_cases hi : i < n
  · refine .inr ⟨hgo i hi, fun t' H' => H' = H ∧ t' = sumN f (i + 1), fun t' H' z => ⟨m - 1, by omega, by omega, z.1, z.2⟩, fun x H' hy => ?_⟩
    exact hstep i hi x H' hy _ (fun t' H' => H' = H ∧ t' = sumN f (i + 1)) (hb i hi).1 (hb i hi).2 (by exact ⟨rfl, rfl⟩)
  · have ei : i = n := by omega
    subst ei
    exact .inl ⟨hstop, hQ⟩
/-- a comprehension whose turns leave the heap as it is but for the list -/
theorem lc_pure {J : It} {g : TG} {tt : TT} {te : TE} {vs : List Nat} {σ : L2.St} {H1 : Hp} {D : Addr} {Qd : Hp → Prop} (n : Nat) (f : Nat → Option V) (hn : n ≤ sizeLine) (hgo : ∀ i acc, i < n → J.go i (upd H1 D (.lst acc))) (hstop : ∀ acc, J.stop n (upd H1 D (.lst acc)))
    (hstep : ∀ i acc, i < n → ∀ x H', J.yld i (upd H1 D (.lst acc)) x H' → ∀ Nx : Hp → Prop, acc.length < sizeLine → Nx (upd H1 D (.lst (acc ++ (f i).toList))) →
      g x (wipe σ vs) H' fun σ2 H2 => wipe σ2 vs = wipe σ vs ∧ tt σ2 H2 fun b H3 => if b = true then te σ2 H3 fun y H4 => ∃ acc, H4 D = some (.lst acc) ∧ acc.length < sizeLine ∧ Nx (upd H4 D (.lst (acc ++ [y]))) else Nx H3)
    (hQ : Qd (upd H1 D (.lst ((List.range n).filterMap f)))) :
    ∃ W : Nat → Nat → Hp → Prop, (∃ m, W 0 m (upd H1 D (.lst []))) ∧ ∀ i m H, W i m H → (J.stop i H ∧ Qd H) ∨ (J.go i H ∧ ∃ Nx : Hp → Prop, (∀ H', Nx H' → ∃ m', m' < m ∧ W (i + 1) m' H') ∧ ∀ x H', J.yld i H x H' → g x (wipe σ vs) H' fun σ2 H2 => wipe σ2 vs = wipe σ vs ∧ tt σ2 H2 fun b H3 =>
      if b = true then te σ2 H3 fun y H4 => ∃ acc, H4 D = some (.lst acc) ∧ acc.length < sizeLine ∧ Nx (upd H4 D (.lst (acc ++ [y]))) else Nx H3) := by
  refine ⟨fun i m H => i + m = n ∧ H = upd H1 D (.lst ((List.range i).filterMap f)), ⟨n, Nat.zero_add n, rfl⟩, fun i m H hw => ?_⟩
  obtain ⟨e, rfl⟩ := hw
  by_cases hi : i < n
  · have hl : ((List.range i).filterMap f).length < sizeLine := Nat.lt_of_lt_of_le (Nat.lt_of_le_of_lt (fm_len f i) hi) hn
    refine .inr ⟨hgo i _ hi, fun H' => H' = upd H1 D (.lst ((List.range (i + 1)).filterMap f)), fun H' z => ⟨m - 1, by omega, by omega, z⟩, fun x H' hy => ?_⟩
    exact hstep i _ hi x H' hy (fun H' => H' = upd H1 D (.lst ((List.range (i + 1)).filterMap f))) hl (by rw [fm_succ])
  · have ei : i = n := by omega
    subst ei
    exact .inl ⟨hstop _, hQ⟩
/-- the walks over ranges, texts, tuples, lists that stand still -/
theorem fm_all {α β : Type} (xs : List α) (f : α → Option β) : (List.range xs.length).filterMap (fun (i : Nat) => (xs[i]?).bind f) = xs.filterMap f := by
  induction xs with
  | nil => rfl
  | cons x r ih =>
    rw [List.length_cons, List.range_succ_eq_map, List.filterMap_cons, List.filterMap_map, List.filterMap_cons]
    have e : ((fun i => ((x :: r)[i]?).bind f) ∘ Nat.succ) = fun (i : Nat) => (r[i]?).bind f := by
      funext i
      simp
    rw [e, ih]
    simp
theorem fm_map {α β : Type} (xs : List α) (f : α → β) : (List.range xs.length).filterMap (fun (i : Nat) => (xs[i]?).map f) = xs.map f := by
  have h := fm_all xs (fun x => some (f x))
  have e : (fun (i : Nat) => (xs[i]?).bind fun x => some (f x)) = fun (i : Nat) => (xs[i]?).map f := by
    funext i
    cases xs[i]? <;> rfl
  rw [e] at h
  rw [h]
  simp
theorem fm_some {β : Type} (n : Nat) (f : Nat → β) : (List.range n).filterMap (fun i => some (f i)) = (List.range n).map f := by simp
end XT

set_option maxRecDepth 100000
set_option maxHeartbeats 4000000
namespace SK
open PySem PySem.Spec PyProof.Rows
section
variable {prog : Program} {w : World} {A : Around} {κ : Type} [DecidableEq κ] {knd : KeyKind prog w κ}
/-- x is among the first i keys -/
def among (key : Nat → κ) (i : Nat) (x : κ) : Bool := (List.range i).any fun j => decide (key j = x)
theorem among_succ (key : Nat → κ) (i : Nat) (x : κ) : (among key i x || decide (x = key i)) = among key (i + 1) x := by
  unfold among
  rw [List.range_succ, List.any_append]
  congr 1
  simp only [List.any_cons, List.any_nil, Bool.or_false]
  exact decide_eq_decide.mpr ⟨Eq.symm, Eq.symm⟩
theorem setOf_as {h : Heap} {a : Addr} {S S' : κ → Bool} {n : Nat} (r : h.SetOf knd a S n) (e : ∀ k, S k = S' k) : h.SetOf knd a S' n := by
  have q : S = S' := funext e
  rw [← q]
  exact r
theorem setOf_keep {h h' : Heap} {a : Addr} {S : κ → Bool} {n : Nat} (r : h.SetOf knd a S n) (k : ∀ o, h.get? a = some o → h'.get? a = some o) : h'.SetOf knd a S n := by
  obtain ⟨o, es, ep, t, q, r⟩ := r
  exact ⟨o, es, ep, t, k o q, r⟩
variable {R : Result → Shared → Prop} {I : Addr} {fp wr : List Addr} {G : Array GenState → Array GenState → Prop} {n : Nat} {P : Nat → Value → Prop} {St : Nat → Shared → Prop}
/-- the turns of set(..): each key comes in; c counts those that are there -/
theorem turns (W : WalksS prog w A.in1 I fp wr G n P St) (D : Addr) (nD : D ∉ fp) (key : Nat → κ) (isK : ∀ i v, P i v → knd.is (key i) v = true ∧ v.scannable = true) (room : n + 1 < scanBound) :
    ∀ (left i c : Nat) (s : Shared), n - i = left → i ≤ n → c ≤ i → St i s → s.heap.SetOf knd D (among key i) c →
      (∀ s' c', c' ≤ n → Moved (D :: wr) G s s' → s'.heap.SetOf knd D (among key n) c' → R (.ok (.ret .none)) s') → codeAny (model prog w) A (.builtin "set.update.loop" ⟨[.ref D, .ref I], []⟩) R s := by
  have nw : D ∉ wr := fun z => nD (W.sub _ z)
  have more : ∀ b ∈ wr, b ∈ D :: wr := fun b z => List.mem_cons_of_mem _ z
  intro left
  induction left with
  | zero =>
    intro i c s el le lc at_i so fin
    obtain rfl : i = n := by omega
    refine codeAny_builtin PyProof.Rows.F.entry_set_update_loop ?_
    rw [Around.under_plainId PyProof.Rows.F.plain_set_update_loop _]
    show wpAny _ A.in1 (pyNext (.ref I) >>= _) _ _ s
    refine wpAny_bind (W.done s _ _ at_i fun s1 mv => ?_)
    exact wpAny_pure (fin s1 c lc (mv.mono more) (setOf_keep so fun o e => mv.heap D _ nw e))
  | succ left ih =>
    intro i c s el le lc at_i so fin
    have lt : i < n := by omega
    refine codeAny_builtin PyProof.Rows.F.entry_set_update_loop ?_
    rw [Around.under_plainId PyProof.Rows.F.plain_set_update_loop _]
    show wpAny _ A.in1 (pyNext (.ref I) >>= _) _ _ s
    refine wpAny_bind (W.item i s _ _ lt at_i fun v s1 pv at1 mv => ?_)
    obtain ⟨k1, k2⟩ := isK i v pv
    have so1 := setOf_keep so fun o e => mv.heap D o nw e
    show wpAny _ A.in1 (holding [v] (setAdd D v) >>= _) _ _ s1
    refine wpAny_bind (wpAny_holding ?_)
    unfold setAdd
    refine wpAny_holding (wpAny_bind (knd.pyHash k1 ?_))
    refine wpAny_setAddHashed_of (s := { s1 with toks := s1.toks + 1 }) k1 k2 so1 (by omega) fun h2 sb so2 => ?_
    refine wpAny_pure ⟨plainId_quiet PyProof.Rows.F.plain_set_update_loop _, ih (i + 1) (if among key i (key i) then c else c + 1) _ (by omega) lt (by split <;> omega) (W.frame _ s1 _ _ at1 (Nat.le_succ _) fun b hb o e => ?_) (setOf_as so2 fun x => among_succ key i x) fun s3 c3 l3 mv3 so3 => ?_⟩
    · rw [sb.2 b fun z => nD (z ▸ hb)]
      exact e
    · refine fin s3 c3 l3 (Moved.trans W.gtrans ((mv.mono more).then_heap (Nat.le_succ _) fun b o nb e => ?_) mv3) so3
      rw [sb.2 b fun z => nb (by rw [z]; exact List.mem_cons_self ..)]
      exact e
end
section
variable {prog : Program} {w : World} {A : Around} {κ : Type} [DecidableEq κ] {knd : KeyKind prog w κ} {E : Value → Shared → Prop} {s : Shared}
abbrev bare (led : Bool) : Obj := ⟨.type "set", none, .set #[] 0 (.fresh 0 0 led), #[]⟩
theorem call_set_of_list {l : Addr} {its : Array Value} {Q : Value → Shared → Prop} (key : Nat → κ) (calm : A.handled = none) (isl : s.heap.IsList l its) (isK : ∀ i v, its[i]? = some v → knd.is (key i) v = true ∧ v.scannable = true) (room : its.size + 1 < scanBound)
    (h : ∀ (h' : Heap) (tk c : Nat), h'.SetOf knd s.heap.objs.size (among key its.size) c → c ≤ its.size → (∀ b o, b < s.heap.objs.size → s.heap.get? b = some o → h'.get? b = some o) → Q (.ref s.heap.objs.size) { s with heap := h', toks := tk }) :
    wpAny (model prog w) A (call (.type "set") [.ref l]) Q E s := by
  obtain ⟨_, _, hmro⟩ := PySem.F.called_set.mro
  have f1 := PySem.F.called_set.made
  have f2 := PySem.F.called_set.sub
  have f3 := PySem.F.called_set.notType
  have f4 := PySem.F.called_set.canCreate
  have f5 := PySem.F.typeCall_set_1 (.ref l)
  refine wpAny_call (codeAny_of_tree (?_ : wpAny _ _ (callAny (.type "set") _) _ _ _))
  refine wpAny_pure ⟨Code.quiet_builtin _ (by decide +kernel), codeAny_builtin PySem.F.entry_type_call ?_⟩
  rw [Around.under_plain (weight_type_call_type "set" [.ref l] []) rfl]
  repeat (any_goals (first | assumption | wp_step))
  generalize eD : s.heap.objs.size = D at *
  refine codeAny_mono (code_set_new_1 (.ref l) (E := E) (Q₁ := fun v t => ∃ led : Bool, v = .ref D ∧ t = { s with heap := s.heap.push (bare led) }) fun led => ⟨led, by rw [eD], rfl⟩) fun r t hr => ?_
  rcases r with e | fl
  · exact hr
  cases fl with
  | ret v =>
    obtain ⟨led, rfl, rfl⟩ := hr
    have atD : (s.heap.push (bare led)).get? D = some (bare led) := by
      rw [← eD]
      exact Heap.get?_push_size _ rfl
    have isS : Shared.TypeIs { s with heap := s.heap.push (bare led) } (.ref D) "set" := ⟨_, atD, rfl⟩
    have f6 := PySem.F.called_set.init.lookup
    have f7 := PySem.F.called_set.init.bind (.ref D)
    repeat (any_goals (first | assumption | wp_step))
    refine codeAny_mono (codeAny_call_builtin (R := wants (fun r t => r = .none ∧ ∃ h' tk c, t = { s with heap := h', toks := tk } ∧ h'.SetOf knd D (among key its.size) c ∧ c ≤ its.size ∧ (∀ b o, b < D → s.heap.get? b = some o → h'.get? b = some o)) E)
      PySem.F.called_set.init.plain PySem.F.entry_set_init (check_set_init_1 isS ?_)) fun r2 t2 hr2 => ?_
    · have isl1 : (s.heap.push (bare led)).IsList l its := isl.push _
      obtain ⟨ob, hob, hc, nl, hd⟩ := isl1
      have ltl : l < D := by
        obtain ⟨o, ho, _⟩ := isl
        rw [← eD]
        exact Heap.lt_size ho
      obtain ⟨ocls, odict, odata, oslots⟩ := ob
      simp only at hc hd
      subst hc hd
      have g1 := PySem.F.sub_list_set
      have g2 := PySem.F.sub_list_frozenset
      have g3 : (Value.type "list" == Value.type "dict") = false := by decide
      have isl2 : (s.heap.push (bare led)).IsList l its := ⟨_, hob, rfl, nl, rfl⟩
      unfold Builtin.«set.__init__» noKeywords Builtin.Frozenset.updateFrom
      generalize hPI : pyIter = PI
      wp_walk
      subst hPI
      refine wpAny_pyIter_list isl2 (wpAny_bind (wpAny_runValue ?_))
      have calm3 : A.in1.in1.in1.handled = none := by simp [calm]
      have sz : (s.heap.push (bare led)).objs.size = D + 1 := by rw [Heap.size_push, eD]
      have nI : l ≠ (s.heap.push (bare led)).objs.size := by
        rw [sz]
        exact Nat.ne_of_lt (Nat.lt_succ_of_lt ltl)
      have nf : D ∉ [(s.heap.push (bare led)).objs.size, l] := by
        rw [sz]
        intro z
        rcases List.mem_cons.mp z with z | z
        · omega
        · exact absurd (List.mem_singleton.mp z) (Nat.ne_of_gt ltl)
      refine turns ((Walks.list calm3 _ l nI its).toS) D nf key isK room (its.size - 0) 0 0 _ (by omega) (Nat.zero_le _) (Nat.le_refl _) ⟨⟨_, Heap.get?_push_size _ rfl, rfl, rfl⟩, isl2.push _⟩ ?_ ?_
      · have atD2 := Heap.get?_push_of_some { cls := .type "list_iterator", data := .fields #[.ref l, .int 0 0] } atD
        exact setOf_as ((setObjOf_fresh (knd := knd) led).setOf atD2 (by unfold scanBound; omega)) fun _ => rfl
      · intro t1 c lc mv so
        obtain ⟨h', g', d', tk', os'⟩ := t1
        obtain rfl : g' = s.gens := mv.gens
        obtain rfl : d' = s.drawn := mv.drawn
        obtain rfl : os' = s.os := mv.os
        show wpAny _ _ _ _ _ _
        refine wpAny_pure ?_
        show wpAny _ _ (ret Value.none) _ _ _
        refine wpAny_pure ⟨rfl, h', tk', c, rfl, so, lc, fun b o lb e => mv.heap b o (fun z => ?_) (Heap.get?_push_of_some _ (Heap.get?_push_of_some _ e))⟩
        rcases List.mem_cons.mp z with z | z
        · exact absurd z (Nat.ne_of_lt lb)
        · have e2 := List.mem_singleton.mp z
          rw [sz] at e2
          exact absurd e2 (Nat.ne_of_lt (Nat.lt_succ_of_lt lb))
    · rcases r2 with e | fl2
      · exact hr2
      cases fl2 with
      | ret r =>
        obtain ⟨rfl, h', tk, c, rfl, so, lc, kp⟩ := hr2
        repeat (any_goals (first | assumption | wp_step))
        exact h _ _ c so lc kp
      | _ => exact hr2.elim
  | _ => exact hr.elim
end
end SK

set_option maxRecDepth 100000
set_option maxHeartbeats 4000000
namespace SK
open PySem PySem.Spec PyProof.Rows L2
variable {X : Cx} {o : Expr} {p pos apos mpos : Pos} {td : TE}
/-- sum(o.values()), areI -/
def tSumVals (td : TE) : TE := fun σ H Q => td σ H fun x H1 => ∃ (a : Addr) (kvs : List (Key × V)) (is : List Int), x = V.ref a ∧ H1 a = some (.dK kvs) ∧ kvs.map (·.2) = is.map V.int ∧ (∀ j, j < is.length → InLong (is.getD j 0) ∧ InLong (is.take (j + 1)).sum) ∧ Q (.int is.sum) H1
abbrev view (a : Addr) : Obj := ⟨.type "dict_values", none, .fields #[.ref a], #[]⟩
theorem pe_sumVals (calm : X.calm = true) (hg : Gl X "sum") (hm : X.mg "sum" = none) (hd : PE X o td) (hbase : attributeBase o "values" X.env (eval o X.env) = eval o X.env := by rfl) (hline : (apos.endLine == mpos.line) = true := by rfl)
    (one : starEach [Expr.Call (.Attribute o "values" apos) [] [] mpos] X.env = [(false, eval (Expr.Call (.Attribute o "values" apos) [] [] mpos) X.env)] := by rfl) : PE X (.Call (.Name "sum" p) [.Call (.Attribute o "values" apos) [] [] mpos] [] pos) (tSumVals td) := by
  refine ⟨fun pins s σ H Q I h => ?_⟩
  refine wpAny_Call_Name_kw (ld_blt I hg hm (u := .builtin "sum") (by first | rfl | decide +kernel) ?_ (by first | decide +kernel | decide) (by first | decide +kernel | decide))
  rw [one]
  refine PySem.callWith_builtin1 (wpAny_Call_method0_late hbase hline (thn (hd.run pins s σ H _ I h) fun v t ⟨x, G, J, r1, a, kvs, is, ex, ha, hv, fit, q⟩ => ?_))
  subst ex
  obtain rfl : v = Value.ref a := r1
  obtain ⟨_, nsys, vs, rel, dof⟩ := dk_of J.hok ha
  obtain ⟨ep, dat⟩ := dof.dictAt
  have dat' := dat
  obtain ⟨ob, es, at_a, ex, _, _, _, _⟩ := dat'
  refine ⟨"dict", "dict.values", F.plainAttrs_dict, F.slot_dict_values, F.type_dict_values, ⟨ob, at_a, ex.1⟩, fun b e => ?_, Calls.callWith_builtin rfl (PySem.evalArgs_none ?_)⟩
  · cases e
    exact ⟨ob, at_a, ex.2.1⟩
  refine call_meetsIn F.slot_dict_values ⟨ob, at_a, ex.1⟩ F.entry_dict_values (F.args_dict_values_1 _) (meets_dict_values (mixKind X.prog X.w) a nsys) ⟨⟨vs, dof⟩, ?_⟩
  have keep : ∀ b u, t.heap.get? b = some u → (t.heap.push (view a)).get? b = some u := fun b u e => Heap.get?_push_of_some _ e
  have lv : vs.length = is.length := by
    have e1 := congrArg List.length hv
    simp only [List.length_map] at e1
    rw [← e1, KV.length rel]
  have areI : ∀ (i : Nat) (v : Value), (∃ k, vs[i]? = some (k, v)) → ∃ t, v = Value.int (is.getD i 0) t := fun i v ⟨k, hk⟩ => by
    obtain ⟨x, h1, h2⟩ := KV.at' rel hk
    have e1 : (kvs.map (·.2))[i]? = some x := by
      rw [List.getElem?_map, h1]
      rfl
    rw [hv, List.getElem?_map] at e1
    obtain ⟨j, hj, rfl⟩ := Option.map_eq_some_iff.mp e1
    obtain ⟨t, e3⟩ := h2
    exact ⟨t, by rw [e3, List.getD_eq_getElem?_getD, hj]; rfl⟩
  have lt := Heap.lt_size at_a
  have sz : (t.heap.push (view a)).objs.size = t.heap.objs.size + 1 := Heap.size_push _ _
  refine call_sum_walk (wpAny_pyIter_values (v := t.heap.objs.size) (d := a) ⟨_, Heap.get?_push_size _ rfl, rfl, rfl⟩ (dat.keep keep) ?_)
  refine ⟨_, _, _, _, _, _, fun i => is.getD i 0, rfl, Walks.dictValues (knd := mixKind X.prog X.w) (A := X.A.in1) (J.ok.hd calm) (t.heap.push (view a)).objs.size a (by rw [sz]; exact Nat.ne_of_lt (Nat.lt_succ_of_lt lt)) vs ep,
    ⟨⟨_, Heap.get?_push_size _ rfl, rfl, rfl⟩, (dat.keep keep).keep fun b u e => Heap.get?_push_of_some _ e⟩, fun b hb => ?_, areI, fun j hj => ?_, fun h' tk t' hk => ?_⟩
  · show b < ((t.heap.push _).push _).objs.size
    rw [Heap.size_push, Heap.size_push]
    rw [sz] at hb
    rcases List.mem_cons.mp hb with e | hb
    · rw [e]
      exact Nat.lt_succ_self _
    · rw [List.mem_singleton.mp hb]
      exact Nat.lt_succ_of_lt (Nat.lt_succ_of_lt lt)
  · rw [lv] at hj
    rw [preSum_getD]
    exact fit j hj
  · rw [preSum_getD, lv, List.take_length]
    refine ⟨.int _, G, J.kept (t' := tk) fun b u e => hk b u (fun hmem => ?_) (Heap.get?_push_of_some _ (keep b u e)), ⟨_, rfl⟩, q⟩
    have e1 := List.mem_singleton.mp hmem
    have e2 := Heap.lt_size e
    rw [sz] at e1
    rw [e1] at e2
    exact absurd e2 (Nat.not_lt.mpr (Nat.le_succ _))
end SK

set_option maxRecDepth 100000
set_option maxHeartbeats 4000000
namespace SK
open PySem PySem.Spec PyProof.Rows L2
variable {X : Cx}
/-- name = {..} on one line, the name a local -/
theorem ps_setDc {i : Nat} {y : Str} {py : Pos} {kx vx tg iter : Expr} {ifs : List Expr} {scope : Scope} {own : List (Str × Nat)} {pos spos : Pos} {wi : TI} {g : TG} {tt : TT} {tk tv : TE} (calm : X.calm = true) (nd : X.N.Nodup) (atY : X.N[i]? = some y) (loc : X.env.scope.names.lookup y = some .local)
    (hsw : swapsWith (.DictComp kx vx [⟨tg, iter, ifs, 0⟩] scope pos) (some (.Name y py)) spos.line X.env = pure true) (hi : PI X tg iter wi) (ok : BlkOk X.N X.env.scope scope own)
    (pg : ∀ (s : Shared) (H : Hp) (C : Addr) (cl : List (Str × Addr)) (fp : List Addr), PG (X.blk s H scope (compEnvC scope cl C X.env) fp) tg g) (pt : ∀ (s : Shared) (H : Hp) (C : Addr) (cl : List (Str × Addr)) (fp : List Addr), PTs (X.blk s H scope (compEnvC scope cl C X.env) fp) ifs tt)
    (pk : ∀ (s : Shared) (H : Hp) (C : Addr) (cl : List (Str × Addr)) (fp : List Addr), PE (X.blk s H scope (compEnvC scope cl C X.env) fp) kx tk) (pe : ∀ (s : Shared) (H : Hp) (C : Addr) (cl : List (Str × Addr)) (fp : List Addr), PE (X.blk s H scope (compEnvC scope cl C X.env) fp) vx tv)
    (hs : ∀ x, foldedSetIterable iter X.env x = pure x := by intro _; rfl) : PS X (.Assign [.Name y py] (.DictComp kx vx [⟨tg, iter, ifs, 0⟩] scope pos) spos) (tAsg (tDc wi g tt tk tv (own.map (·.2))) (gName i)) := by
  refine ⟨fun pins s σ H D I h => ?_⟩
  rw [exec_Assign_Name_used _ _ _ _ hsw]
  refine wpAny_bind (wpAny_standAt (wpAny_bind ?_))
  have h : tDc wi g tt tk tv (own.map (·.2)) σ H fun x H1 => gName i x σ H1 D.nx := h
  refine wpAny_bind (thn (dc_core (use := some (assign (.Name y py) X.env)) (Qf := fun _ t => SP X pins D .next t) calm nd I hi ok pg pt pk pe hs h fun L C t m G J q hn f => ?_) fun _ t hq => wpAny_pure (wpAny_pure hq))
  show wpAny _ _ (assign (.Name y py) X.env (.ref L)) _ _ _
  refine wpAny_assign_Name (store_ok2 (v := V.ref L) J nd atY (.inl loc) rfl (fun t2 J2 ⟨a, sb, ha⟩ => ?_) (.inr loc))
  obtain ⟨f0, f1, _, f3, f4, f5⟩ := f
  have ne : C ≠ a := ha.elim (fun z => by rw [z]; exact f1) fun z e => f4 y a z e.symm
  exact ⟨m, hn.sameBut sb ne, fun t3 sb3 => ⟨_, G, J2.turned (t' := t2.toks) (fun b o hb e => (sb3.2 b hb).trans e) f0 f1 f3 f4 f5, q⟩⟩
theorem sw_dict {kx vx : Expr} {gs : List Comprehension} {scope : Scope} {pos py : Pos} {y : Str} {l : Nat} {env : Env} (fk : env.scope.kind = .function) (loc : env.scope.names.lookup y = some .local) (line : (py.line == pos.line) = true)
    (free : (scope.names.any fun (n, k) => n == y && (k == .local || k == .cell)) = false) : swapsWith (.DictComp kx vx gs scope pos) (some (.Name y py)) l env = pure true := by
  have e1 : env.kindOf y = some .local := loc
  have e2 : env.blockKind = .function := by
    unfold Env.blockKind
    rw [fk]
    rfl
  unfold swapsWith
  simp only [e1, e2, free, Expr.pos, line]
  rfl
end SK

set_option maxRecDepth 100000
set_option maxHeartbeats 4000000
namespace K2
open PySem PySem.Spec PyProof.Rows L2
open XT (pt_chain3)
open SkE (pmk_own1)
def topS (i : Nat) : Stmt := PySem.Challenge.pw_keepwright_k02_texts_cut_in_pieces.main.body.getD i (.Pass ⟨0, 0, 0, 0⟩)
/-- what stands at the module's names -/
structure Txt (K : PySem.W.Frag) (mg : Str → Option Value) (C : Addr) : Prop where
  x_BadSize : PySem.W.excIn K C [.type "ValueError", .type "Exception", .type "BaseException", .type "object"] "ValueError.__new__" = true
  g_BadSize : mg "BadSize" = some (.ref C)
  k_BadSize : PySem.W.keepIn K (.ref C) = true
  b_BadSize : PySem.W.subIn K (.ref C) (.type "BaseException") = some true
  t_BadSize : PySem.W.typeIn K (.ref C) = some (.type "type")
  z_len : mg "len" = none
  z_range : mg "range" = none
  z_tuple : mg "tuple" = none
  z_sum : mg "sum" = none
  z_any : mg "any" = none
  z_ord : mg "ord" = none
  z_set : mg "set" = none
  z_min : mg "min" = none
  z_max : mg "max" = none
  z_int : mg "int" = none
  z_abs : mg "abs" = none
  z_list : mg "list" = none
  z_dict : mg "dict" = none
local macro_rules | `(tactic| walk_at "ev") => `(tactic| simp only [tSeq, tIfS, tNot, XT.tChain3, rI0, tC, tVar, tRet, tTup, tLst, tCons, tNil, tJs, tFmt, tNext, tTest, tOp, tUn, rI, rU, tCall, tCB, tAnd, tOr, tB, tDrop, tAsg, gName, tAug, tPar, L2.start, List.map_cons, List.map_nil, List.length_cons, List.length_nil, Nat.reduceAdd, Nat.reduceSub, Nat.sub_self, List.replicate_zero, List.append_nil, List.replicate_succ, List.cons_append, List.nil_append,
  List.getElem?_cons_zero, List.getElem?_cons_succ, Option.some.injEq, exists_eq_left', exists_eq_left, V.int.injEq, V.str.injEq, V.bl.injEq, V.ref.injEq, List.set_cons_zero, List.set_cons_succ, List.cons.injEq, and_true, true_and, reduceCtorEq, false_and, exists_false, false_or, or_false, exists_and_left, decide_eq_true_eq, Bool.not_eq_true', decide_eq_false_iff_not, Bool.not_false, Bool.not_true, if_true, if_false, Bool.false_eq_true, ↓reduceIte])
open XT (Sm pe_msg)
section
variable {P : Program} {w : World} {K : PySem.W.Frag} {mg : Str → Option Value} {base : Heap} {C : Addr}
abbrev s_check_bounds : Stmt := topS 12
theorem sc_check_bounds : FnScope ["least", "most", "window"] ["least", "most", "window"] (defScope s_check_bounds) := ⟨rfl, rfl, rfl, by decide +kernel, rfl, by decide +kernel, by decide +kernel⟩
def sp_check_bounds (C : Addr) : Sp := fun vs H Q E => ∃ l m w : Int, vs = [.int l, .int m, .int w] ∧ Sm l ∧ Sm m ∧ Sm w ∧
  ((0 < w ∧ w ≤ l ∧ l ≤ m) → ∀ p, H p = none → Q (.ref p) (upd H p (.tup [.int l, .int m, .int w]))) ∧ (¬ (0 < w ∧ w ≤ l ∧ l ≤ m) → E (.ref C) none H)
theorem ok_check_bounds {f : Addr} {fd : FuncData} {k : Nat} (F : Fun K "check_bounds" "check_bounds" s_check_bounds f fd) (T : Txt K mg C) : FnOk P w K mg base (L2.CX P w) (k + 1) f fd ["least", "most", "window"] (sp_check_bounds C) := by
  refine F.okX sc_check_bounds (fun vs H Q E h => ?_) (fun cdv A outer s H vs Q E hr h => ?_)
  · obtain ⟨l, m, w, rfl, _⟩ := h
    rfl
  · obtain ⟨l, m, w, rfl, sl, sm, sw, h1, h2⟩ := h
    refine ⟨_, (pss_cons (ps_if (pt_not (pt_chain3 op_lt op_le op_le pe_int (pv 2) (pv 0) (pv 1)))
      (pss_one (ps_raise rfl (takes_of rfl rfl rfl rfl) (pmk_own1 PySem.F.excBase_ValueError T.x_BadSize T.g_BadSize T.k_BadSize (raises_own T.b_BadSize T.t_BadSize) (by rfl) (pe_msg (.cons (.lit (by decide)) (.cons (.var (pv 0)) (.cons (.lit (by decide)) (.cons (.var (pv 1)) (.cons (.lit (by decide)) (.cons (.var (pv 2)) .nil)))))))))) pss_nil)
    (pss_one (ps_ret (pe_tup (pa_cons (pv 0) (pa_cons (pv 1) (pa_cons (pv 2) pa_nil))))))), ?_⟩
    walk_at "ev"
    trace_state
    by_cases c1 : 0 < w
    · by_cases c2 : w ≤ l
      · by_cases c3 : l ≤ m
        · rw [if_pos c1, if_pos c2, if_neg (fun z => z c3)]
          exact ⟨by decide, h1 ⟨c1, c2, c3⟩⟩
        · rw [if_pos c1, if_pos c2, if_pos c3]
          exact ⟨⟨sl, sm, sw⟩, fun _ => h2 fun z => c3 z.2.2⟩
      · rw [if_pos c1, if_neg c2]
        exact ⟨⟨sl, sm, sw⟩, fun _ => h2 fun z => c2 z.2.1⟩
    · rw [if_neg c1]
      exact ⟨⟨sl, sm, sw⟩, fun _ => h2 fun z => c1 z.1⟩
end
end K2

set_option maxRecDepth 100000
set_option maxHeartbeats 4000000
namespace K2
open PySem PySem.Spec PyProof.Rows L2
open XT (pt_chain3)
open SkE (pmk_own1)
local macro_rules | `(tactic| walk_at "ev") => `(tactic| simp only [tSeq, tIfS, tNot, XT.tChain3, rI0, tC, tVar, tRet, tTup, tLst, tCons, tNil, tJs, tFmt, tNext, tTest, tOp, tUn, rI, rU, tCall, tCB, tAnd, tOr, tB, tDrop, tAsg, gName, tAug, tPar, ipI, tBM, rAppend, L2.start, List.map_cons, List.map_nil, List.length_cons, List.length_nil, Nat.reduceAdd, Nat.reduceSub, Nat.sub_self, List.replicate_zero, List.append_nil, List.replicate_succ, List.cons_append, List.nil_append,
  List.getElem?_cons_zero, List.getElem?_cons_succ, Option.some.injEq, exists_eq_left', exists_eq_left, V.int.injEq, V.str.injEq, V.bl.injEq, V.ref.injEq, List.set_cons_zero, List.set_cons_succ, List.cons.injEq, and_true, true_and, reduceCtorEq, false_and, exists_false, false_or, or_false, exists_and_left, decide_eq_true_eq, Bool.not_eq_true', decide_eq_false_iff_not, Bool.not_false, Bool.not_true, if_true, if_false, Bool.false_eq_true, ↓reduceIte])
open XT (Sm pe_msg)
section
variable {P : Program} {w : World} {K : PySem.W.Frag} {mg : Str → Option Value} {base : Heap} {C : Addr}
/-! places_of: slots pieces=0 places=1 place=2 piece=3 -/
abbrev s_places_of : Stmt := topS 16
theorem sc_places_of : FnScope ["pieces", "places", "place", "piece"] ["pieces"] (defScope s_places_of) := ⟨rfl, rfl, rfl, by decide +kernel, rfl, by decide +kernel, by decide +kernel⟩
/-- the signs of the first i texts -/
def lenN (xs : List Str) (i : Nat) : Nat := ((xs.take i).map Str.length).sum
theorem lenN_succ {xs : List Str} {i : Nat} {x : Str} (h : xs[i]? = some x) : lenN xs (i + 1) = lenN xs i + x.length := by
  unfold lenN
  rw [List.take_add_one, h]
  simp
def placesV (xs : List Str) : List V := (List.range xs.length).map fun i => .int (lenN xs (i + 1) : Nat)
theorem range_map_succ {α : Type} (f : Nat → α) (i : Nat) : (List.range (i + 1)).map f = (List.range i).map f ++ [f i] := by
  rw [List.range_succ, List.map_append]; rfl
/-- every table of Ps is a table -/
def Tb (Ps : List Addr) (H : Hp) : Prop := ∀ P ∈ Ps, GxR.TabG H P
/-- what isn't a table of Ps stays; tables stay tables -/
def Gw (Ps : List Addr) (H H' : Hp) : Prop := Tb Ps H' ∧ ∀ b o, b ∉ Ps → H b = some o → H' b = some o
variable {Ps : List Addr}
theorem Tb.not {H : Hp} (t : Tb Ps H) {a : Addr} {o : HO} (h : H a = some o) (n : ∀ ps, o ≠ .tbl ps) : a ∉ Ps := fun m => by
  obtain ⟨ps, e, _⟩ := t a m
  rw [h] at e
  exact n ps (Option.some.inj e)
theorem Tb.none {H : Hp} (t : Tb Ps H) {a : Addr} (h : H a = none) : a ∉ Ps := fun m => by
  obtain ⟨ps, e, _⟩ := t a m
  rw [h] at e
  cases e
theorem Gw.refl {H : Hp} (t : Tb Ps H) : Gw Ps H H := ⟨t, fun _ _ _ e => e⟩
theorem Gw.trans {H H' H'' : Hp} (g : Gw Ps H H') (g' : Gw Ps H' H'') : Gw Ps H H'' := ⟨g'.1, fun b o n e => g'.2 b o n (g.2 b o n e)⟩
theorem Tb.upd {H : Hp} {l : Addr} {o : HO} (t : Tb Ps H) (n : l ∉ Ps) : Tb Ps (upd H l o) := fun P hP => by
  obtain ⟨ps, e, h⟩ := t P hP
  have ne : P ≠ l := fun z => n (by rw [← z]; exact hP)
  exact ⟨ps, by rw [upd_ne ne]; exact e, h⟩
theorem Gw.new {H H' : Hp} {l : Addr} {o : HO} (g : Gw Ps H H') (n : H' l = none) : Gw Ps H (upd H' l o) :=
  ⟨g.1.upd (g.1.none n), fun b u nb e => by
    have e' := g.2 b u nb e
    rw [upd_ne (ne_of_none e' n)]
    exact e'⟩
/-- an object that has come since is written -/
theorem Gw.set {H H' : Hp} {l : Addr} {o : HO} (g : Gw Ps H H') (n : H l = none) (nl : l ∉ Ps) : Gw Ps H (upd H' l o) :=
  ⟨g.1.upd nl, fun b u nb e => by
    rw [upd_ne (ne_of_none e n)]
    exact g.2 b u nb e⟩
theorem Gw.tab {H H' H'' : Hp} {p : Addr} (g : Gw Ps H H') (hp : p ∈ Ps) (t : GxR.Tabbed p H' H'') : Gw Ps H H'' := by
  refine ⟨fun P hP => ?_, fun b o nb e => ?_⟩
  · by_cases e : P = p
    · subst e
      exact t.1
    · obtain ⟨ps, h, k⟩ := g.1 P hP
      exact ⟨ps, by rw [t.2 P e]; exact h, k⟩
  · rw [t.2 b (fun z => nb (z ▸ hp))]
    exact g.2 b o nb e
theorem Gw.rd {H H' : Hp} {a : Addr} {u : HO} (g : Gw Ps H H') (t : Tb Ps H) (nu : ∀ ps, u ≠ .tbl ps) (h : Rd H a u) : Rd H' a u :=
  h.elim (fun h => .inl (g.2 _ _ (t.not h nu) h)) fun ⟨o, h⟩ => .inr ⟨o, g.2 _ _ (t.not h fun ps z => by cases z) h⟩
theorem Gw.sqL {K : PySem.W.Frag} {H H' : Hp} {a : Addr} {xs : List V} (g : Gw Ps H H') (t : Tb Ps H) (h : SqL K H a xs) : SqL K H' a xs := h.elim (fun h => .inl (g.rd t (fun _ z => by cases z) h)) .inr
theorem Gw.sqT {K : PySem.W.Frag} {H H' : Hp} {a : Addr} {xs : List V} (g : Gw Ps H H') (t : Tb Ps H) (h : SqT K H a xs) : SqT K H' a xs := h.elim (fun h => .inl (g.rd t (fun _ z => by cases z) h)) .inr
theorem Gw.none {H H' : Hp} {a : Addr} (g : Gw Ps H H') (t : Tb Ps H) (h : H' a = none) : H a = none := by
  cases e : H a with
  | none => rfl
  | some o =>
    have na : a ∉ Ps := g.1.none h
    rw [g.2 a o na e] at h
    cases h
theorem upd_none {H : Hp} {l p : Addr} {o : HO} (h : upd H l o p = none) : H p = none ∧ p ≠ l := by
  by_cases e : p = l
  · subst e
    rw [upd_same] at h
    cases h
  · rw [upd_ne e] at h
    exact ⟨h, e⟩
/-- a tuple that has come -/
def NewT (Ps : List Addr) (H : Hp) (xs : List V) (Q : VK) : Prop := ∀ H' p, Gw Ps H H' → H p = none → H' p = some (.tup xs) → Q (.ref p) H'
def NewL (Ps : List Addr) (H : Hp) (xs : List V) (Q : VK) : Prop := ∀ H' p, Gw Ps H H' → H p = none → H' p = some (.lst xs) → Q (.ref p) H'
def sp_places_of (K : PySem.W.Frag) (Ps : List Addr) : Sp := fun vs H Q E => ∃ (a : Addr) (xs : List Str), vs = [.ref a] ∧ SqL K H a (xs.map V.str) ∧ xs.length ≤ 1000 ∧ (∀ x ∈ xs, x.length ≤ 1000) ∧ Tb Ps H ∧ NewT Ps H (placesV xs) Q
theorem ok_places_of {f : Addr} {fd : FuncData} {k : Nat} (F : Fun K "places_of" "places_of" s_places_of f fd) (T : Txt K mg C) : FnOk P w K mg base (L2.CX P w) (k + 1) f fd ["pieces"] (sp_places_of K Ps) := by
  refine F.okX sc_places_of (fun vs H Q E h => ?_) (fun cdv A outer s H vs Q E hr h => ?_)
  · obtain ⟨a, xs, rfl, _⟩ := h
    rfl
  · obtain ⟨a, xs, rfl, hx, hn, hl, tb, hq⟩ := h
    refine ⟨_, (pss_cons (ps_set (i := 1) sc_places_of.nd rfl (.inl rfl) (pe_lst pa_nil))
    (pss_cons (ps_set (i := 2) sc_places_of.nd rfl (.inl rfl) pe_int)
    (pss_cons (ps_for (passes_of rfl) rfl (pi_list (pv 0)) (pg_name (i := 3) sc_places_of.nd rfl (.inl rfl))
      (pss_cons (ps_aug (i := 2) sc_places_of.nd rfl (.inl rfl) (pe_callB call_len_str (by rfl) T.z_len (by decide +kernel) (pa_cons (pv 3) pa_nil)) ip_add)
    (pss_one (ps_expr (pe_bm PySem.F.plainAttrs_list PySem.F.slot_list_append PySem.F.type_list_append mt_append (pv 1) (pa_cons (pv 2) pa_nil))))))
    (pss_one (ps_ret (pe_callTy call_tuple_of (by rfl) T.z_tuple (by decide +kernel) (pa_cons (pv 1) pa_nil))))))), ?_⟩
    walk_at "ev"
    refine ⟨Nat.zero_le _, fun l hl0 => ⟨.ref a, rfl, a, rfl, ⟨_, ((Gw.refl tb).new hl0).sqL tb hx⟩, for_list (xs := xs.map V.str) (fun i σ H' => (∃ z, σ = [some (.ref a), some (.ref l), some (.int (lenN xs i : Nat)), z]) ∧ H' = upd H l (.lst ((List.range i).map fun j => .int (lenN xs (j + 1) : Nat)))) ⟨⟨_, rfl⟩, rfl⟩ ?_ ?_ ?_⟩⟩
    · rintro i σ H' hi ⟨_, rfl⟩
      exact ((Gw.refl tb).new hl0).sqL tb hx
    · rintro i x σ H' hi ⟨⟨z, rfl⟩, rfl⟩
      rw [List.getElem?_map] at hi
      obtain ⟨y, hy, rfl⟩ := Option.map_eq_some_iff.mp hi
      walk_at "ev"
      have hy' : y.length ≤ 1000 := hl y (List.mem_of_getElem? hy)
      have hi2 : i < xs.length := (List.getElem?_eq_some_iff.mp hy).1
      have e1 : ((lenN xs i : Nat) : Int) + (y.length : Nat) = (lenN xs (i + 1) : Nat) := by
        rw [lenN_succ hy]
        omega
      refine ⟨Nat.le_trans hy' (by decide), .inl ⟨rfl, _, SqL.of upd_same⟩, _, upd_same, ?_, ⟨e1, _, rfl⟩, ?_⟩
      · rw [List.length_map, List.length_range]
        exact Nat.lt_of_lt_of_le (Nat.lt_of_lt_of_le hi2 hn) (by decide)
      · rw [upd_upd, e1, range_map_succ]
    · rintro σ H' ⟨⟨z, rfl⟩, rfl⟩
      walk_at "ev"
      refine ⟨_, .inl ⟨SqL.of upd_same, fun p hp => ?_⟩⟩
      rw [List.length_map]
      exact hq _ p (((Gw.refl tb).new hl0).new (by rw [List.length_map] at hp; exact hp)) (upd_none hp).1 upd_same
end
end K2

set_option maxRecDepth 100000
set_option maxHeartbeats 4000000
namespace K2
open PySem PySem.Spec PyProof.Rows L2
open XT (pt_chain3)
open SkE (pmk_own1)
local macro_rules | `(tactic| walk_at "ev") => `(tactic| simp only [tSeq, tIfS, tNot, XT.tChain3, rI0, tC, tVar, tRet, tTup, tLst, tCons, tNil, tJs, tFmt, tNext, tTest, tOp, tUn, rI, rU, tCall, tCB, tAnd, tOr, tB, tDrop, tAsg, gName, tAug, tPar, ipI, tBM, rAppend, L2.start, List.map_cons, List.map_nil, List.length_cons, List.length_nil, Nat.reduceAdd, Nat.reduceSub, Nat.sub_self, List.replicate_zero, List.append_nil, List.replicate_succ, List.cons_append, List.nil_append,
  List.getElem?_cons_zero, List.getElem?_cons_succ, Option.some.injEq, exists_eq_left', exists_eq_left, V.int.injEq, V.str.injEq, V.bl.injEq, V.ref.injEq, List.set_cons_zero, List.set_cons_succ, List.cons.injEq, and_true, true_and, reduceCtorEq, false_and, exists_false, false_or, or_false, exists_and_left, decide_eq_true_eq, Bool.not_eq_true', decide_eq_false_iff_not, Bool.not_false, Bool.not_true, if_true, if_false, Bool.false_eq_true, ↓reduceIte])
open XT (Sm pe_msg)
section
variable {P : Program} {w : World} {K : PySem.W.Frag} {mg : Str → Option Value} {base : Heap} {C : Addr}
/-- a list or a tuple -/
def Sq (K : PySem.W.Frag) (H : Hp) (a : Addr) (xs : List V) : Prop := SqL K H a xs ∨ SqT K H a xs
theorem rIx_seq {H : Hp} {a : Addr} {xs : List V} {i : Int} {v : V} {Q : VK} (h : Sq K H a xs) (e : atI xs i = some v) (q : Q v H) : rIx K (.ref a) (.int i) H Q :=
  h.elim (fun h => .inl ⟨_, _, _, _, rfl, rfl, h, e, q⟩) fun h => .inr (.inl ⟨_, _, _, _, rfl, rfl, h, e, q⟩)
theorem atI_back {α : Type} {xs : List α} {i : Nat} {v : α} (hi : i < xs.length) (h : xs[xs.length - 1 - i]? = some v) : atI xs (-1 - (i : Nat)) = some v := by
  have e : ixN xs.length (-1 - (i : Nat)) = some (xs.length - 1 - i) := by
    unfold ixN
    rw [if_neg (by omega), if_pos (by omega)]
    congr 1
    omega
  unfold atI
  rw [e]
  exact h
abbrev s_settled : Stmt := topS 20
theorem sc_settled : FnScope ["one", "other", "count"] ["one", "other"] (defScope s_settled) := ⟨rfl, rfl, rfl, by decide +kernel, rfl, by decide +kernel, by decide +kernel⟩
/-- i is how many of the last are alike -/
def Ends (xs ys : List Str) (i : Nat) : Prop := i ≤ xs.length ∧ i ≤ ys.length ∧ (∀ j, j < i → xs[xs.length - 1 - j]? = ys[ys.length - 1 - j]?) ∧ (i < xs.length → i < ys.length → xs[xs.length - 1 - i]? ≠ ys[ys.length - 1 - i]?)
def sp_settled (K : PySem.W.Frag) : Sp := fun vs H Q E => ∃ (a b : Addr) (xs ys : List Str), vs = [.ref a, .ref b] ∧ Sq K H a (xs.map V.str) ∧ Sq K H b (ys.map V.str) ∧ xs.length ≤ 1000 ∧ ys.length ≤ 1000 ∧ ∀ i, Ends xs ys i → Q (.int (i : Nat)) H
theorem ok_settled {f : Addr} {fd : FuncData} {k : Nat} (F : Fun K "settled" "settled" s_settled f fd) (T : Txt K mg C) : FnOk P w K mg base (L2.CX P w) (k + 1) f fd ["one", "other"] (sp_settled K) := by
  refine F.okX sc_settled (fun vs H Q E h => ?_) (fun cdv A outer s H vs Q E hr h => ?_)
  · obtain ⟨a, b, xs, ys, rfl, _⟩ := h
    rfl
  · obtain ⟨a, b, xs, ys, rfl, hx, hy, nx, ny, hq⟩ := h
    refine ⟨_, (pss_cons (ps_set (i := 2) sc_settled.nd rfl (.inl rfl) pe_int)
    (pss_cons (ps_while (passes_of rfl) (PW.pt (pw_and (pt_cmpR op_lt (pv 2) (pe_callB (call_min2 rfl) (by rfl) T.z_min (by decide +kernel) (pa_cons (pe_callB call_len (by rfl) T.z_len (by decide +kernel) (pa_cons (pv 0) pa_nil)) (pa_cons (pe_callB call_len (by rfl) T.z_len (by decide +kernel) (pa_cons (pv 1) pa_nil)) pa_nil))) (nomark _)) (pw_and1 (pt_cmpR op_eq (pe_ix ix_seq (pv 0) (pe_op op_sub (pe_un un_neg pe_int) (pv 2)) (fun _ _ => rfl)) (pe_ix ix_seq (pv 1) (pe_op op_sub (pe_un un_neg pe_int) (pv 2)) (fun _ _ => rfl)) (nomark _)))))
      (pss_one (ps_aug (i := 2) sc_settled.nd rfl (.inl rfl) pe_int ip_add)))
    (pss_one (ps_ret (pv 2))))), ?_⟩
    walk_at "ev"
    refine ⟨fun m σ H' => ∃ i : Nat, σ = [some (.ref a), some (.ref b), some (.int (i : Nat))] ∧ H' = H ∧ m = xs.length - i ∧ i ≤ xs.length ∧ i ≤ ys.length ∧ ∀ j, j < i → xs[xs.length - 1 - j]? = ys[ys.length - 1 - j]?, ⟨_, 0, rfl, rfl, rfl, Nat.zero_le _, Nat.zero_le _, fun j hj => absurd hj (Nat.not_lt_zero j)⟩, ?_⟩
    rintro m σ H' ⟨i, rfl, rfl, rfl, ix, iy, hj⟩
    walk_at "ev"
    have lx : LenV K (.ref a) H' xs.length := by
      refine hx.elim (fun h => .inl ⟨_, h, ?_⟩) fun h => .inr ⟨_, h, ?_⟩ <;> rw [List.length_map]
    have ly : LenV K (.ref b) H' ys.length := by
      refine hy.elim (fun h => .inl ⟨_, h, ?_⟩) fun h => .inr ⟨_, h, ?_⟩ <;> rw [List.length_map]
    refine ⟨_, lx, _, ly, _, _, ⟨rfl, rfl⟩, ?_⟩
    by_cases hlt : i < xs.length ∧ i < ys.length
    · rw [if_pos (by split <;> omega)]
      have gx : xs[xs.length - 1 - i]? = some xs[xs.length - 1 - i] := List.getElem?_eq_getElem (by omega)
      have gy : ys[ys.length - 1 - i]? = some ys[ys.length - 1 - i] := List.getElem?_eq_getElem (by omega)
      refine rIx_seq hx (atI_back (by rw [List.length_map]; exact hlt.1) (by rw [List.length_map, List.getElem?_map, gx]; rfl)) ?_
      refine rIx_seq hy (atI_back (by rw [List.length_map]; exact hlt.2) (by rw [List.length_map, List.getElem?_map, gy]; rfl)) ?_
      refine ⟨rfl, _, rfl, ?_⟩
      by_cases e : xs[xs.length - 1 - i] = ys[ys.length - 1 - i]
      · rw [if_pos (by rw [e]; simp)]
        refine ⟨fun σ' H2 => σ' = [some (.ref a), some (.ref b), some (.int ((i + 1 : Nat) : Int))] ∧ H2 = H', ?_, ⟨by simp, rfl⟩⟩
        rintro σ' H2 ⟨rfl, rfl⟩
        refine ⟨xs.length - (i + 1), by omega, i + 1, rfl, rfl, rfl, hlt.1, hlt.2, fun j hj2 => ?_⟩
        by_cases e2 : j = i
        · subst e2
          rw [gx, gy, e]
        · exact hj j (by omega)
      · rw [if_neg (by simpa using e)]
        exact hq i ⟨ix, iy, hj, fun _ _ => by rw [gx, gy]; exact fun z => e (Option.some.inj z)⟩
    · rw [if_neg (by split <;> omega)]
      exact hq i ⟨ix, iy, hj, fun h1 h2 => absurd ⟨h1, h2⟩ hlt⟩
end
end K2

set_option maxRecDepth 100000
set_option maxHeartbeats 4000000
namespace K2
open PySem PySem.Spec PyProof.Rows L2
open XT (pt_chain3)
open SkE (pmk_own1)
local macro_rules | `(tactic| walk_at "ev") => `(tactic| simp only [tSeq, tIfS, tNot, XT.tChain3, rI0, tC, tVar, tRet, tTup, tLst, tCons, tNil, tJs, tFmt, tNext, tTest, tOp, tUn, rI, rU, tCall, tCB, tAnd, tOr, tB, tDrop, tAsg, gName, tAug, tPar, ipI, tBM, rAppend, tSl, rSlS, tPart, tNoPart, rEq, L2.start, List.map_cons, List.map_nil, List.length_cons, List.length_nil, Nat.reduceAdd, Nat.reduceSub, Nat.sub_self, List.replicate_zero, List.append_nil, List.replicate_succ, List.cons_append, List.nil_append,
  List.getElem?_cons_zero, List.getElem?_cons_succ, Option.some.injEq, exists_eq_left', exists_eq_left, V.int.injEq, V.str.injEq, V.bl.injEq, V.ref.injEq, List.set_cons_zero, List.set_cons_succ, List.cons.injEq, and_true, true_and, reduceCtorEq, false_and, exists_false, false_or, or_false, exists_and_left, and_assoc, decide_eq_true_eq, Bool.not_eq_true', decide_eq_false_iff_not, Bool.not_false, Bool.not_true, if_true, if_false, Bool.false_eq_true, ↓reduceIte])
open XT (Sm pe_msg)
section
variable {P : Program} {w : World} {K : PySem.W.Frag} {mg : Str → Option Value} {base : Heap} {C : Addr} {Ps : List Addr}
/-- a def that is called by its name -/
structure Cal (P : Program) (w : World) (K : PySem.W.Frag) (mg : Str → Option Value) (base : Heap) (CX : CXT) (k : Nat) (nm : Str) (ps : List Str) (sp : Sp) (f : Addr) (fd : FuncData) : Prop where
  ok : FnOk P w K mg base CX k f fd ps sp
  g : mg nm = some (.ref f)
  kp : PySem.W.keepIn K (.ref f) = true
  b : Binds K fd ps []
theorem tFor_rng2 {ta : TA} {g : TG} {tb : TS} {D : L2.Ends} {σ : L2.St} {H : Hp} (i j : Int) (n : Nat) (Pv : Nat → L2.St → Hp → Prop) (ha : ∀ R : List V → Hp → Prop, R [.int i, .int j] H → ta σ H R)
    (hb : -(2 ^ 62) ≤ i ∧ i < 2 ^ 62 ∧ -(2 ^ 62) ≤ j ∧ j < 2 ^ 62) (en : (j - i).toNat = n) (h0 : Pv 0 σ H)
    (hs : ∀ k σ H, k < n → Pv k σ H → g (.int (i + (k : Nat))) σ H fun σ2 H2 => tb { D with nx := Pv (k + 1), ct := Pv (k + 1), bk := D.nx } σ2 H2) (hd : ∀ σ H, Pv n σ H → D.nx σ H) : tFor (iRng2 ta) g tb D σ H := by
  refine ha _ ⟨i, j, rfl, hb, ?_⟩
  rw [en]
  exact for_range Pv h0 hs hd
theorem tFor_rng1 {ta : TA} {g : TG} {tb : TS} {D : L2.Ends} {σ : L2.St} {H : Hp} (j : Int) (n : Nat) (Pv : Nat → L2.St → Hp → Prop) (ha : ∀ R : List V → Hp → Prop, R [.int j] H → ta σ H R)
    (hb : -(2 ^ 62) ≤ j ∧ j < 2 ^ 62) (en : j.toNat = n) (h0 : Pv 0 σ H)
    (hs : ∀ k σ H, k < n → Pv k σ H → g (.int (0 + (k : Nat))) σ H fun σ2 H2 => tb { D with nx := Pv (k + 1), ct := Pv (k + 1), bk := D.nx } σ2 H2) (hd : ∀ σ H, Pv n σ H → D.nx σ H) : tFor (iRng1 ta) g tb D σ H := by
  refine ha _ ⟨j, rfl, hb.1, hb.2, ?_⟩
  rw [en]
  exact for_range Pv h0 hs hd
/-- a text that is small -/
def SmT (t : Str) : Prop := t.length ≤ 100 ∧ ∀ c ∈ t.cps.toList, c ≤ 1000
def chs (t : Str) : List Nat := t.cps.toList
def ofL (l : List Nat) : Str := ⟨l.toArray⟩
theorem chs_ofL (l : List Nat) : chs (ofL l) = l := rfl
theorem chs_len (t : Str) : (chs t).length = t.length := by
  show t.cps.toList.length = t.cps.size
  simp
theorem ofL_len (l : List Nat) : (ofL l).length = l.length := by
  show l.toArray.size = l.length
  simp
/-- the signs' sum at place i, w signs -/
def winS (L : List Nat) (i w : Nat) : Nat := ((L.drop i).take w).sum
def sumsV (L : List Nat) (w : Nat) : List V := (List.range (L.length + 1 - w)).map fun i => .int (winS L i w : Nat)
def sub (L : List Nat) (a b : Nat) : Str := ofL ((L.drop a).take (b - a))
theorem cutS_ab (t : Str) {a b : Nat} (h : a ≤ b) (hb : b ≤ t.length) : cutS t (some (a : Nat)) (some (b : Nat)) = sub (chs t) a b := by
  unfold cutS
  rw [HT.sIx_nat, HT.sIx_nat, Nat.min_eq_left (Nat.le_trans h hb), Nat.min_eq_left hb]
  rfl
theorem cutS_a (t : Str) {a : Nat} (h : a ≤ t.length) : cutS t (some (a : Nat)) none = sub (chs t) a t.length := by
  unfold cutS
  rw [HT.sIx_nat, HT.sIx_none, Nat.min_eq_left h]
  rfl
def sp_sums (C : Addr) (Ps : List Addr) : Sp := fun vs H Q E => ∃ (t : Str) (m : Int), vs = [.str t, .int m] ∧ SmT t ∧ Sm m ∧ Tb Ps H ∧ (m < 1 → E (.ref C) none H) ∧ (1 ≤ m → NewT Ps H (sumsV (chs t) m.toNat) Q)
/-! told: slots text=0 least=1 most=2 window=3 by=4 totals=5 pieces=6 start=7 place=8 size=9 -/
abbrev s_told : Stmt := topS 15
theorem sc_told : FnScope ["text", "least", "most", "window", "by", "totals", "pieces", "start", "place", "size"] ["text", "least", "most", "window", "by"] (defScope s_told) := ⟨rfl, rfl, rfl, by decide +kernel, rfl, by decide +kernel, by decide +kernel⟩
def cutAt (L : List Nat) (l m w b start p : Nat) : Prop := p - start = m ∨ (l ≤ p - start ∧ winS L (p - w) w % b = 0)
instance (L : List Nat) (l m w b start p : Nat) : Decidable (cutAt L l m w b start p) := by unfold cutAt; exact inferInstance
def stepT (L : List Nat) (l m w b : Nat) (p : Nat) (st : Nat × List Str) : Nat × List Str := if cutAt L l m w b st.1 p then (p, st.2 ++ [sub L st.1 p]) else st
def runT (L : List Nat) (l m w b : Nat) : Nat → Nat × List Str
  | 0 => (0, [])
  | i + 1 => stepT L l m w b (l + i) (runT L l m w b i)
def lastT (L : List Nat) (st : Nat × List Str) : List Str := if st.1 < L.length then st.2 ++ [sub L st.1 L.length] else st.2
def toldS (L : List Nat) (l m w b : Nat) : List Str := lastT L (runT L l m w b (L.length - l))
def sp_told (C : Addr) (Ps : List Addr) : Sp := fun vs H Q E => ∃ (t : Str) (l m w b : Int), vs = [.str t, .int l, .int m, .int w, .int b] ∧ SmT t ∧ Sm l ∧ Sm m ∧ Sm w ∧ Sm b ∧ Tb Ps H ∧
  (¬ (0 < w ∧ w ≤ l ∧ l ≤ m ∧ 1 ≤ b) → ∀ H', Gw Ps H H' → E (.ref C) none H') ∧ (0 < w ∧ w ≤ l ∧ l ≤ m ∧ 1 ≤ b → NewT Ps H ((toldS (chs t) l.toNat m.toNat w.toNat b.toNat).map V.str) Q)
theorem runT_le (L : List Nat) (l m w b : Nat) : ∀ i, (runT L l m w b i).1 ≤ l + i ∧ (runT L l m w b i).2.length ≤ i := by
  intro i
  induction i with
  | zero => exact ⟨Nat.zero_le _, Nat.le_refl _⟩
  | succ i ih =>
    rw [runT, stepT]
    split
    · exact ⟨by omega, by rw [List.length_append]; simp; omega⟩
    · exact ⟨by omega, by omega⟩
theorem ok_told {f fc fs : Addr} {fd fdc fds : FuncData} {k kc ks : Nat} (F : Fun K "told" "told" s_told f fd) (T : Txt K mg C) (Gc : Cal P w K mg base (L2.CX P w) kc "check_bounds" ["least", "most", "window"] (sp_check_bounds C) fc fdc)
    (Gs : Cal P w K mg base (L2.CX P w) ks "sums" ["text", "window"] (sp_sums C Ps) fs fds) (hk1 : kc ≤ k) (hk2 : ks ≤ k) : FnOk P w K mg base (L2.CX P w) (k + 1) f fd ["text", "least", "most", "window", "by"] (sp_told C Ps) := by
  refine F.okX sc_told (fun vs H Q E h => ?_) (fun cdv A outer s H vs Q E hr h => ?_)
  · obtain ⟨t, l, m, w, b, rfl, _⟩ := h
    rfl
  · obtain ⟨t, l, m, w', b, rfl, st, sl, sm, sw, sb, tb, h1, h2⟩ := h
    refine ⟨_, (pss_cons (ps_expr (pe_call Gc.ok (hr.mono hk1) (by rfl) Gc.g Gc.kp Gc.b .nil (passes_call (takes_of rfl rfl rfl rfl) (fun _ _ _ _ h => h)) (pa_cons (pv 1) (pa_cons (pv 2) (pa_cons (pv 3) pa_nil)))))
    (pss_cons (ps_if (pt_cmpR op_lt (pv 4) pe_int (nomark _))
      (pss_one (ps_raise rfl (takes_of rfl rfl rfl rfl) (pmk_own1 PySem.F.excBase_ValueError T.x_BadSize T.g_BadSize T.k_BadSize (raises_own T.b_BadSize T.t_BadSize) (by rfl) (pe_msg (.cons (.lit (by decide)) (.cons (.var (pv 4)) .nil)))))) pss_nil)
    (pss_cons (ps_set (i := 5) sc_told.nd rfl (.inl rfl) (pe_call Gs.ok (hr.mono hk2) (by rfl) Gs.g Gs.kp Gs.b .nil (passes_call (takes_of rfl rfl rfl rfl) (fun _ _ _ _ h => h)) (pa_cons (pv 0) (pa_cons (pv 3) pa_nil))))
    (pss_cons (ps_set (i := 6) sc_told.nd rfl (.inl rfl) (pe_lst pa_nil))
    (pss_cons (ps_set (i := 7) sc_told.nd rfl (.inl rfl) pe_int)
    (pss_cons (ps_for (passes_of rfl) rfl (pi_range2 (by rfl) T.z_range (pa_cons (pv 1) (pa_cons (pe_callB call_len_str (by rfl) T.z_len (by decide +kernel) (pa_cons (pv 0) pa_nil)) pa_nil))) (pg_name (i := 8) sc_told.nd rfl (.inl rfl))
      (pss_cons (ps_set (i := 9) sc_told.nd rfl (.inl rfl) (pe_op op_sub (pv 8) (pv 7)))
    (pss_one (ps_if (PW.pt (pw_or (pt_cmpR op_eq (pv 9) (pv 2) (nomark _)) (pw_or1 (PW.pt (pw_and (pt_cmpR op_ge (pv 9) (pv 1) (nomark _)) (pw_and1 (pt_cmpR op_eq (pe_op op_modN (pe_ix ix_tup (pv 5) (pe_op op_sub (pv 8) (pv 3)) (fun _ _ => rfl)) (pv 4)) pe_int (nomark _))))))))
      (pss_cons (ps_expr (pe_bm PySem.F.plainAttrs_list PySem.F.slot_list_append PySem.F.type_list_append mt_append (pv 6) (pa_cons (pe_slice sl_str (pv 0) (po_some (pv 7)) (po_some (pv 8))) pa_nil)))
    (pss_one (ps_set (i := 7) sc_told.nd rfl (.inl rfl) (pv 8)))) pss_nil))))
    (pss_cons (ps_if (pt_cmpR op_lt (pv 7) (pe_callB call_len_str (by rfl) T.z_len (by decide +kernel) (pa_cons (pv 0) pa_nil)) (nomark _))
      (pss_one (ps_expr (pe_bm PySem.F.plainAttrs_list PySem.F.slot_list_append PySem.F.type_list_append mt_append (pv 6) (pa_cons (pe_slice sl_str (pv 0) (po_some (pv 7)) po_none) pa_nil)))) pss_nil)
    (pss_one (ps_ret (pe_callTy call_tuple_of (by rfl) T.z_tuple (by decide +kernel) (pa_cons (pv 6) pa_nil))))))))))), ?_⟩
    walk_at "ev"
    have hlt : t.length ≤ sizeLine := Nat.le_trans st.1 (by decide)
    refine ⟨l, m, w', rfl, sl, sm, sw, fun c p hp => ?_, fun c => h1 (fun z => c ⟨z.1, z.2.1, z.2.2.1⟩) H (Gw.refl tb)⟩
    have g1 : Gw Ps H (upd H p (.tup [.int l, .int m, .int w'])) := (Gw.refl tb).new hp
    dsimp only
    by_cases c4 : b < 1
    · rw [if_pos c4]
      exact ⟨sb, fun _ => h1 (fun z => by omega) _ g1⟩
    rw [if_neg c4]
    have h3 := h2 ⟨c.1, c.2.1, c.2.2, by omega⟩
    refine ⟨t, w', rfl, st, sw, g1.1, fun z => by omega, fun _ => ?_⟩
    intro H1 q g2 hq1 hq2
    refine ⟨Nat.zero_le _, fun p2 hp2 => ?_⟩
    obtain ⟨ln, rfl⟩ : ∃ n : Nat, l = n := ⟨l.toNat, by omega⟩
    obtain ⟨mn, rfl⟩ : ∃ n : Nat, m = n := ⟨m.toNat, by omega⟩
    obtain ⟨wn, rfl⟩ : ∃ n : Nat, w' = n := ⟨w'.toNat, by omega⟩
    obtain ⟨bn, rfl⟩ : ∃ n : Nat, b = n := ⟨b.toNat, by omega⟩
    simp only [Int.toNat_natCast] at h3 hq2
    have g3 : Gw Ps H H1 := g1.trans g2
    have nq : q ≠ p2 := fun z => by
      rw [z, hp2] at hq2
      cases hq2
    have hL : (chs t).length = t.length := chs_len t
    have hl0 : ln ≤ 100000 := by have := sl.2; omega
    have en : (((t.length : Nat) : Int) - (ln : Nat)).toNat = (chs t).length - ln := by omega
    refine tFor_rng2 (ln : Nat) (t.length : Nat) ((chs t).length - ln) (fun i σ H' => (∃ z1 z2, σ = [some (.str t), some (.int (ln : Nat)), some (.int (mn : Nat)), some (.int (wn : Nat)), some (.int (bn : Nat)), some (.ref q), some (.ref p2), some (.int ((runT (chs t) ln mn wn bn i).1 : Nat)), z1, z2]) ∧ H' = upd H1 p2 (.lst ((runT (chs t) ln mn wn bn i).2.map V.str))) ?_ ⟨by omega, by omega, by omega, by have := st.1; omega⟩ en ⟨⟨_, _, rfl⟩, rfl⟩ ?_ ?_
    · intro R r
      walk_at "ev"
      exact ⟨hlt, r⟩
    · rintro i σ H' hi ⟨⟨z1, z2, rfl⟩, rfl⟩
      walk_at "ev"
      have rs : runT (chs t) ln mn wn bn (i + 1) = stepT (chs t) ln mn wn bn (ln + i) (runT (chs t) ln mn wn bn i) := rfl
      have hle := runT_le (chs t) ln mn wn bn i
      rw [rs]
      generalize runT (chs t) ln mn wn bn i = r at hle ⊢
      obtain ⟨s0, ps⟩ := r
      simp only [] at hle ⊢
      have ee : ((ln : Nat) : Int) + (i : Nat) = ((ln + i : Nat) : Int) := by omega
      have cs : cutS t (some ((s0 : Nat) : Int)) (some (((ln : Nat) : Int) + (i : Nat))) = sub (chs t) s0 (ln + i) := by
        rw [ee]
        exact cutS_ab t hle.1 (by omega)
      have yes : cutAt (chs t) ln mn wn bn s0 (ln + i) → stepT (chs t) ln mn wn bn (ln + i) (s0, ps) = (ln + i, ps ++ [sub (chs t) s0 (ln + i)]) := fun z => by
        unfold stepT
        rw [if_pos z]
      have no : ¬ cutAt (chs t) ln mn wn bn s0 (ln + i) → stepT (chs t) ln mn wn bn (ln + i) (s0, ps) = (s0, ps) := fun z => by
        unfold stepT
        rw [if_neg z]
      have done : ∀ (z : cutAt (chs t) ln mn wn bn s0 (ln + i)), ps.length < sizeLine ∧ ((ln : Nat) : Int) + (i : Nat) = ((stepT (chs t) ln mn wn bn (ln + i) (s0, ps)).1 : Nat) ∧
          upd (upd H1 p2 (.lst (ps.map V.str))) p2 (.lst (ps.map V.str ++ [V.str (cutS t (some ((s0 : Nat) : Int)) (some (((ln : Nat) : Int) + (i : Nat))))])) = upd H1 p2 (.lst ((stepT (chs t) ln mn wn bn (ln + i) (s0, ps)).2.map V.str)) := fun z => by
        rw [yes z, upd_upd, cs]
        refine ⟨Nat.lt_of_le_of_lt hle.2 (Nat.lt_of_lt_of_le (show i < 101 by have := st.1; omega) (by decide)), ee, ?_⟩
        rw [List.map_append]
        rfl
      refine ⟨rfl, ?_⟩
      by_cases d1 : ((ln : Nat) : Int) + (i : Nat) - (s0 : Nat) = (mn : Nat)
      · rw [if_pos d1]
        have z : cutAt (chs t) ln mn wn bn s0 (ln + i) := .inl (by have := hle.1; omega)
        refine ⟨.inl ⟨rfl, _, SqL.of upd_same⟩, hlt, _, upd_same, ?_, (done z).2.1, ⟨_, rfl⟩, (done z).2.2⟩
        rw [List.length_map]
        exact (done z).1
      rw [if_neg d1]
      by_cases d2 : ((ln : Nat) : Int) ≤ (ln : Nat) + (i : Nat) - (s0 : Nat)
      · rw [if_pos d2]
        have hw : (sumsV (chs t) wn)[ln + i - wn]? = some (.int (winS (chs t) (ln + i - wn) wn : Nat)) := by
          unfold sumsV
          rw [List.getElem?_map, List.getElem?_range (by omega)]
          rfl
        have ei : ((ln : Nat) : Int) + (i : Nat) - (wn : Nat) = ((ln + i - wn : Nat) : Int) := by omega
        rw [ei]
        have hq3 : upd H1 p2 (.lst (ps.map V.str)) q = some (.tup (sumsV (chs t) wn)) := by
          rw [upd_ne nq]
          exact hq2
        refine ⟨q, _, _, _, rfl, rfl, .inl (.inl hq3), atI_nat hw, _, rfl, by omega, rfl, ?_⟩
        have em : ((winS (chs t) (ln + i - wn) wn : Nat) : Int).fmod (bn : Nat) = ((winS (chs t) (ln + i - wn) wn % bn : Nat) : Int) := by
          rw [Int.fmod_eq_emod_of_nonneg _ (by omega)]
          rfl
        rw [em]
        by_cases d3 : winS (chs t) (ln + i - wn) wn % bn = 0
        · rw [if_pos (by rw [d3]; rfl)]
          have z : cutAt (chs t) ln mn wn bn s0 (ln + i) := .inr ⟨by have := hle.1; omega, d3⟩
          refine ⟨.inl ⟨rfl, _, SqL.of upd_same⟩, hlt, _, upd_same, ?_, (done z).2.1, ⟨_, rfl⟩, (done z).2.2⟩
          rw [List.length_map]
          exact (done z).1
        · rw [if_neg (by omega)]
          have z : ¬ cutAt (chs t) ln mn wn bn s0 (ln + i) := fun z => z.elim (fun z => d1 (by have := hle.1; omega)) fun z => d3 z.2
          rw [no z]
          exact ⟨rfl, ⟨_, rfl⟩, rfl⟩
      · rw [if_neg d2]
        have z : ¬ cutAt (chs t) ln mn wn bn s0 (ln + i) := fun z => z.elim (fun z => d1 (by have := hle.1; omega)) fun z => d2 (by have := hle.1; omega)
        rw [no z]
        exact ⟨rfl, ⟨_, rfl⟩, rfl⟩
    · rintro σ H' ⟨⟨z1, z2, rfl⟩, rfl⟩
      walk_at "ev"
      have hle := runT_le (chs t) ln mn wn bn ((chs t).length - ln)
      have h4 : NewT Ps H ((lastT (chs t) (runT (chs t) ln mn wn bn ((chs t).length - ln))).map V.str) Q := h3
      generalize runT (chs t) ln mn wn bn ((chs t).length - ln) = r at hle h4 ⊢
      obtain ⟨s0, ps⟩ := r
      simp only [] at hle ⊢
      refine ⟨hlt, ?_⟩
      have gn : ∀ o, Gw Ps H (upd H1 p2 o) := fun o => g3.new hp2
      by_cases d : s0 < t.length
      · rw [if_pos (by omega)]
        have e : lastT (chs t) (s0, ps) = ps ++ [sub (chs t) s0 t.length] := by
          unfold lastT
          rw [if_pos (by rw [hL]; exact d), hL]
        rw [e] at h4
        refine ⟨.inl ⟨rfl, _, SqL.of upd_same⟩, hlt, _, upd_same, ?_, _, .inl ⟨SqL.of upd_same, fun l hl => ?_⟩⟩
        · rw [List.length_map]
          exact Nat.lt_of_le_of_lt hle.2 (Nat.lt_of_lt_of_le (show (chs t).length - ln < 101 by have := st.1; omega) (by decide))
        · rw [upd_upd] at hl ⊢
          refine h4 _ _ ((gn _).new hl) (g3.none tb (upd_none hl).1) ?_
          rw [upd_same, cutS_a t (Nat.le_of_lt d), List.map_append]
          rfl
      · rw [if_neg (by omega)]
        have e : lastT (chs t) (s0, ps) = ps := by
          unfold lastT
          rw [if_neg (by rw [hL]; exact d)]
        rw [e] at h4
        refine ⟨_, .inl ⟨SqL.of upd_same, fun l hl => ?_⟩⟩
        exact h4 _ _ ((gn _).new hl) (g3.none tb (upd_none hl).1) upd_same
end
end K2

set_option maxRecDepth 100000
set_option maxHeartbeats 4000000
namespace K2
open PySem PySem.Spec PyProof.Rows L2
open XT (pt_chain3)
open SkE (pmk_own1)
local macro_rules | `(tactic| walk_at "ev") => `(tactic| simp only [tSeq, tIfS, tNot, XT.tChain3, rI0, tC, tVar, tRet, tTup, tLst, tCons, tNil, tJs, tFmt, tNext, tTest, tOp, tUn, rI, rU, tCall, tCB, tAnd, tOr, tB, tDrop, tAsg, gName, tAug, tPar, ipI, tBM, rAppend, tSl, rSlS, tPart, tNoPart, rEq, rNe, L2.start, List.map_cons, List.map_nil, List.length_cons, List.length_nil, Nat.reduceAdd, Nat.reduceSub, Nat.sub_self, List.replicate_zero, List.append_nil, List.replicate_succ, List.cons_append, List.nil_append,
  List.getElem?_cons_zero, List.getElem?_cons_succ, Option.some.injEq, exists_eq_left', exists_eq_left, V.int.injEq, V.str.injEq, V.bl.injEq, V.ref.injEq, List.set_cons_zero, List.set_cons_succ, List.cons.injEq, and_true, true_and, reduceCtorEq, false_and, exists_false, false_or, or_false, exists_and_left, and_assoc, decide_eq_true_eq, Bool.not_eq_true', decide_eq_false_iff_not, Bool.not_false, Bool.not_true, if_true, if_false, Bool.false_eq_true, ↓reduceIte])
open XT (Sm pe_msg)
section
variable {P : Program} {w : World} {K : PySem.W.Frag} {mg : Str → Option Value} {base : Heap} {C : Addr} {Ps : List Addr}
/-- a def that owns code objects -/
structure FunC (K : PySem.W.Frag) (x qual : Str) (st : Stmt) (f : Addr) (fd : FuncData) (c : Addr) : Prop where
  ex : ∃ (oc : Value) (od : Option Addr) (kV doc pm : Value) (an : Option Addr) (ct : Value) (osl : Array (Option Value)),
    fd = PySem.W.fnOf x qual (defArgs st) (defBody st) (defScope st) .none kV doc pm an (.ref c) ct ∧ K.lookup f = some ⟨oc, od, .func fd, osl⟩ ∧ PySem.W.codeIn K (.ref c) qual = true
  kp : PySem.W.keepIn K (.ref f) = true
theorem FunC.okX {x qual : Str} {st : Stmt} {f c : Addr} {fd : FuncData} {N ps : List Str} {k : Nat} {sp : Sp} (F : FunC K x qual st f fd c) (S : FnScope N ps (defScope st)) (len : ∀ vs H Q E, sp vs H Q E → vs.length = ps.length)
    (hbody : ∀ (A : Around) (outer : List Env) (s : Shared) (H : Hp) (vs : List V) (Q : VK) (E : XK), Room k (A.deeper (envOfC qual (defScope st) s.heap.objs.size f (.ref c))) → sp vs H Q E →
      ∃ t, PSs (cxOf (L2.CX P w) P w K mg base N qual (defScope st) f (.ref c) A outer s H E) (defBody st) t ∧ t { nx := fun _ H' => Q .non H', rt := Q } (start N vs) H) : FnOk P w K mg base (L2.CX P w) (k + 1) f fd ps sp := by
  obtain ⟨oc, od, kV, doc, pm, an, ct, osl, rfl, lk, hcd⟩ := F.ex
  exact fn_of lk hcd S len fun A outer s H vs Q E hr hsp => hbody A outer s H vs Q E hr hsp
theorem FunC.binds {x qual : Str} {st : Stmt} {f c : Addr} {fd : FuncData} {ps : List Str} (F : FunC K x qual st f fd c)
    (h : ∀ (kV doc pm : Value) (an : Option Addr) (cdv ct : Value) (us : List Value), us.length = ps.length → bindArgs (PySem.W.fnOf x qual (defArgs st) (defBody st) (defScope st) .none kV doc pm an cdv ct) ⟨us, []⟩ = pure (ps.zip us)) : Binds K fd ps [] := by
  obtain ⟨oc, od, kV, doc, pm, an, ct, osl, rfl, lk, hcd⟩ := F.ex
  exact .all (h kV doc pm an (.ref c) ct)
theorem Gw.tabg {H H' : Hp} {p : Addr} (g : Gw Ps H H') (hp : p ∈ Ps) : GxR.TabG H' p := g.1 p hp
theorem room_le {k : Nat} {A : Around} (h : Room (k + 1) A) : Room k A := h.mono (Nat.le_succ k)
theorem sumN_take (L : List Nat) : ∀ n, XT.sumN (fun i => ((L[i]?.getD 0 : Nat) : Int)) n = ((L.take n).sum : Nat) := by
  intro n
  induction n with
  | zero => simp [XT.sumN]
  | succ n ih =>
    rw [XT.sumN, ih, List.take_add_one]
    cases L[n]? with
    | none => simp
    | some x => simp
theorem sum_le {L : List Nat} (h : ∀ c ∈ L, c ≤ 1000) : L.sum ≤ 1000 * L.length := by
  induction L with
  | nil => exact Nat.zero_le _
  | cons x r ih =>
    have h1 := h x (List.mem_cons_self ..)
    have h2 := ih fun c hc => h c (List.mem_cons_of_mem _ hc)
    rw [List.sum_cons, List.length_cons]
    omega
/-- sum(ord(sign) for sign in x) -/
theorem tSumG_ord {p : Addr} {te0 : TE} {σ : L2.St} {H : Hp} {Q : VK} (x : Str) (hx : SmT x) (ha : ∀ R : VK, R (.str x) H → te0 σ H R) (ht : GxR.TabG H p) (h : ∀ H2, GxR.Tabbed p H H2 → Q (.int ((chs x).sum : Nat)) H2) :
    GX.tSumG p (iStr te0) (gName 0) tYes (tCB (fun xs H Q => ∃ x, xs = [V.str x] ∧ x.length = 1 ∧ Q (V.int ((x.cps.getD 0 0 : Nat) : Int)) H) (tCons (tVar 0) tNil)) [none] [0] σ H Q := by
  refine ha _ ⟨x, rfl, ht, fun H2 h2 => ?_⟩
  have hl : x.cps.size = (chs x).length := by
    show _ = x.cps.toList.length
    simp
  have hb : ∀ i : Nat, ((chs x)[i]?.getD 0) ≤ 1000 := fun i => by
    cases e : (chs x)[i]? with
    | none => exact Nat.zero_le _
    | some y => exact hx.2 y (List.mem_of_getElem? e)
  have hs : ∀ i : Nat, ((chs x).take i).sum ≤ 1000 * 100 := fun i => by
    refine Nat.le_trans (sum_le fun c hc => hx.2 c (List.mem_of_mem_take hc)) (Nat.mul_le_mul_left _ (Nat.le_trans ?_ hx.1))
    rw [List.length_take, ← chs_len]
    omega
  refine XT.sturn_pure x.cps.size (fun i => (((chs x)[i]?.getD 0 : Nat) : Int)) (fun i hi => ?_) (fun i hi => hi) (Nat.le_refl _) (fun i hi y H' hy t Nx l1 l2 hn => ?_) ?_
  · rw [sumN_take]
    have := hb i
    have := hs i
    exact ⟨⟨by omega, by omega⟩, ⟨by omega, by omega⟩⟩
  · obtain ⟨rfl, c, hc, rfl⟩ := hy
    have hc2 : (chs x)[i]? = some c := by
      show x.cps.toList[i]? = some c
      rw [Array.getElem?_toList]
      exact hc
    simp only [hc2, Option.getD_some] at l1 l2 hn
    refine ⟨rfl, ?_⟩
    simp only [tYes, ↓reduceIte]
    exact ⟨_, rfl, _, rfl, rfl, _, rfl, l1, l2, hn⟩
  · rw [sumN_take, List.take_of_length_le (by rw [← hl]; exact Nat.le_refl _)]
    exact h H2 h2
/-! sums: slots text=0 window=1 total=2 found=3 place=4 -/
abbrev s_sums : Stmt := topS 14
theorem sc_sums : FnScope ["text", "window", "total", "found", "place"] ["text", "window"] (defScope s_sums) := ⟨rfl, rfl, rfl, by decide +kernel, rfl, by decide +kernel, by decide +kernel⟩
theorem gs_sums0 : GX.GScp ["text", "window", "total", "found", "place"] (defScope s_sums) { kind := ScopeKind.function, names := [(".0", NameKind.local), ("sign", NameKind.local), ("ord", NameKind.globalImplicit)], isGenerator := true, isCoroutine := false } ["sign"] [none] := GX.gsc_by (by decide +kernel)
theorem winS_succ {L : List Nat} {i w a b : Nat} (h1 : L[i]? = some a) (h2 : L[i + w]? = some b) : winS L (i + 1) w + a = winS L i w + b := by
  unfold winS
  have e1 : L.drop i = a :: L.drop (i + 1) := by
    have hi : i < L.length := (List.getElem?_eq_some_iff.mp h1).1
    rw [List.drop_eq_getElem_cons hi]
    rw [(List.getElem?_eq_some_iff.mp h1).2]
  cases w with
  | zero =>
    rw [Nat.add_zero] at h2
    rw [h1] at h2
    simp [Option.some.inj h2]
  | succ w =>
    have e2 : (L.drop (i + 1))[w]? = some b := by
      rw [List.getElem?_drop]
      rw [← h2]
      congr 1
      omega
    rw [e1, List.take_succ_cons, List.sum_cons, List.take_add_one, e2]
    simp
    omega
theorem winS_le {L : List Nat} (h : ∀ c ∈ L, c ≤ 1000) (i w : Nat) : winS L i w ≤ 1000 * w := by
  unfold winS
  refine Nat.le_trans (sum_le fun c hc => h c (List.mem_of_mem_drop (List.mem_of_mem_take hc))) (Nat.mul_le_mul_left _ ?_)
  rw [List.length_take]
  exact Nat.min_le_left _ _
theorem ok_sums {f c p : Addr} {fd : FuncData} {k : Nat} (F : FunC K "sums" "sums" s_sums f fd c) (TB : GxR.TabB base mg c p) (hp : p ∈ Ps) (T : Txt K mg C) : FnOk P w K mg base (L2.CX P w) (k + 8) f fd ["text", "window"] (sp_sums C Ps) := by
  refine F.okX sc_sums (fun vs H Q E h => ?_) (fun A outer s H vs Q E hr h => ?_)
  · obtain ⟨t, m, rfl, _⟩ := h
    rfl
  · obtain ⟨t, m, rfl, st, sm, tb, h1, h2⟩ := h
    have hr0 : Room (k + 1) (A.deeper (envOfC "sums" (defScope s_sums) s.heap.objs.size f (.ref c))) := hr.mono (by omega)
    refine ⟨_, (pss_cons (ps_if (pt_cmpR op_lt (pv 1) pe_int (nomark _))
      (pss_one (ps_raise rfl (takes_of rfl rfl rfl rfl) (pmk_own1 PySem.F.excBase_ValueError T.x_BadSize T.g_BadSize T.k_BadSize (raises_own T.b_BadSize T.t_BadSize) (by rfl) (pe_msg (.cons (.lit (by decide)) (.cons (.var (pv 1)) .nil)))))) pss_nil)
    (pss_cons (ps_if (pt_cmpR op_lt (pe_callB call_len_str (by rfl) T.z_len (by decide +kernel) (pa_cons (pv 0) pa_nil)) (pv 1) (nomark _))
      (pss_one (ps_ret (pe_tup pa_nil))) pss_nil)
    (pss_cons (ps_set (i := 2) sc_sums.nd rfl (.inl rfl) (GX.pe_sumG (Ng := ["sign"]) (ix := [none]) (vs := [0]) hr0 (by rfl) T.z_sum (by decide +kernel) TB rfl gs_sums0 (pi_str (pe_slice sl_str (pv 0) po_none (po_some (pv 1)))) (fun _ _ _ _ _ _ _ => (pg_name (i := 0) gs_sums0.nd rfl (.inl rfl))) (fun _ _ _ _ _ _ _ hr => pts_nil) (fun _ _ _ _ _ _ _ hr => (pe_callB call_ord (by rfl) T.z_ord (by decide +kernel) (pa_cons (pv 0) pa_nil)))))
    (pss_cons (ps_set (i := 3) sc_sums.nd rfl (.inl rfl) (pe_lst (pa_cons (pv 2) pa_nil)))
    (pss_cons (ps_for (passes_of rfl) rfl (pi_range2 (by rfl) T.z_range (pa_cons (pv 1) (pa_cons (pe_callB call_len_str (by rfl) T.z_len (by decide +kernel) (pa_cons (pv 0) pa_nil)) pa_nil))) (pg_name (i := 4) sc_sums.nd rfl (.inl rfl))
      (pss_cons (ps_aug (i := 2) sc_sums.nd rfl (.inl rfl) (pe_op op_sub (pe_callB call_ord (by rfl) T.z_ord (by decide +kernel) (pa_cons (pe_ix ix_str (pv 0) (pv 4) (fun _ _ => rfl)) pa_nil)) (pe_callB call_ord (by rfl) T.z_ord (by decide +kernel) (pa_cons (pe_ix ix_str (pv 0) (pe_op op_sub (pv 4) (pv 1)) (fun _ _ => rfl)) pa_nil))) ip_add)
    (pss_one (ps_expr (pe_bm PySem.F.plainAttrs_list PySem.F.slot_list_append PySem.F.type_list_append mt_append (pv 3) (pa_cons (pv 2) pa_nil))))))
    (pss_one (ps_ret (pe_callTy call_tuple_of (by rfl) T.z_tuple (by decide +kernel) (pa_cons (pv 3) pa_nil))))))))), ?_⟩
    walk_at "ev"
    have hlt : t.length ≤ sizeLine := Nat.le_trans st.1 (by decide)
    have hL : (chs t).length = t.length := chs_len t
    by_cases c1 : m < 1
    · rw [if_pos c1]
      exact ⟨sm, fun _ => h1 c1⟩
    rw [if_neg c1]
    have h3 := h2 (by omega)
    obtain ⟨wn, rfl⟩ : ∃ n : Nat, m = n := ⟨m.toNat, by omega⟩
    rw [Int.toNat_natCast] at h3
    refine ⟨hlt, ?_⟩
    by_cases c2 : ((t.length : Nat) : Int) < (wn : Nat)
    · rw [if_pos c2]
      refine ⟨Nat.zero_le _, fun q hq => h3 _ q ((Gw.refl tb).new hq) hq ?_⟩
      rw [upd_same]
      have e0 : (chs t).length + 1 - wn = 0 := by omega
      unfold sumsV
      rw [e0]
      rfl
    rw [if_neg c2]
    have e1 : cutS t none (some ((wn : Nat) : Int)) = sub (chs t) 0 wn := by
      have := cutS_ab t (Nat.zero_le wn) (by omega)
      exact this
    have hx : SmT (sub (chs t) 0 wn) := ⟨by
      unfold sub
      rw [ofL_len, List.length_take, List.length_drop]
      have := st.1
      omega, fun c hc => st.2 c (List.mem_of_mem_drop (List.mem_of_mem_take hc))⟩
    refine tSumG_ord (sub (chs t) 0 wn) hx (fun R r => ?_) (tb p hp) (fun H2 h2 => ?_)
    · walk_at "ev"
      rw [e1]
      exact ⟨hlt, r⟩
    have g2 : Gw Ps H H2 := (Gw.refl tb).tab hp h2
    refine ⟨by decide, fun q hq => ?_⟩
    have ew : (chs (sub (chs t) 0 wn)).sum = winS (chs t) 0 wn := rfl
    rw [ew]
    refine tFor_rng2 (wn : Nat) (t.length : Nat) ((chs t).length - wn) (fun i σ H' => (∃ z, σ = [some (.str t), some (.int (wn : Nat)), some (.int (winS (chs t) i wn : Nat)), some (.ref q), z]) ∧ H' = upd H2 q (.lst ((List.range (i + 1)).map fun j => .int (winS (chs t) j wn : Nat)))) ?_ ⟨by omega, by have := st.1; omega, by omega, by have := st.1; omega⟩ (by omega) ⟨⟨_, rfl⟩, rfl⟩ ?_ ?_
    · intro R r
      walk_at "ev"
      exact ⟨hlt, r⟩
    · rintro i σ H' hi ⟨⟨z, rfl⟩, rfl⟩
      walk_at "ev"
      have g1 : (chs t)[wn + i]? = some (chs t)[wn + i] := List.getElem?_eq_getElem (by omega)
      have g0 : (chs t)[i]? = some (chs t)[i] := List.getElem?_eq_getElem (by omega)
      have ei : ((wn : Nat) : Int) + (i : Nat) = ((wn + i : Nat) : Int) := by omega
      have ei2 : ((wn : Nat) : Int) + (i : Nat) - (wn : Nat) = ((i : Nat) : Int) := by omega
      rw [ei2, ei]
      refine ⟨t, _, _, rfl, rfl, hlt, atI_nat g1, _, rfl, rfl, t, _, _, rfl, rfl, hlt, atI_nat g0, _, rfl, rfl, .inl ⟨rfl, _, SqL.of upd_same⟩, _, upd_same, ?_, ?_, ⟨_, rfl⟩, ?_⟩
      · rw [List.length_map, List.length_range]
        exact Nat.lt_of_lt_of_le (show i + 1 < 102 by have := st.1; omega) (by decide)
      · have := winS_succ (w := wn) g0 (by rw [Nat.add_comm]; exact g1)
        show ((winS (chs t) i wn : Nat) : Int) + (((chs t)[wn + i] : Nat) - ((chs t)[i] : Nat)) = _
        omega
      · have := winS_succ (w := wn) g0 (by rw [Nat.add_comm]; exact g1)
        have e6 : ((winS (chs t) i wn : Nat) : Int) + (((chs t)[wn + i] : Nat) - ((chs t)[i] : Nat)) = (winS (chs t) (i + 1) wn : Nat) := by omega
        show upd _ q (.lst (_ ++ [V.int (((winS (chs t) i wn : Nat) : Int) + (((chs t)[wn + i] : Nat) - ((chs t)[i] : Nat)))])) = _
        rw [e6, upd_upd, range_map_succ _ (i + 1)]
    · rintro σ H' ⟨⟨z, rfl⟩, rfl⟩
      walk_at "ev"
      have e5 : (chs t).length - wn + 1 = (chs t).length + 1 - wn := by omega
      refine ⟨_, .inl ⟨SqL.of upd_same, fun l hl => ?_⟩⟩
      refine h3 _ _ ((g2.new hq).new hl) (g2.none tb (upd_none hl).1) ?_
      rw [upd_same, e5]
      rfl
end
end K2

set_option maxRecDepth 100000
set_option maxHeartbeats 4000000
namespace K2
open PySem PySem.Spec PyProof.Rows L2
open XT (pt_chain3)
open SkE (pmk_own1)
local macro_rules | `(tactic| walk_at "ev") => `(tactic| simp only [tSeq, tIfS, tNot, XT.tChain3, rI0, tC, tVar, tRet, tTup, tLst, tCons, tNil, tJs, tFmt, tNext, tTest, tOp, tUn, rI, rU, tCall, tCB, tAnd, tOr, tB, tDrop, tAsg, gName, tAug, tPar, ipI, tBM, rAppend, tSl, rSlS, tPart, tNoPart, rEq, rNe, L2.start, List.map_cons, List.map_nil, List.length_cons, List.length_nil, Nat.reduceAdd, Nat.reduceSub, Nat.sub_self, List.replicate_zero, List.append_nil, List.replicate_succ, List.cons_append, List.nil_append,
  List.getElem?_cons_zero, List.getElem?_cons_succ, Option.some.injEq, exists_eq_left', exists_eq_left, V.int.injEq, V.str.injEq, V.bl.injEq, V.ref.injEq, List.set_cons_zero, List.set_cons_succ, List.cons.injEq, and_true, true_and, reduceCtorEq, false_and, exists_false, false_or, or_false, exists_and_left, and_assoc, decide_eq_true_eq, Bool.not_eq_true', decide_eq_false_iff_not, Bool.not_false, Bool.not_true, if_true, if_false, Bool.false_eq_true, ↓reduceIte])
open XT (Sm pe_msg)
section
variable {P : Program} {w : World} {K : PySem.W.Frag} {mg : Str → Option Value} {base : Heap} {C : Addr} {Ps : List Addr}
def stepN (len m : Int) : Nat := (Builtin.Range.rangeSize 0 len m).toNat
theorem stepN_le {len : Nat} {m : Int} : stepN len m ≤ len := by
  have := rangeSize_toNat_le 0 len m
  unfold stepN
  omega
theorem rgc_step {len m : Int} (h0 : 0 ≤ len) (h1 : len ≤ 1000) (h2 : 1 ≤ m) (h3 : m ≤ 100000) : RgC 0 len m (stepN len m) := by
  have hn := rangeSize_toNat 0 len m
  have hle := rangeSize_toNat_le 0 len m
  refine ⟨by omega, by omega, ?_, hn⟩
  unfold Builtin.Range.small
  generalize Builtin.Range.rangeSize 0 len m = n at hn hle ⊢
  simp only [Builtin.Range.rangeFitsLong, Bool.and_eq_true, Bool.or_eq_true, decide_eq_true_eq, beq_iff_eq]
  have hm : m > 0 := by omega
  rw [if_pos hm]
  simp only [Bool.and_eq_true, decide_eq_true_eq]
  omega
theorem tTupG_rng3 {p : Addr} {ta : TA} {gt : TG} {tt : TT} {te : TE} {ix : List (Option Nat)} {vs : List Nat} {σ : L2.St} {H : Hp} {Q : VK} (i j c : Int) (n : Nat) (ha : ∀ R : List V → Hp → Prop, R [.int i, .int j, .int c] H → ta σ H R) (rc : RgC i j c n) (ht : GxR.TabG H p)
    (h : ∀ H2, GxR.Tabbed p H H2 → ∃ W : Nat → Nat → List V → Hp → Prop, (∃ m, W 0 m [] H2) ∧ GX.LTurn (Itc i c n) gt tt te (GX.capt ix σ) vs (fun out H2 => ∀ p, H2 p = none → Q (.ref p) (upd H2 p (.tup out))) W) : GX.tTupG (GX.tGenL p (iRng3 ta) gt tt te ix vs) σ H Q := ha _ ⟨i, j, c, n, rfl, rc, ht, h⟩
def evenV (t : Str) (m : Int) : List V := (List.range (stepN t.length m)).map fun i => .str (cutS t (some (0 + (i : Nat) * m)) (some (0 + (i : Nat) * m + m)))
def sp_even (C : Addr) (Ps : List Addr) : Sp := fun vs H Q E => ∃ (t : Str) (m : Int), vs = [.str t, .int m] ∧ SmT t ∧ Sm m ∧ Tb Ps H ∧ (m < 1 → E (.ref C) none H) ∧ (1 ≤ m → NewT Ps H (evenV t m) Q)
abbrev s_even : Stmt := topS 13
theorem sc_even : FnScope ["text", "size"] ["text", "size"] (defScope s_even) := ⟨rfl, rfl, rfl, by decide +kernel, rfl, by decide +kernel, by decide +kernel⟩
theorem gs_even0 : GX.GScp ["text", "size"] (defScope s_even) { kind := ScopeKind.function, names := [(".0", NameKind.local), ("place", NameKind.local), ("size", NameKind.free), ("text", NameKind.free)], isGenerator := true, isCoroutine := false } ["place", "text", "size"] [none, some 0, some 1] := GX.gsc_by (by decide +kernel)
theorem ok_even {f c p : Addr} {fd : FuncData} {k : Nat} (F : FunC K "even" "even" s_even f fd c) (TB : GxR.TabB base mg c p) (hp : p ∈ Ps) (T : Txt K mg C) : FnOk P w K mg base (L2.CX P w) (k + 8) f fd ["text", "size"] (sp_even C Ps) := by
  refine F.okX sc_even (fun vs H Q E h => ?_) (fun A outer s H vs Q E hr h => ?_)
  · obtain ⟨t, m, rfl, _⟩ := h
    rfl
  · obtain ⟨t, m, rfl, st, sm, tb, h1, h2⟩ := h
    have hr0 : Room k (A.deeper (envOfC "even" (defScope s_even) s.heap.objs.size f (.ref c))) := hr.mono (by omega)
    have hr1 : Room (k + 6) (A.deeper (envOfC "even" (defScope s_even) s.heap.objs.size f (.ref c))) := hr.mono (by omega)
    refine ⟨_, (pss_cons (ps_if (pt_cmpR op_lt (pv 1) pe_int (nomark _))
      (pss_one (ps_raise rfl (takes_of rfl rfl rfl rfl) (pmk_own1 PySem.F.excBase_ValueError T.x_BadSize T.g_BadSize T.k_BadSize (raises_own T.b_BadSize T.t_BadSize) (by rfl) (pe_msg (.cons (.lit (by decide)) (.cons (.var (pv 1)) .nil)))))) pss_nil)
    (pss_one (ps_ret (GX.pe_tupG (k := k + 1) (GX.pgen_exp (Ng := ["place", "text", "size"]) (ix := [none, some 0, some 1]) (vs := [0]) (k := k) hr0 TB rfl gs_even0 (pi_range3 (by rfl) T.z_range (pa_cons pe_int (pa_cons (pe_callB call_len_str (by rfl) T.z_len (by decide +kernel) (pa_cons (pv 0) pa_nil)) (pa_cons (pv 1) pa_nil)))) (fun _ _ _ _ _ _ _ => (pg_name (i := 0) gs_even0.nd rfl (.inl rfl))) (fun _ _ _ _ _ _ _ hr => pts_nil) (fun _ _ _ _ _ _ _ hr => (pe_slice sl_str (pv 1) (po_some (pv 0)) (po_some (pe_op op_add (pv 0) (pv 2)))))) hr1 (by rfl) T.z_tuple (by decide +kernel))))), ?_⟩
    walk_at "ev"
    have hlt : t.length ≤ sizeLine := Nat.le_trans st.1 (by decide)
    by_cases c1 : m < 1
    · rw [if_pos c1]
      exact ⟨sm, fun _ => h1 c1⟩
    rw [if_neg c1]
    have h3 := h2 (by omega)
    have hn : stepN t.length m ≤ t.length := stepN_le
    refine tTupG_rng3 0 t.length m (stepN t.length m) (fun R r => ?_) (rgc_step (by omega) (by have := st.1; omega) (by omega) sm.2) (tb p hp) (fun H2 hh => ?_)
    · walk_at "ev"
      exact ⟨hlt, r⟩
    have g2 : Gw Ps H H2 := (Gw.refl tb).tab hp hh
    refine XT.lturn_pure (stepN t.length m) (fun i => some (.str (cutS t (some (0 + (i : Nat) * m)) (some (0 + (i : Nat) * m + m))))) (Nat.le_trans hn hlt) (fun i hi => hi) (Nat.le_refl _) (fun i hi y H' hy ys Nx hl hnx => ?_) ?_
    · obtain ⟨rfl, rfl⟩ := hy
      refine ⟨rfl, ?_⟩
      simp only [tYes, ↓reduceIte, GX.capt, wipe, List.map_cons, List.map_nil, List.getElem?_cons_zero, List.getElem?_cons_succ, Option.getD_some, List.set_cons_zero, List.set_cons_succ]
      walk_at "ev"
      exact ⟨hlt, hl, hnx⟩
    · rw [XT.fm_some]
      intro q hq
      exact h3 _ q (g2.new hq) (g2.none tb hq) upd_same
end
end K2

set_option maxRecDepth 100000
set_option maxHeartbeats 4000000
namespace K2
open PySem PySem.Spec PyProof.Rows L2
open XT (pt_chain3)
open SkE (pmk_own1)
local macro_rules | `(tactic| walk_at "ev") => `(tactic| simp only [tSeq, tIfS, tNot, XT.tChain3, rI0, tC, tVar, tRet, tTup, tLst, tCons, tNil, tJs, tFmt, tNext, tTest, tOp, tUn, rI, rU, tCall, tCB, tAnd, tOr, tB, tDrop, tAsg, gName, tAug, tPar, ipI, tBM, rAppend, tSl, rSlS, tPart, tNoPart, rEq, rNe, L2.start, List.map_cons, List.map_nil, List.length_cons, List.length_nil, Nat.reduceAdd, Nat.reduceSub, Nat.sub_self, List.replicate_zero, List.append_nil, List.replicate_succ, List.cons_append, List.nil_append,
  List.getElem?_cons_zero, List.getElem?_cons_succ, Option.some.injEq, exists_eq_left', exists_eq_left, V.int.injEq, V.str.injEq, V.bl.injEq, V.ref.injEq, List.set_cons_zero, List.set_cons_succ, List.cons.injEq, and_true, true_and, reduceCtorEq, false_and, exists_false, false_or, or_false, exists_and_left, and_assoc, decide_eq_true_eq, Bool.not_eq_true', decide_eq_false_iff_not, Bool.not_false, Bool.not_true, if_true, if_false, Bool.false_eq_true, ↓reduceIte])
open XT (Sm pe_msg)
section
variable {P : Program} {w : World} {K : PySem.W.Frag} {mg : Str → Option Value} {base : Heap} {C : Addr} {Ps : List Addr}
theorem chs_append (a b : Str) : chs (a ++ b) = chs a ++ chs b := by
  show (a.cps ++ b.cps).toList = a.cps.toList ++ b.cps.toList
  simp
theorem chs_join (e : Str) (he : chs e = []) : ∀ ys : List Str, chs (Str.join e ys) = (ys.map chs).flatten
  | [] => rfl
  | [x] => by
    show chs x = _
    simp
  | x :: y :: r => by
    show chs (x ++ e ++ Str.join e (y :: r)) = _
    rw [chs_append, chs_append, he, chs_join e he (y :: r)]
    simp
theorem chs_inj {a b : Str} (h : chs a = chs b) : a = b := by
  cases a with
  | mk a =>
    cases b with
    | mk b =>
      have : a = b := Array.toList_inj.mp h
      rw [this]
def qCont (K : PySem.W.Frag) (t : Bool) (p : Addr) (te : TE) (ix : List (Option Nat)) (σ : L2.St) (Q : VK) : V → Hp → Prop := fun x H1 => ∃ a, x = .ref a ∧ (∃ xs, SqL K H1 a xs) ∧ (GxR.TabG H1 p ∧ ∀ H2, GxR.Tabbed p H1 H2 →
  ∃ W : Nat → Nat → Hp → Prop, (∃ m, W 0 m H2) ∧ GX.QTurn t (Itl K a) (gName 0) tYes te (GX.capt ix σ) [0] Q W)
theorem tQuant_by {K : PySem.W.Frag} {t : Bool} {p : Addr} {te0 : TE} {te : TE} {ix : List (Option Nat)} {σ : L2.St} {H : Hp} {Q : VK} (h : te0 σ H (qCont K t p te ix σ Q)) : GX.tQuant t p (iList K te0) (gName 0) tYes te ix [0] σ H Q := h
theorem qCont_list {K : PySem.W.Frag} {t : Bool} {p : Addr} {te : TE} {ix : List (Option Nat)} {σ : L2.St} {Q : VK} {a : Addr} {xs : List V} {Hm : Hp} (ht : GxR.TabG Hm p)
    (hl : ∀ H2, GxR.Tabbed p Hm H2 → SqL K H2 a xs) (hl0 : SqL K Hm a xs) (fx : V → Bool)
    (hs : ∀ x ∈ xs, ∀ (H2 : Hp) (R : VK), R (.bl (fx x)) H2 → te ((wipe (GX.capt ix σ) [0]).set 0 (some x)) H2 R) (hw : ∀ x, wipe ((wipe (GX.capt ix σ) [0]).set 0 (some x)) [0] = wipe (GX.capt ix σ) [0])
    (h1 : (∀ x ∈ xs, fx x = t) → ∀ H2, GxR.Tabbed p Hm H2 → Q (.bl t) H2) (h2 : (∃ x ∈ xs, fx x ≠ t) → ∀ H2, GxR.Tabbed p Hm H2 → Q (.bl (!t)) H2) : qCont K t p te ix σ Q (.ref a) Hm := by
  refine ⟨a, rfl, ⟨xs, hl0⟩, ht, fun H2 hh => ?_⟩
  have hl2 := hl H2 hh
  refine XT.qturn_pure xs.length (fun i => match xs[i]? with | some x => fx x | none => t) (fun i hi => ⟨xs, xs[i], hl2, List.getElem?_eq_getElem hi⟩) ⟨xs, hl2, Nat.le_refl _⟩ (fun i hi y H' hy Nx hn1 hn2 => ?_) (fun hall => h1 (fun x hx => ?_) H2 hh) (fun ⟨i, hi, he⟩ => h2 ?_ H2 hh)
  · obtain ⟨rfl, hy⟩ := hy
    have e := hy xs hl2
    simp only [e] at hn1 hn2
    refine ⟨hw y, ?_⟩
    simp only [tYes, ↓reduceIte]
    refine hs y (List.mem_of_getElem? e) H' _ ⟨_, rfl, ?_⟩
    by_cases c : fx y = t
    · rw [if_pos c]; exact hn1 c
    · rw [if_neg c]; exact hn2 c
  · obtain ⟨i, hi, e⟩ := List.mem_iff_getElem.mp hx
    have := hall i hi
    simp only [List.getElem?_eq_getElem hi, e] at this
    exact this
  · simp only [List.getElem?_eq_getElem hi] at he
    exact ⟨xs[i], List.getElem_mem hi, he⟩
abbrev s_check_pieces : Stmt := topS 19
theorem sc_check_pieces : FnScope ["text", "pieces", "least", "most"] ["text", "pieces", "least", "most"] (defScope s_check_pieces) := ⟨rfl, rfl, rfl, by decide +kernel, rfl, by decide +kernel, by decide +kernel⟩
theorem gs_cp0 : GX.GScp ["text", "pieces", "least", "most"] (defScope s_check_pieces) { kind := ScopeKind.function, names := [(".0", NameKind.local), ("piece", NameKind.local)], isGenerator := true, isCoroutine := false } ["piece"] [none] := GX.gsc_by (by decide +kernel)
theorem gs_cp1 : GX.GScp ["text", "pieces", "least", "most"] (defScope s_check_pieces) { kind := ScopeKind.function, names := [(".0", NameKind.local), ("piece", NameKind.local), ("least", NameKind.free), ("most", NameKind.free), ("len", NameKind.globalImplicit)], isGenerator := true, isCoroutine := false } ["piece", "least", "most"] [none, some 2, some 3] := GX.gsc_by (by decide +kernel)
theorem gs_cp2 : GX.GScp ["text", "pieces", "least", "most"] (defScope s_check_pieces) { kind := ScopeKind.function, names := [(".0", NameKind.local), ("piece", NameKind.local), ("most", NameKind.free), ("len", NameKind.globalImplicit)], isGenerator := true, isCoroutine := false } ["piece", "most"] [none, some 3] := GX.gsc_by (by decide +kernel)
/-- the pieces are the text's, none bare, within the bounds -/
def GoodP (t : Str) (xs : List Str) (l m : Int) : Prop := (xs.map chs).flatten = chs t ∧ (∀ x ∈ xs, x.length ≠ 0) ∧ (∀ x ∈ xs.dropLast, l ≤ x.length ∧ (x.length : Int) ≤ m) ∧ ∀ x ∈ xs, (x.length : Int) ≤ m
def sp_check_pieces (K : PySem.W.Frag) (C : Addr) (Ps : List Addr) : Sp := fun vs H Q E => ∃ (t : Str) (a : Addr) (xs : List Str) (l m : Int), vs = [.str t, .ref a, .int l, .int m] ∧ t.length ≤ 1000 ∧ SqL K H a (xs.map V.str) ∧ xs.length ≤ 1000 ∧ (∀ x ∈ xs, x.length ≤ 1000) ∧ Sm l ∧ Sm m ∧ Tb Ps H ∧
  (¬ GoodP t xs l m → ∀ H', Gw Ps H H' → E (.ref C) none H') ∧ (GoodP t xs l m → ∀ H', Gw Ps H H' → Q (.int (xs.length : Nat)) H')
theorem ok_check_pieces {f c p : Addr} {fd : FuncData} {k : Nat} (F : FunC K "check_pieces" "check_pieces" s_check_pieces f fd c) (TB : GxR.TabB base mg c p) (hp : p ∈ Ps) (T : Txt K mg C) : FnOk P w K mg base (L2.CX P w) (k + 8) f fd ["text", "pieces", "least", "most"] (sp_check_pieces K C Ps) := by
  refine F.okX sc_check_pieces (fun vs H Q E h => ?_) (fun A outer s H vs Q E hr h => ?_)
  · obtain ⟨t, a, xs, l, m, rfl, _⟩ := h
    rfl
  · obtain ⟨t, a, xs, l, m, rfl, tl, hx, nx, lx, sl, sm, tb, h1, h2⟩ := h
    have hr0 : Room (k + 1) (A.deeper (envOfC "check_pieces" (defScope s_check_pieces) s.heap.objs.size f (.ref c))) := hr.mono (by omega)
    refine ⟨_, (pss_cons (ps_if (PW.pt (pw_or (pt_cmpR op_ne (pe_join pe_str (pv 1)) (pv 0) (nomark _)) (pw_or1 (pt_val (GX.pe_anyG (k := k) (vs := [0]) hr0 (by rfl) T.z_any TB rfl gs_cp0 (pi_list (pv 1)) (fun _ _ _ _ _ _ _ => (pg_name (i := 0) gs_cp0.nd rfl (.inl rfl))) (fun _ _ _ _ _ _ _ hr => pts_nil) (fun _ _ _ _ _ _ _ hr => (pe_cmpR op_eq (pv 0) pe_str (nomark _))))))))
      (pss_one (ps_raise rfl (takes_of rfl rfl rfl rfl) (pmk_own1 PySem.F.excBase_ValueError T.x_BadSize T.g_BadSize T.k_BadSize (raises_own T.b_BadSize T.t_BadSize) (by rfl) pe_str))) pss_nil)
    (pss_cons (ps_if (PW.pt (pw_or (pt_val (GX.pe_anyG (k := k) (vs := [0]) hr0 (by rfl) T.z_any TB rfl gs_cp1 (pi_list (pe_slice sl_list (pv 1) po_none (po_some (pe_un un_neg pe_int)))) (fun _ _ _ _ _ _ _ => (pg_name (i := 0) gs_cp1.nd rfl (.inl rfl))) (fun _ _ _ _ _ _ _ hr => pts_nil) (fun _ _ _ _ _ _ _ hr => (pe_not (pe_chain op_le op_le (pv 1) (pe_callB call_len_str (by rfl) T.z_len (by decide +kernel) (pa_cons (pv 0) pa_nil)) (pv 2)))))) (pw_or1 (pt_val (GX.pe_anyG (k := k) (vs := [0]) hr0 (by rfl) T.z_any TB rfl gs_cp2 (pi_list (pv 1)) (fun _ _ _ _ _ _ _ => (pg_name (i := 0) gs_cp2.nd rfl (.inl rfl))) (fun _ _ _ _ _ _ _ hr => pts_nil) (fun _ _ _ _ _ _ _ hr => (pe_cmpR op_gt (pe_callB call_len_str (by rfl) T.z_len (by decide +kernel) (pa_cons (pv 0) pa_nil)) (pv 1) (nomark _))))))))
      (pss_one (ps_raise rfl (takes_of rfl rfl rfl rfl) (pmk_own1 PySem.F.excBase_ValueError T.x_BadSize T.g_BadSize T.k_BadSize (raises_own T.b_BadSize T.t_BadSize) (by rfl) (pe_msg (.cons (.lit (by decide)) (.cons (.var (pv 2)) (.cons (.lit (by decide)) (.cons (.var (pv 3)) .nil)))))))) pss_nil)
    (pss_one (ps_ret (pe_callB call_len_seq (by rfl) T.z_len (by decide +kernel) (pa_cons (pv 1) pa_nil)))))), ?_⟩
    walk_at "ev"
    have hb : Str.ofString "" = Str.empty := rfl
    refine ⟨⟨_, rfl⟩, .ref a, rfl, _, rfl, a, rfl, xs, .inl hx, ?_, rfl, ?_⟩
    · have : ∀ ys : List Str, (∀ x ∈ ys, x.length ≤ 1000) → (ys.map (·.length)).sum ≤ 1000 * ys.length := by
        intro ys
        induction ys with
        | nil => intro _; exact Nat.le_refl _
        | cons y r ih =>
          intro h
          have a1 := h y (List.mem_cons_self ..)
          have a2 := ih fun x hx => h x (List.mem_cons_of_mem _ hx)
          rw [List.map_cons, List.sum_cons, List.length_cons]
          omega
      have a1 := this xs lx
      have a2 : (Str.ofString "").length = 0 := rfl
      rw [a2]
      omega
    have ej : chs (Txt.join (Str.ofString "") xs) = (xs.map chs).flatten := by
      rw [TL.join_eq]
      exact chs_join _ rfl xs
    have inj : ∀ {b : Str}, V.str b = V.str t ↔ b = t := fun {b} => ⟨fun z => V.str.inj z, fun z => by rw [z]⟩
    by_cases c1 : Txt.join (Str.ofString "") xs = t
    · rw [if_neg (fun z => z (inj.mpr c1))]
      have ef : (xs.map chs).flatten = chs t := by rw [← ej, c1]
      refine tQuant_by ⟨_, rfl, qCont_list (xs := xs.map V.str) (tb p hp) (fun H2 hh => ((Gw.refl tb).tab hp hh).sqL tb hx) hx (fun x => decide (x = V.str (Str.ofString ""))) ?_ (fun x => rfl) ?_ ?_⟩
      · intro x hx2 H2 R r
        obtain ⟨y, _, rfl⟩ := List.mem_map.mp hx2
        simp only [GX.capt, wipe, List.map_cons, List.map_nil, List.set_cons_zero]
        walk_at "ev"
        refine ⟨rfl, ?_⟩
        have e : decide (V.str y = V.str (Str.ofString "")) = decide (y = Str.ofString "") := by simp
        rw [← e]
        exact r
      · intro hall H2 hh
        have g2 : Gw Ps H H2 := (Gw.refl tb).tab hp hh
        have hx2 := g2.sqL tb hx
        refine ⟨_, rfl, ?_⟩
        rw [if_neg (by decide)]
        have q1 : ∀ x ∈ xs, x.length ≠ 0 := fun x hx3 z => by
          have := hall (.str x) (List.mem_map.mpr ⟨x, hx3, rfl⟩)
          have e0 : x = Str.ofString "" := chs_inj (List.eq_nil_of_length_eq_zero (by rw [chs_len]; exact z))
          rw [e0] at this
          simp at this
        have ecut : cutV (xs.map V.str) none (some (-1)) = xs.dropLast.map V.str := by
          unfold cutV
          have e1 : HT.sIx (xs.map V.str).length 0 none = 0 := rfl
          have e2 : HT.sIx (xs.map V.str).length (xs.map V.str).length (some (-1)) = xs.length - 1 := by
            show (if (-1 : Int) < 0 then ((-1 : Int) + (((xs.map V.str).length : Nat) : Int)).toNat else min (-1 : Int).toNat (xs.map V.str).length) = _
            rw [if_pos (by decide), List.length_map]
            omega
          rw [e1, e2, List.drop_zero, Nat.sub_zero, ← List.map_take, List.dropLast_eq_take]
        refine tQuant_by ?_
        walk_at "ev"
        refine ⟨a, _, rfl, hx2, fun q hq => ?_⟩
        rw [ecut]
        have g3 : Gw Ps H (upd H2 q (.lst (xs.dropLast.map V.str))) := g2.new hq
        have nqp : q ≠ p := fun z => g2.1.none hq (by rw [z]; exact hp)
        refine qCont_list (xs := xs.dropLast.map V.str) (g3.1 p hp) (fun H3 h3 => SqL.of (by rw [h3.2 q nqp]; exact upd_same)) (SqL.of upd_same) (fun x => match x with | .str y => decide (¬ (l ≤ (y.length : Nat) ∧ ((y.length : Nat) : Int) ≤ m)) | _ => false) ?_ (fun x => rfl) ?_ ?_
        · intro x hx2 H2 R r
          obtain ⟨y, hy, rfl⟩ := List.mem_map.mp hx2
          simp only [GX.capt, wipe, List.map_cons, List.map_nil, List.set_cons_zero, tNotV, tChain, List.getElem?_cons_zero, List.getElem?_cons_succ, Option.getD_some]
          walk_at "ev"
          simp only [] at r
          refine ⟨Nat.le_trans (lx y ((List.dropLast_sublist xs).subset hy)) (by decide), ?_⟩
          by_cases d : l ≤ (y.length : Nat)
          · rw [if_pos d]
            have e : (!decide (((y.length : Nat) : Int) ≤ m)) = decide (¬ (l ≤ (y.length : Nat) ∧ ((y.length : Nat) : Int) ≤ m)) := by
              by_cases d2 : ((y.length : Nat) : Int) ≤ m
              · have d3 : ¬ m < (y.length : Nat) := by omega
                simp [d, d2, d3]
              · have d3 : m < (y.length : Nat) := by omega
                simp [d, d2, d3]
            rw [e]
            exact r
          · rw [if_neg d]
            have e : true = decide (¬ (l ≤ (y.length : Nat) ∧ ((y.length : Nat) : Int) ≤ m)) := by simp [d]
            rw [e]
            exact r
        · intro hall2 H3 h3
          have g4 : Gw Ps H H3 := g3.tab hp h3
          have hx3 := g4.sqL tb hx
          refine ⟨_, rfl, ?_⟩
          rw [if_neg (by decide)]
          have q2 : ∀ x ∈ xs.dropLast, l ≤ (x.length : Nat) ∧ ((x.length : Nat) : Int) ≤ m := fun x hx3 => by
            have := hall2 (.str x) (List.mem_map.mpr ⟨x, hx3, rfl⟩)
            simp only [decide_eq_false_iff_not] at this
            exact Classical.not_not.mp this
          refine tQuant_by ⟨_, rfl, qCont_list (xs := xs.map V.str) (g4.1 p hp) (fun H2 hh => (g4.tab hp hh).sqL tb hx) hx3 (fun x => match x with | .str y => decide (m < (y.length : Nat)) | _ => false) ?_ (fun x => rfl) ?_ ?_⟩
          · intro x hx2 H2 R r
            obtain ⟨y, hy, rfl⟩ := List.mem_map.mp hx2
            simp only [GX.capt, wipe, List.map_cons, List.map_nil, List.set_cons_zero, List.getElem?_cons_zero, List.getElem?_cons_succ, Option.getD_some]
            walk_at "ev"
            exact ⟨Nat.le_trans (lx y hy) (by decide), r⟩
          · intro hall3 H4 h4
            have g5 : Gw Ps H H4 := g4.tab hp h4
            refine ⟨_, rfl, ?_⟩
            rw [if_neg (by decide)]
            refine ⟨_, .inl (g5.sqL tb hx), ?_⟩
            rw [List.length_map]
            refine h2 ⟨ef, q1, q2, fun x hx3 => ?_⟩ H4 g5
            have := hall3 (.str x) (List.mem_map.mpr ⟨x, hx3, rfl⟩)
            simp only [decide_eq_false_iff_not] at this
            omega
          · intro hex H4 h4
            refine ⟨_, rfl, ?_⟩
            rw [if_pos (by decide)]
            refine ⟨sl, sm, fun _ => h1 (fun z => ?_) H4 (g4.tab hp h4)⟩
            obtain ⟨v, hv, hd⟩ := hex
            obtain ⟨y, hy, rfl⟩ := List.mem_map.mp hv
            have a1 := z.2.2.2 y hy
            simp only [ne_eq, decide_eq_false_iff_not] at hd
            exact hd (fun z => by omega)
        · intro hex H3 h3
          refine ⟨_, rfl, ?_⟩
          rw [if_pos (by decide)]
          refine ⟨sl, sm, fun _ => h1 (fun z => ?_) H3 (g3.tab hp h3)⟩
          obtain ⟨v, hv, hd⟩ := hex
          obtain ⟨y, hy, rfl⟩ := List.mem_map.mp hv
          have a1 := z.2.2.1 y hy
          simp only [ne_eq, decide_eq_false_iff_not] at hd
          exact hd (fun z => z a1)
      · intro hex H2 hh
        have g2 : Gw Ps H H2 := (Gw.refl tb).tab hp hh
        refine ⟨_, rfl, ?_⟩
        rw [if_pos (by decide)]
        refine h1 (fun z => ?_) H2 g2
        obtain ⟨v, hv, hd⟩ := hex
        obtain ⟨y, hy, rfl⟩ := List.mem_map.mp hv
        refine z.2.1 y hy ?_
        have e0 : y = Str.ofString "" := by
          have : decide (V.str y = V.str (Str.ofString "")) = true := by
            cases e : decide (V.str y = V.str (Str.ofString "")) with
            | true => rfl
            | false => exact absurd e hd
          exact V.str.inj (of_decide_eq_true this)
        rw [e0]
        rfl
    · rw [if_pos (fun z => c1 (inj.mp z))]
      refine h1 (fun z => c1 (chs_inj ?_)) H (Gw.refl tb)
      rw [ej]
      exact z.1
end
end K2

set_option maxRecDepth 100000
set_option maxHeartbeats 4000000
namespace K2
open PySem PySem.Spec PyProof.Rows L2
open XT (pt_chain3)
open SkE (pmk_own1)
local macro_rules | `(tactic| walk_at "ev") => `(tactic| simp only [tSeq, tIfS, tNot, XT.tChain3, rI0, tC, tVar, tRet, tTup, tLst, tCons, tNil, tJs, tFmt, tNext, tTest, tOp, tUn, rI, rU, tCall, tCB, tAnd, tOr, tB, tDrop, tAsg, gName, tAug, tPar, ipI, tBM, rAppend, tSl, rSlS, tPart, tNoPart, rEq, rNe, L2.start, List.map_cons, List.map_nil, List.length_cons, List.length_nil, Nat.reduceAdd, Nat.reduceSub, Nat.sub_self, List.replicate_zero, List.append_nil, List.replicate_succ, List.cons_append, List.nil_append,
  List.getElem?_cons_zero, List.getElem?_cons_succ, Option.some.injEq, exists_eq_left', exists_eq_left, V.int.injEq, V.str.injEq, V.bl.injEq, V.ref.injEq, List.set_cons_zero, List.set_cons_succ, List.cons.injEq, and_true, true_and, reduceCtorEq, false_and, exists_false, false_or, or_false, exists_and_left, and_assoc, decide_eq_true_eq, Bool.not_eq_true', decide_eq_false_iff_not, Bool.not_false, Bool.not_true, if_true, if_false, Bool.false_eq_true, ↓reduceIte])
open XT (Sm pe_msg)
section
variable {X : Cx}
/-- set(xs), a list of texts -/
def rSetS (K : PySem.W.Frag) (P : Program) (w : World) : List V → Hp → VK → Prop := fun vs H Q => ∃ (l : Addr) (ys : List Str), vs = [V.ref l] ∧ SqL K H l (ys.map V.str) ∧ ys.length ≤ 1000 ∧
  ∀ (p : Addr) (S : Key → Bool) (n : Nat), H p = none → (∀ y : Str, S (.inr y) = decide (y ∈ ys)) → Q (.ref p) (upd H p (SetK P w p S n))
theorem cr_setS (hc : X.calm = true) : CallR X (.type "set") (rSetS X.K X.prog X.w) := by
  intro pins s σ H vs us Q I r h
  obtain ⟨l, ys, rfl, hl, ln, q⟩ := h
  rw [Vals.ref1 r]
  obtain ⟨its, rv, pl, hz⟩ := I.list hl
  have hlen : its.length = ys.length := by
    have := rv.length
    rw [List.length_map] at this
    exact this.symm
  have hsz : its.toArray.size = ys.length := by rw [List.size_toArray]; exact hlen
  have isK : ∀ i v, its.toArray[i]? = some v → (mixKind X.prog X.w).is (.inr (ys.getD i Str.empty)) v = true ∧ v.scannable = true := fun i v e => by
    obtain ⟨t, rfl⟩ := SS.strs_at (strsAre_of rv) i v (by simpa using e)
    exact ⟨mixKind_str X.prog X.w _ t, rfl⟩
  refine SK.call_set_of_list (knd := mixKind X.prog X.w) (fun i => .inr (ys.getD i Str.empty)) (I.ok.hd hc) pl.isList isK (by rw [hsz]; unfold scanBound; omega) fun h' tk c so lc kp => ?_
  have hn : H s.heap.objs.size = none := I.hok.fresh (Nat.le_refl _)
  refine ⟨.ref s.heap.objs.size, upd H s.heap.objs.size (SetK X.prog X.w s.heap.objs.size _ c), I.laid (t' := tk) (fun b o e => kp b o (Heap.lt_size e) e) (Nat.le_refl _) (setK_new so), rfl, q _ _ _ hn fun y => ?_⟩
  unfold SK.among
  rw [hsz]
  by_cases m : y ∈ ys
  · rw [decide_eq_true m, List.any_eq_true]
    obtain ⟨i, hi, e⟩ := List.mem_iff_getElem.mp m
    refine ⟨i, List.mem_range.mpr hi, ?_⟩
    show decide ((Sum.inr (ys.getD i Str.empty) : Key) = Sum.inr y) = true
    rw [List.getD_eq_getElem?_getD, List.getElem?_eq_getElem hi, e]
    simp
  · rw [decide_eq_false m, List.any_eq_false]
    intro i hi z
    have hi := List.mem_range.mp hi
    have z : decide ((Sum.inr (ys.getD i Str.empty) : Key) = Sum.inr y) = true := z
    rw [List.getD_eq_getElem?_getD, List.getElem?_eq_getElem hi] at z
    have z := of_decide_eq_true z
    exact m (by have e := Sum.inr.inj z; rw [← e]; exact List.getElem_mem hi)
end
section
variable {P : Program} {w : World} {K : PySem.W.Frag} {mg : Str → Option Value} {base : Heap} {C : Addr} {Ps : List Addr}
abbrev s_shared_pieces : Stmt := topS 17
theorem sc_shared_pieces : FnScope ["one", "other", "known", "piece"] ["one", "other"] (defScope s_shared_pieces) := ⟨rfl, rfl, rfl, by decide +kernel, rfl, by decide +kernel, by decide +kernel⟩
theorem bk_sp : BlkOk ["one", "other", "known", "piece"] (defScope s_shared_pieces) { kind := ScopeKind.function, names := [(".0", NameKind.local), ("piece", NameKind.local), ("known", NameKind.free)], isGenerator := false, isCoroutine := false } [("piece", 3)] := blkOk_by (by decide +kernel)
def sp_shared_pieces (K : PySem.W.Frag) (Ps : List Addr) : Sp := fun vs H Q E => ∃ (a b : Addr) (xs ys : List Str), vs = [.ref a, .ref b] ∧ SqL K H a (xs.map V.str) ∧ SqT K H b (ys.map V.str) ∧ xs.length ≤ 1000 ∧ ys.length ≤ 1000 ∧ Tb Ps H ∧ ∀ H', Gw Ps H H' → Q (.int ((ys.filter fun y => decide (y ∈ xs)).length : Nat)) H'
theorem ok_shared_pieces {f : Addr} {fd : FuncData} {k : Nat} (F : Fun K "shared_pieces" "shared_pieces" s_shared_pieces f fd) (T : Txt K mg C) : FnOk P w K mg base (L2.CX P w) (k + 1) f fd ["one", "other"] (sp_shared_pieces K Ps) := by
  refine F.okX sc_shared_pieces (fun vs H Q E h => ?_) (fun cdv A outer s H vs Q E hr h => ?_)
  · obtain ⟨a, b, xs, ys, rfl, _⟩ := h
    rfl
  · obtain ⟨a, b, xs, ys, rfl, hx, hy, nx, ny, tb, hq⟩ := h
    refine ⟨_, (pss_cons (ps_set (i := 2) sc_shared_pieces.nd rfl (.inr rfl) (pe_callTy (cr_setS rfl) (by rfl) T.z_set (by decide +kernel) (pa_cons (pv 0) pa_nil)))
    (pss_one (ps_ret (pe_callB call_len_seq (by rfl) T.z_len (by decide +kernel) (pa_cons (pe_lc (own := [("piece", 3)]) rfl sc_shared_pieces.nd (pi_tup (pv 1)) bk_sp (fun _ _ _ _ _ => (pg_name (i := 3) sc_shared_pieces.nd rfl (.inl rfl))) (fun _ _ _ _ _ => (pts_one (pt_cmpR (r := rSInK P w false) or_sinK (pv 3) (pv 2) (by with_unfolding_all rfl)))) (fun _ _ _ _ _ => (pv 3))) pa_nil))))), ?_⟩
    walk_at "ev"
    refine ⟨a, xs, rfl, hx, nx, fun p S n hp hS => ?_⟩
    have g1 : Gw Ps H (upd H p (SetK P w p S n)) := (Gw.refl tb).new hp
    refine ⟨_, rfl, b, rfl, ⟨_, g1.sqT tb hy⟩, fun D hD => ?_⟩
    have g2 : ∀ o, Gw Ps H (upd (upd H p (SetK P w p S n)) D o) := fun o => g1.new hD
    have npD : p ≠ D := fun z => by
      rw [← z, upd_same] at hD
      cases hD
    refine XT.lc_pure (J := Itt K b) ys.length (fun i => (ys[i]?).bind fun y => if y ∈ xs then some (.str y) else none) (Nat.le_trans ny (by decide))
      (fun i acc hi => ⟨_, .str ys[i], (g2 _).sqT tb hy, by rw [List.getElem?_map, List.getElem?_eq_getElem hi]; rfl⟩) (fun acc => ⟨_, (g2 _).sqT tb hy, by rw [List.length_map]; exact Nat.le_refl _⟩) (fun i acc hi x H' hyl Nx hl hnx => ?_) ?_
    · obtain ⟨rfl, hyl⟩ := hyl
      have e := hyl _ ((g2 _).sqT tb hy)
      rw [List.getElem?_map, List.getElem?_eq_getElem hi] at e
      obtain rfl : V.str ys[i] = x := Option.some.inj e
      rw [List.getElem?_eq_getElem hi] at hnx
      simp only [Option.bind_some] at hnx
      refine ⟨rfl, ?_⟩
      simp only [wipe, List.set_cons_zero, List.set_cons_succ]
      walk_at "ev"
      refine ⟨.inr ys[i], p, S, n, rfl, rfl, by rw [upd_ne npD]; exact upd_same, _, rfl, ?_⟩
      rw [hS]
      simp only [Bool.false_eq_true, if_false, decide_eq_true_eq]
      by_cases m : ys[i] ∈ xs
      · rw [if_pos m] at hnx ⊢
        refine ⟨acc, upd_same, hl, ?_⟩
        rw [upd_upd]
        exact hnx
      · rw [if_neg m] at hnx ⊢
        rw [Option.toList_none, List.append_nil] at hnx
        exact hnx
    · rw [XT.fm_all]
      refine ⟨D, rfl, _, .inl (SqL.of upd_same), ?_⟩
      have e : (ys.filterMap fun y => if y ∈ xs then some (V.str y) else none).length = (ys.filter fun y => decide (y ∈ xs)).length := by
        clear hy ny hq
        induction ys with
        | nil => rfl
        | cons y r ih =>
          rw [List.filterMap_cons, List.filter_cons]
          by_cases m : y ∈ xs
          · rw [if_pos m, if_pos (decide_eq_true m)]
            simp only [List.length_cons]
            rw [ih]
          · rw [if_neg m, if_neg (by simpa using m)]
            exact ih
      rw [e]
      exact hq _ (g2 _)
end
end K2

set_option maxRecDepth 100000
set_option maxHeartbeats 4000000
namespace K2
open PySem PySem.Spec PyProof.Rows L2
open XT (pt_chain3)
open SkE (pmk_own1)
local macro_rules | `(tactic| walk_at "ev") => `(tactic| simp only [tSeq, tIfS, tNot, XT.tChain3, rI0, tC, tVar, tRet, tTup, tLst, tCons, tNil, tJs, tFmt, tNext, tTest, tOp, tUn, rI, rU, tCall, tCB, tAnd, tOr, tB, tDrop, tAsg, gName, tAug, tPar, ipI, tBM, rAppend, tSl, rSlS, tPart, tNoPart, rEq, rNe, L2.start, List.map_cons, List.map_nil, List.length_cons, List.length_nil, Nat.reduceAdd, Nat.reduceSub, Nat.sub_self, List.replicate_zero, List.append_nil, List.replicate_succ, List.cons_append, List.nil_append,
  List.getElem?_cons_zero, List.getElem?_cons_succ, Option.some.injEq, exists_eq_left', exists_eq_left, V.int.injEq, V.str.injEq, V.bl.injEq, V.ref.injEq, List.set_cons_zero, List.set_cons_succ, List.cons.injEq, and_true, true_and, reduceCtorEq, false_and, exists_false, false_or, or_false, exists_and_left, and_assoc, decide_eq_true_eq, Bool.not_eq_true', decide_eq_false_iff_not, Bool.not_false, Bool.not_true, if_true, if_false, Bool.false_eq_true, ↓reduceIte])
open XT (Sm pe_msg)
section
variable {P : Program} {w : World} {K : PySem.W.Frag} {mg : Str → Option Value} {base : Heap} {C : Addr} {Ps : List Addr}
def ddStep (acc : List Str) (y : Str) : List Str := if y ∈ acc then acc else acc ++ [y]
/-- each once, as it first stands -/
def dd (l : List Str) : List Str := l.foldl ddStep []
theorem dd_snoc (l : List Str) (y : Str) : dd (l ++ [y]) = if y ∈ dd l then dd l else dd l ++ [y] := by
  unfold dd
  rw [List.foldl_append]
  rfl
def kvOf (v : Str → V) (l : List Str) : List (Key × V) := (dd l).map fun y => (.inr y, v y)
theorem kvOf_snoc (v : Str → V) (l : List Str) (y : Str) : putK (kvOf v l) (.inr y) (v y) = kvOf v (l ++ [y]) := by
  unfold putK kvOf
  rw [dd_snoc]
  by_cases m : y ∈ dd l
  · rw [if_pos m, if_pos, List.map_map]
    · refine List.map_congr_left fun z hz => ?_
      show (if (Sum.inr z : Key) = Sum.inr y then ((Sum.inr z : Key), v y) else (Sum.inr z, v z)) = _
      by_cases e : (Sum.inr z : Key) = Sum.inr y
      · rw [if_pos e]
        have e := Sum.inr.inj e
        rw [e]
      · rw [if_neg e]
    · rw [List.any_eq_true]
      exact ⟨_, List.mem_map.mpr ⟨y, m, rfl⟩, by simp⟩
  · rw [if_neg m, if_neg, List.map_append]
    · rfl
    · intro z
      obtain ⟨q, hq, e⟩ := List.any_eq_true.mp z
      obtain ⟨t, ht, rfl⟩ := List.mem_map.mp hq
      have e := Sum.inr.inj (of_decide_eq_true e)
      exact m (by rw [← e]; exact ht)
theorem dd_len (l : List Str) : (dd l).length ≤ l.length := by
  have : ∀ (l acc : List Str), (l.foldl ddStep acc).length ≤ acc.length + l.length := by
    intro l
    induction l with
    | nil => intro acc; simp
    | cons y r ih =>
      intro acc
      rw [List.foldl_cons, List.length_cons]
      refine Nat.le_trans (ih _) ?_
      unfold ddStep
      split
      · omega
      · rw [List.length_append]; simp; omega
  have := this l []
  unfold dd
  simpa using this
theorem dd_sub (l : List Str) : ∀ y ∈ dd l, y ∈ l := by
  have : ∀ (l acc : List Str), ∀ y ∈ l.foldl ddStep acc, y ∈ acc ∨ y ∈ l := by
    intro l
    induction l with
    | nil => intro acc y h; exact .inl h
    | cons x r ih =>
      intro acc y h
      rw [List.foldl_cons] at h
      rcases ih _ y h with h | h
      · unfold ddStep at h
        split at h
        · exact .inl h
        · rcases List.mem_append.mp h with h | h
          · exact .inl h
          · rw [List.mem_singleton.mp h]; exact .inr (List.mem_cons_self ..)
      · exact .inr (List.mem_cons_of_mem _ h)
  intro y h
  rcases this l [] y h with h | h
  · cases h
  · exact h
theorem sumI_le {is : List Int} {b : Int} (hb : 0 ≤ b) (h : ∀ i ∈ is, 0 ≤ i ∧ i ≤ b) : 0 ≤ is.sum ∧ is.sum ≤ b * is.length := by
  induction is with
  | nil => simp
  | cons x r ih =>
    have h1 := h x (List.mem_cons_self ..)
    have h2 := ih fun c hc => h c (List.mem_cons_of_mem _ hc)
    rw [List.sum_cons, List.length_cons]
    have : b * ((r.length + 1 : Nat) : Int) = b * (r.length : Nat) + b := by
      rw [Int.natCast_add, Int.mul_add]
      simp
    omega
abbrev s_fresh_signs : Stmt := topS 18
theorem sc_fresh_signs : FnScope ["one", "other", "known", "fresh", "piece"] ["one", "other"] (defScope s_fresh_signs) := ⟨rfl, rfl, rfl, by decide +kernel, rfl, by decide +kernel, by decide +kernel⟩
theorem bk_fs : BlkOk ["one", "other", "known", "fresh", "piece"] (defScope s_fresh_signs) { kind := ScopeKind.function, names := [(".0", NameKind.local), ("piece", NameKind.local), ("len", NameKind.globalImplicit), ("known", NameKind.free)], isGenerator := false, isCoroutine := false } [("piece", 4)] := blkOk_by (by decide +kernel)
def freshL (xs ys : List Str) : List Int := (dd (ys.filter fun y => !decide (y ∈ xs))).map fun y => (y.length : Int)
def sp_fresh_signs (K : PySem.W.Frag) (Ps : List Addr) : Sp := fun vs H Q E => ∃ (a b : Addr) (xs ys : List Str), vs = [.ref a, .ref b] ∧ SqL K H a (xs.map V.str) ∧ SqT K H b (ys.map V.str) ∧ xs.length ≤ 1000 ∧ ys.length ≤ 1000 ∧ (∀ y ∈ ys, y.length ≤ 1000) ∧ Tb Ps H ∧ ∀ H', Gw Ps H H' → Q (.int (freshL xs ys).sum) H'
theorem ok_fresh_signs {f : Addr} {fd : FuncData} {k : Nat} (F : Fun K "fresh_signs" "fresh_signs" s_fresh_signs f fd) (T : Txt K mg C) : FnOk P w K mg base (L2.CX P w) (k + 1) f fd ["one", "other"] (sp_fresh_signs K Ps) := by
  refine F.okX sc_fresh_signs (fun vs H Q E h => ?_) (fun cdv A outer s H vs Q E hr h => ?_)
  · obtain ⟨a, b, xs, ys, rfl, _⟩ := h
    rfl
  · obtain ⟨a, b, xs, ys, rfl, hx, hy, nx, ny, ly, tb, hq⟩ := h
    refine ⟨_, (pss_cons (ps_set (i := 2) sc_fresh_signs.nd rfl (.inr rfl) (pe_callTy (cr_setS rfl) (by rfl) T.z_set (by decide +kernel) (pa_cons (pv 0) pa_nil)))
    (pss_cons (SK.ps_setDc (i := 3) (own := [("piece", 4)]) rfl sc_fresh_signs.nd rfl rfl (SK.sw_dict rfl rfl rfl (by rfl)) (pi_tup (pv 1)) bk_fs (fun _ _ _ _ _ => (pg_name (i := 4) sc_fresh_signs.nd rfl (.inl rfl))) (fun _ _ _ _ _ => (pts_one (pt_cmpR (r := rSInK P w true) or_snotinK (pv 4) (pv 2) (by with_unfolding_all rfl)))) (fun _ _ _ _ _ => (pv 4)) (fun _ _ _ _ _ => (pe_callB call_len_str (by rfl) T.z_len (by decide +kernel) (pa_cons (pv 4) pa_nil))))
    (pss_one (ps_ret (SK.pe_sumVals rfl (by rfl) T.z_sum (pv 3)))))), ?_⟩
    walk_at "ev"
    refine ⟨a, xs, rfl, hx, nx, fun p S n hp hS => ?_⟩
    have g1 : Gw Ps H (upd H p (SetK P w p S n)) := (Gw.refl tb).new hp
    refine ⟨_, rfl, b, rfl, ⟨_, g1.sqT tb hy⟩, fun D hD => ?_⟩
    have g2 : ∀ o, Gw Ps H (upd (upd H p (SetK P w p S n)) D o) := fun o => g1.new hD
    have npD : p ≠ D := fun z => by
      rw [← z, upd_same] at hD
      cases hD
    have kvl : ∀ i, (kvOf (fun y => .int (y.length : Nat)) ((ys.take i).filter fun y => !decide (y ∈ xs))).length < sizeLine := fun i => by
      unfold kvOf
      rw [List.length_map]
      refine Nat.lt_of_le_of_lt (Nat.le_trans (dd_len _) (Nat.le_trans (List.length_filter_le _ _) ?_)) (Nat.lt_of_lt_of_le (show ys.length < 1001 by omega) (by decide))
      rw [List.length_take]
      exact Nat.min_le_right _ _
    refine dc_tup (xs := ys.map V.str) (fun i H' => H' = upd (upd H p (SetK P w p S n)) D (.dK (kvOf (fun y => .int (y.length : Nat)) ((ys.take i).filter fun y => !decide (y ∈ xs))))) rfl ?_ ?_ ?_
    · rintro i _ hi rfl
      exact (g2 _).sqT tb hy
    · rintro i x _ e rfl
      rw [List.getElem?_map] at e
      obtain ⟨y, hy2, rfl⟩ := Option.map_eq_some_iff.mp e
      have tk : (ys.take (i + 1)).filter (fun y => !decide (y ∈ xs)) = (ys.take i).filter (fun y => !decide (y ∈ xs)) ++ [y].filter (fun y => !decide (y ∈ xs)) := by
        rw [List.take_add_one, hy2, List.filter_append]
        rfl
      rw [tk]
      refine ⟨rfl, ?_⟩
      simp only [wipe, List.set_cons_zero, List.set_cons_succ]
      walk_at "ev"
      refine ⟨.inr y, p, S, n, rfl, rfl, by rw [upd_ne npD]; exact upd_same, _, rfl, ?_⟩
      rw [hS]
      by_cases m : y ∈ xs
      · have e2 : [y].filter (fun y => !decide (y ∈ xs)) = [] := by simp [m]
        rw [e2, List.append_nil]
        simp [m]
      · have e2 : [y].filter (fun y => !decide (y ∈ xs)) = [y] := by simp [m]
        rw [e2, ← kvOf_snoc]
        simp only [m, decide_false, Bool.not_false, if_true]
        refine ⟨Nat.le_trans (ly y (List.mem_of_getElem? hy2)) (by decide), _, .inr y, rfl, upd_same, kvl i, ?_⟩
        rw [upd_upd]
    · rintro _ rfl
      rw [List.length_map, List.take_length]
      refine ⟨_, rfl, D, _, freshL xs ys, rfl, upd_same, ?_, fun j hj => ?_, hq _ (g2 _)⟩
      · unfold kvOf freshL
        rw [List.map_map, List.map_map]
        rfl
      · have hm : ∀ i ∈ freshL xs ys, (0 : Int) ≤ i ∧ i ≤ 1000 := fun i hi => by
          obtain ⟨y, hy2, rfl⟩ := List.mem_map.mp hi
          have := ly y (List.mem_filter.mp (dd_sub _ y hy2)).1
          omega
        have h1 := hm ((freshL xs ys).getD j 0) (by rw [List.getD_eq_getElem?_getD, List.getElem?_eq_getElem hj]; exact List.getElem_mem hj)
        have h2 := sumI_le (is := (freshL xs ys).take (j + 1)) (b := 1000) (by decide) fun i hi => hm i (List.mem_of_mem_take hi)
        have h3 : ((freshL xs ys).take (j + 1)).length ≤ 1000 := by
          rw [List.length_take]
          refine Nat.le_trans (Nat.min_le_right _ _) ?_
          unfold freshL
          rw [List.length_map]
          exact Nat.le_trans (dd_len _) (Nat.le_trans (List.length_filter_le _ _) ny)
        exact ⟨⟨by omega, by omega⟩, ⟨by omega, by omega⟩⟩
end
end K2

set_option maxRecDepth 100000
set_option maxHeartbeats 4000000
namespace K2
open PySem PySem.Spec PyProof.Rows L2
open XT (pt_chain3)
open SkE (pmk_own1)
local macro_rules | `(tactic| walk_at "ev") => `(tactic| simp only [tSeq, tIfS, tNot, XT.tChain3, rI0, tC, tVar, tRet, tTup, tLst, tCons, tNil, tJs, tFmt, tNext, tTest, tOp, tUn, rI, rU, tCall, tCB, tAnd, tOr, tB, tDrop, tAsg, gName, tAug, tPar, ipI, tBM, rAppend, tSl, rSlS, tPart, tNoPart, rEq, rNe, L2.start, List.map_cons, List.map_nil, List.length_cons, List.length_nil, Nat.reduceAdd, Nat.reduceSub, Nat.sub_self, List.replicate_zero, List.append_nil, List.replicate_succ, List.cons_append, List.nil_append,
  List.getElem?_cons_zero, List.getElem?_cons_succ, Option.some.injEq, exists_eq_left', exists_eq_left, V.int.injEq, V.str.injEq, V.bl.injEq, V.ref.injEq, List.set_cons_zero, List.set_cons_succ, List.cons.injEq, and_true, true_and, reduceCtorEq, false_and, exists_false, false_or, or_false, exists_and_left, and_assoc, decide_eq_true_eq, Bool.not_eq_true', decide_eq_false_iff_not, Bool.not_false, Bool.not_true, if_true, if_false, Bool.false_eq_true, ↓reduceIte])
open XT (Sm pe_msg)
section
variable {P : Program} {w : World} {K : PySem.W.Frag} {mg : Str → Option Value} {base : Heap} {C : Addr} {Ps : List Addr}
def Dice (H : Hp) (d : Addr) : Prop := ∃ a b c : Int, H d = some (.lst [.int a, .int b, .int c])
abbrev s__law_dice : Stmt := topS 22
theorem sc__law_dice : FnScope ["cell"] ["cell"] (defScope s__law_dice) := ⟨rfl, rfl, rfl, by decide +kernel, rfl, by decide +kernel, by decide +kernel⟩
def sp__law_dice : Sp := fun vs H Q E => ∃ cell : Int, vs = [.int cell] ∧ ∀ p a b c, H p = none → Q (.ref p) (upd H p (.lst [.int a, .int b, .int c]))
theorem ok__law_dice {f : Addr} {fd : FuncData} {k : Nat} (F : Fun K "_law_dice" "_law_dice" s__law_dice f fd) (T : Txt K mg C) : FnOk P w K mg base (L2.CX P w) (k + 1) f fd ["cell"] sp__law_dice := by
  refine F.okX sc__law_dice (fun vs H Q E h => ?_) (fun cdv A outer s H vs Q E hr h => ?_)
  · obtain ⟨c, rfl, _⟩ := h
    rfl
  · obtain ⟨c, rfl, hq⟩ := h
    refine ⟨_, (pss_cons (ps_if (pt_chain op_lt op_lt (pe_op op_sub pe_int pe_int) (pv 0) pe_int)
      (pss_one (ps_ret (pe_lst (pa_cons (pe_callB call_abs (by rfl) T.z_abs (by decide +kernel) (pa_cons (pv 0) pa_nil)) (pa_cons pe_int (pa_cons pe_int pa_nil)))))) pss_nil)
    (pss_one (ps_ret (pe_lst (pa_cons (pv 0) (pa_cons (pe_op op_add pe_int (pe_op op_modN (pe_callTy call_int1 (by rfl) T.z_int (by decide +kernel) (pa_cons (pv 0) pa_nil)) pe_int)) (pa_cons (pe_callTy call_int1 (by rfl) T.z_int (by decide +kernel) (pa_cons (pe_cmpR op_ge (pv 0) (pe_op op_pow pe_int pe_int) (nomark _)) pa_nil)) pa_nil))))))), ?_⟩
    walk_at "ev"
    simp only [tChain]
    walk_at "ev"
    have e18 : CPow 10 18 := ⟨by decide, by decide, by decide⟩
    by_cases c1 : 0 - 10 < c
    · rw [if_pos c1]
      by_cases c2 : c < 10
      · rw [if_pos c2]
        exact ⟨by decide, fun p hp => hq p _ _ _ hp⟩
      · rw [if_neg c2]
        exact ⟨by decide, e18, by decide, fun p hp => hq p _ _ _ hp⟩
    · rw [if_neg c1]
      exact ⟨by decide, e18, by decide, fun p hp => hq p _ _ _ hp⟩
abbrev s__law_roll : Stmt := topS 23
theorem sc__law_roll : FnScope ["dice", "many", "found"] ["dice", "many"] (defScope s__law_roll) := ⟨rfl, rfl, rfl, by decide +kernel, rfl, by decide +kernel, by decide +kernel⟩
def sp__law_roll : Sp := fun vs H Q E => ∃ (d : Addr) (many : Int), vs = [.ref d, .int many] ∧ Dice H d ∧ 1 ≤ many ∧ many ≤ 1000 ∧ ∀ (r : Nat) a b c, (r : Int) < many → Q (.int (r : Nat)) (upd H d (.lst [.int a, .int b, .int c]))
theorem ok__law_roll {f : Addr} {fd : FuncData} {k : Nat} (F : Fun K "_law_roll" "_law_roll" s__law_roll f fd) (T : Txt K mg C) : FnOk P w K mg base (L2.CX P w) (k + 1) f fd ["dice", "many"] sp__law_roll := by
  refine F.okX sc__law_roll (fun vs H Q E h => ?_) (fun cdv A outer s H vs Q E hr h => ?_)
  · obtain ⟨d, m, rfl, _⟩ := h
    rfl
  · obtain ⟨d, m, rfl, ⟨a, b, c, hd⟩, m1, m2, hq⟩ := h
    refine ⟨_, (pss_cons (ps_if (PW.pt (pw_or (pt_cmpR op_eq (pe_ix ix_list (pv 0) pe_int (fun _ _ => rfl)) pe_int (nomark _)) (pw_or1 (PW.pt (pw_and (pt_cmpR op_eq (pe_ix ix_list (pv 0) pe_int (fun _ _ => rfl)) pe_int (nomark _)) (pw_and1 (pt_cmpR op_gt (pe_ix ix_list (pv 0) pe_int (fun _ _ => rfl)) pe_int (nomark _))))))))
      (pss_cons (ps_set (i := 2) sc__law_roll.nd rfl (.inl rfl) (pe_op op_modN (pe_callTy call_int1 (by rfl) T.z_int (by decide +kernel) (pa_cons (pe_ix ix_list (pv 0) pe_int (fun _ _ => rfl)) pa_nil)) (pv 1)))
    (pss_cons (ps_asg (pe_op op_fdivN (pe_ix ix_list (pv 0) pe_int (fun _ _ => rfl)) (pv 1)) (pg_sub (pv 0) pe_int set_list))
    (pss_one (ps_ret (pv 2))))) pss_nil)
    (pss_cons (ps_asg pe_int (pg_sub (pv 0) pe_int set_list))
    (pss_cons (ps_asg (pe_op op_modN (pe_callTy call_int1 (by rfl) T.z_int (by decide +kernel) (pa_cons (pe_op op_add (pe_op op_add (pe_op op_mul (pe_ix ix_list (pv 0) pe_int (fun _ _ => rfl)) pe_int) (pe_op op_mul (pe_ix ix_list (pv 0) pe_int (fun _ _ => rfl)) pe_int)) pe_int) pa_nil)) pe_int) (pg_sub (pv 0) pe_int set_list))
    (pss_cons (ps_asg (pe_op op_add (pe_ix ix_list (pv 0) pe_int (fun _ _ => rfl)) pe_int) (pg_sub (pv 0) pe_int set_list))
    (pss_one (ps_ret (pe_op op_modN (pe_callTy call_int1 (by rfl) T.z_int (by decide +kernel) (pa_cons (pe_op op_add (pe_op op_fdivN (pe_ix ix_list (pv 0) pe_int (fun _ _ => rfl)) pe_int) (pe_ix ix_list (pv 0) pe_int (fun _ _ => rfl))) pa_nil)) (pv 1)))))))), ?_⟩
    walk_at "ev"
    have hdS : ∀ (x y z : Int) (G : Hp), upd G d (.lst [.int x, .int y, .int z]) d = some (.lst [.int x, .int y, .int z]) := fun x y z G => upd_same
    have fm : ∀ x : Int, x.fmod m = ((x.fmod m).toNat : Int) ∧ x.fmod m < m := fun x => by
      have h1 := Int.fmod_nonneg_of_pos x (show 0 < m by omega)
      have h2 := Int.fmod_lt_of_pos x (show 0 < m by omega)
      exact ⟨by omega, h2⟩
    refine ⟨d, _, 2, _, rfl, rfl, SqL.of hd, rfl, rfl, ?_⟩
    by_cases c1 : c = 2
    · rw [if_pos (by rw [c1])]
      refine ⟨d, _, 0, _, rfl, rfl, SqL.of hd, rfl, .inl ⟨_, rfl, by omega, d, _, 0, _, rfl, rfl, SqL.of hd, rfl, _, rfl, ⟨by omega, by omega⟩, ?_⟩⟩
      refine ⟨_, rfl, d, _, 0, 0, rfl, rfl, hd, rfl, _, rfl, ?_⟩
      rw [(fm a).1]
      exact hq _ _ _ _ (by rw [← (fm a).1]; exact (fm a).2)
    rw [if_neg (fun z => c1 (V.int.inj z))]
    refine ⟨d, _, 2, _, rfl, rfl, SqL.of hd, rfl, rfl, ?_⟩
    by_cases c2 : c = 1
    · rw [if_pos (by rw [c2])]
      refine ⟨d, _, 0, _, rfl, rfl, SqL.of hd, rfl, _, rfl, ?_⟩
      by_cases c3 : 0 < a
      · rw [if_pos c3]
        refine ⟨d, _, 0, _, rfl, rfl, SqL.of hd, rfl, .inl ⟨_, rfl, by omega, d, _, 0, _, rfl, rfl, SqL.of hd, rfl, _, rfl, ⟨by omega, by omega⟩, ?_⟩⟩
        refine ⟨_, rfl, d, _, 0, 0, rfl, rfl, hd, rfl, _, rfl, ?_⟩
        rw [(fm a).1]
        exact hq _ _ _ _ (by rw [← (fm a).1]; exact (fm a).2)
      rw [if_neg c3]
      refine ⟨_, rfl, d, _, 2, 2, rfl, rfl, hd, rfl, ?_⟩
      walk_at "ev"
      refine ⟨d, _, 0, _, rfl, rfl, SqL.of upd_same, rfl, _, rfl, .inr ⟨by decide, by decide⟩, ?_⟩
      refine ⟨d, _, 1, _, rfl, rfl, SqL.of upd_same, rfl, _, rfl, .inr ⟨by decide, by decide⟩, ?_⟩
      refine ⟨by decide, _, rfl, d, _, 0, 0, rfl, rfl, upd_same, rfl, ?_⟩
      rw [upd_upd]
      walk_at "ev"
      refine ⟨d, _, 1, _, rfl, rfl, SqL.of upd_same, rfl, _, rfl, ?_⟩
      refine ⟨_, rfl, d, _, 1, 1, rfl, rfl, upd_same, rfl, ?_⟩
      rw [upd_upd]
      walk_at "ev"
      refine ⟨d, _, 0, _, rfl, rfl, SqL.of upd_same, rfl, _, rfl, ⟨by decide, by decide⟩, ?_⟩
      refine ⟨d, _, 0, _, rfl, rfl, SqL.of upd_same, rfl, _, rfl, by omega, ?_⟩
      rw [(fm _).1]
      exact hq _ _ _ _ (by rw [← (fm _).1]; exact (fm _).2)
    rw [if_neg (fun z => c2 (V.int.inj z))]
    refine ⟨_, rfl, d, _, 2, 2, rfl, rfl, hd, rfl, ?_⟩
    walk_at "ev"
    refine ⟨d, _, 0, _, rfl, rfl, SqL.of upd_same, rfl, _, rfl, .inr ⟨by decide, by decide⟩, ?_⟩
    refine ⟨d, _, 1, _, rfl, rfl, SqL.of upd_same, rfl, _, rfl, .inr ⟨by decide, by decide⟩, ?_⟩
    refine ⟨by decide, _, rfl, d, _, 0, 0, rfl, rfl, upd_same, rfl, ?_⟩
    rw [upd_upd]
    walk_at "ev"
    refine ⟨d, _, 1, _, rfl, rfl, SqL.of upd_same, rfl, _, rfl, ?_⟩
    refine ⟨_, rfl, d, _, 1, 1, rfl, rfl, upd_same, rfl, ?_⟩
    rw [upd_upd]
    walk_at "ev"
    refine ⟨d, _, 0, _, rfl, rfl, SqL.of upd_same, rfl, _, rfl, ⟨by decide, by decide⟩, ?_⟩
    refine ⟨d, _, 0, _, rfl, rfl, SqL.of upd_same, rfl, _, rfl, by omega, ?_⟩
    rw [(fm _).1]
    exact hq _ _ _ _ (by rw [← (fm _).1]; exact (fm _).2)
end
end K2

set_option maxRecDepth 100000
set_option maxHeartbeats 4000000
namespace K2
open PySem PySem.Spec PyProof.Rows L2
open XT (pt_chain3)
open SkE (pmk_own1)
local macro_rules | `(tactic| walk_at "ev") => `(tactic| simp only [tSeq, tIfS, tNot, XT.tChain3, rI0, tC, tVar, tRet, tTup, tLst, tCons, tNil, tJs, tFmt, tNext, tTest, tOp, tUn, rI, rU, tCall, tCB, tAnd, tOr, tB, tDrop, tAsg, gName, tAug, tPar, ipI, tBM, rAppend, tSl, rSlS, tPart, tNoPart, rEq, rNe, L2.start, List.map_cons, List.map_nil, List.length_cons, List.length_nil, Nat.reduceAdd, Nat.reduceSub, Nat.sub_self, List.replicate_zero, List.append_nil, List.replicate_succ, List.cons_append, List.nil_append,
  List.getElem?_cons_zero, List.getElem?_cons_succ, Option.some.injEq, exists_eq_left', exists_eq_left, V.int.injEq, V.str.injEq, V.bl.injEq, V.ref.injEq, List.set_cons_zero, List.set_cons_succ, List.cons.injEq, and_true, true_and, reduceCtorEq, false_and, exists_false, false_or, or_false, exists_and_left, and_assoc, decide_eq_true_eq, Bool.not_eq_true', decide_eq_false_iff_not, Bool.not_false, Bool.not_true, if_true, if_false, Bool.false_eq_true, ↓reduceIte])
open XT (Sm pe_msg)
section
variable {K : PySem.W.Frag} {H : Hp}
theorem dpAll_map {α : Type} (f : α → V) (g : α → PyData) (h : ∀ x, Dp K H (f x) (g x)) : ∀ l : List α, DpAll K H (l.map f) (l.map g)
  | [] => .nil
  | x :: r => .cons (h x) (dpAll_map f g h r)
theorem dp_lI {a : Addr} {ns : List Int} (h : SqL K H a (ns.map V.int)) : Dp K H (.ref a) (.list (ns.map .int)) := .lst h (dpAll_map _ _ .int ns)
theorem dp_tI {a : Addr} {ns : List Int} (h : SqT K H a (ns.map V.int)) : Dp K H (.ref a) (.tuple (ns.map .int)) := .tup h (dpAll_map _ _ .int ns)
theorem dp_lS {a : Addr} {ns : List Str} (h : SqL K H a (ns.map V.str)) : Dp K H (.ref a) (.list (ns.map .str)) := .lst h (dpAll_map _ _ .str ns)
theorem dp_tS {a : Addr} {ns : List Str} (h : SqT K H a (ns.map V.str)) : Dp K H (.ref a) (.tuple (ns.map .str)) := .tup h (dpAll_map _ _ .str ns)
theorem eqvI : ∀ ns ms : List Int, PyData.eqvAll (ns.map .int) (ms.map .int) = decide (ns = ms)
  | [], [] => by simp [PyData.eqvAll]
  | [], _ :: _ => by simp [PyData.eqvAll]
  | _ :: _, [] => by simp [PyData.eqvAll]
  | x :: r, y :: q => by
    rw [List.map_cons, List.map_cons, PyData.eqvAll, eqvI r q]
    by_cases e : x = y
    · subst e; simp [PyData.eqv]
    · simp [PyData.eqv, e]
theorem eqvS : ∀ ns ms : List Str, PyData.eqvAll (ns.map .str) (ms.map .str) = decide (ns = ms)
  | [], [] => by simp [PyData.eqvAll]
  | [], _ :: _ => by simp [PyData.eqvAll]
  | _ :: _, [] => by simp [PyData.eqvAll]
  | x :: r, y :: q => by
    rw [List.map_cons, List.map_cons, PyData.eqvAll, eqvS r q]
    by_cases e : x = y
    · subst e; simp [PyData.eqv]
    · simp [PyData.eqv, e]
theorem eqv_lI (ns ms : List Int) : PyData.eqv (.list (ns.map .int)) (.list (ms.map .int)) = decide (ns = ms) := by rw [PyData.eqv, eqvI]
theorem eqv_tI (ns ms : List Int) : PyData.eqv (.tuple (ns.map .int)) (.tuple (ms.map .int)) = decide (ns = ms) := by rw [PyData.eqv, eqvI]
theorem eqv_lS (ns ms : List Str) : PyData.eqv (.list (ns.map .str)) (.list (ms.map .str)) = decide (ns = ms) := by rw [PyData.eqv, eqvS]
theorem eqv_tS (ns ms : List Str) : PyData.eqv (.tuple (ns.map .str)) (.tuple (ms.map .str)) = decide (ns = ms) := by rw [PyData.eqv, eqvS]
theorem lay_I : ∀ ns : List Int, PyData.canLayAll0 (ns.map .int) = true ∧ PyData.depthAll (ns.map .int) = 0
  | [] => ⟨rfl, rfl⟩
  | x :: r => by
    obtain ⟨h1, h2⟩ := lay_I r
    rw [List.map_cons]
    simp [PyData.canLayAll0, PyData.canLay0, PyData.depthAll, PyData.depth, h1, h2]
theorem lay_S : ∀ ns : List Str, (∀ x ∈ ns, PyData.strOk x = true) → PyData.canLayAll0 (ns.map .str) = true ∧ PyData.depthAll (ns.map .str) = 0
  | [], _ => ⟨rfl, rfl⟩
  | x :: r, h => by
    obtain ⟨h1, h2⟩ := lay_S r fun y hy => h y (List.mem_cons_of_mem _ hy)
    have h0 := h x (List.mem_cons_self ..)
    rw [List.map_cons]
    simp [PyData.canLayAll0, PyData.canLay0, PyData.depthAll, PyData.depth, h0, h1, h2]
theorem shp_lI (ns : List Int) : SeqAt.shaped (.list (ns.map .int)) = true := by
  obtain ⟨h1, h2⟩ := lay_I ns
  simp [SeqAt.shaped, PyData.canLay0, PyData.depth, h1, h2]
theorem shp_tI (ns : List Int) : SeqAt.shaped (.tuple (ns.map .int)) = true := by
  obtain ⟨h1, h2⟩ := lay_I ns
  simp [SeqAt.shaped, PyData.canLay0, PyData.depth, h1, h2]
theorem shp_lS (ns : List Str) (h : ∀ x ∈ ns, PyData.strOk x = true) : SeqAt.shaped (.list (ns.map .str)) = true := by
  obtain ⟨h1, h2⟩ := lay_S ns h
  simp [SeqAt.shaped, PyData.canLay0, PyData.depth, h1, h2]
theorem shp_tS (ns : List Str) (h : ∀ x ∈ ns, PyData.strOk x = true) : SeqAt.shaped (.tuple (ns.map .str)) = true := by
  obtain ⟨h1, h2⟩ := lay_S ns h
  simp [SeqAt.shaped, PyData.canLay0, PyData.depth, h1, h2]
theorem rEq_lI {a b : Addr} {ns ms : List Int} {Q : VK} (ha : SqL K H a (ns.map V.int)) (hb : SqL K H b (ms.map V.int)) (q : Q (.bl (decide (ns = ms))) H) : rEqD K (.ref a) (.ref b) H Q := ⟨_, _, dp_lI ha, dp_lI hb, shp_lI _, shp_lI _, by rw [eqv_lI]; exact q⟩
theorem rNe_lI {a b : Addr} {ns ms : List Int} {Q : VK} (ha : SqL K H a (ns.map V.int)) (hb : SqL K H b (ms.map V.int)) (q : Q (.bl (!decide (ns = ms))) H) : rNeD K (.ref a) (.ref b) H Q := ⟨_, _, dp_lI ha, dp_lI hb, shp_lI _, shp_lI _, by rw [eqv_lI]; exact q⟩
theorem rNe_tI {a b : Addr} {ns ms : List Int} {Q : VK} (ha : SqT K H a (ns.map V.int)) (hb : SqT K H b (ms.map V.int)) (q : Q (.bl (!decide (ns = ms))) H) : rNeD K (.ref a) (.ref b) H Q := ⟨_, _, dp_tI ha, dp_tI hb, shp_tI _, shp_tI _, by rw [eqv_tI]; exact q⟩
theorem rEq_lS {a b : Addr} {ns ms : List Str} {Q : VK} (hn : ∀ x ∈ ns, PyData.strOk x = true) (hm : ∀ x ∈ ms, PyData.strOk x = true) (ha : SqL K H a (ns.map V.str)) (hb : SqL K H b (ms.map V.str)) (q : Q (.bl (decide (ns = ms))) H) : rEqD K (.ref a) (.ref b) H Q := ⟨_, _, dp_lS ha, dp_lS hb, shp_lS _ hn, shp_lS _ hm, by rw [eqv_lS]; exact q⟩
theorem rNe_lS {a b : Addr} {ns ms : List Str} {Q : VK} (hn : ∀ x ∈ ns, PyData.strOk x = true) (hm : ∀ x ∈ ms, PyData.strOk x = true) (ha : SqL K H a (ns.map V.str)) (hb : SqL K H b (ms.map V.str)) (q : Q (.bl (!decide (ns = ms))) H) : rNeD K (.ref a) (.ref b) H Q := ⟨_, _, dp_lS ha, dp_lS hb, shp_lS _ hn, shp_lS _ hm, by rw [eqv_lS]; exact q⟩
theorem rEq_tS {a b : Addr} {ns ms : List Str} {Q : VK} (hn : ∀ x ∈ ns, PyData.strOk x = true) (hm : ∀ x ∈ ms, PyData.strOk x = true) (ha : SqT K H a (ns.map V.str)) (hb : SqT K H b (ms.map V.str)) (q : Q (.bl (decide (ns = ms))) H) : rEqD K (.ref a) (.ref b) H Q := ⟨_, _, dp_tS ha, dp_tS hb, shp_tS _ hn, shp_tS _ hm, by rw [eqv_tS]; exact q⟩
end
section
variable {P : Program} {w : World} {K : PySem.W.Frag} {mg : Str → Option Value} {base : Heap} {C : Addr} {Ps : List Addr}
theorem passF {X : Cx} : Passes (L2.CX X.prog X.w) X (fun _ _ _ => False) := fun _ _ _ _ _ _ _ c => by
  obtain ⟨_, _, _, _, _, _, _, _, _, _, _, _, hE⟩ := c
  exact hE.elim
abbrev s__law_rounds : Stmt := topS 24
theorem sc__law_rounds : FnScope ["script", "most", "cells", "cell"] ["script", "most"] (defScope s__law_rounds) := ⟨rfl, rfl, rfl, by decide +kernel, rfl, by decide +kernel, by decide +kernel⟩
theorem bk_lr : BlkOk ["script", "most", "cells", "cell"] (defScope s__law_rounds) { kind := ScopeKind.function, names := [(".0", NameKind.local), ("cell", NameKind.local), ("_law_dice", NameKind.globalImplicit)], isGenerator := false, isCoroutine := false } [("cell", 3)] := blkOk_by (by decide +kernel)
def sp__law_rounds (K : PySem.W.Frag) (Ps : List Addr) : Sp := fun vs H Q E => ∃ (a : Addr) (ns : List Int), vs = [.ref a, .int 1] ∧ SqL K H a (ns.map V.int) ∧ Tb Ps H ∧ ∀ H' p d, Gw Ps H H' → H p = none → H d = none → d ≠ p → H' p = some (.lst [.ref d]) → Dice H' d → Q (.ref p) H'
theorem ok__law_rounds {f fe : Addr} {fd fde : FuncData} {k ke : Nat} (F : Fun K "_law_rounds" "_law_rounds" s__law_rounds f fd) (T : Txt K mg C) (Ge : Cal P w K mg base (L2.CX P w) ke "_law_dice" ["cell"] sp__law_dice fe fde) (hk : ke ≤ k) : FnOk P w K mg base (L2.CX P w) (k + 1) f fd ["script", "most"] (sp__law_rounds K Ps) := by
  refine F.okX sc__law_rounds (fun vs H Q E h => ?_) (fun cdv A outer s H vs Q E hr h => ?_)
  · obtain ⟨a, ns, rfl, _⟩ := h
    rfl
  · obtain ⟨a, ns, rfl, hx, tb, hq⟩ := h
    refine ⟨_, (pss_cons (ps_set (i := 2) sc__law_rounds.nd rfl (.inl rfl) (pe_slice sl_list (pv 0) po_none (po_some (pv 1))))
    (pss_cons (ps_if (pt_cmpR (op_eqD hr.units) (pv 2) (pe_lst pa_nil) (nomark _))
      (pss_one (ps_set (i := 2) sc__law_rounds.nd rfl (.inl rfl) (pe_lst (pa_cons pe_int pa_nil)))) pss_nil)
    (pss_one (ps_ret (pe_lc (own := [("cell", 3)]) rfl sc__law_rounds.nd (pi_list (pv 2)) bk_lr (fun _ _ _ _ _ => (pg_name (i := 3) sc__law_rounds.nd rfl (.inl rfl))) (fun _ _ _ _ _ => pts_nil) (fun _ _ _ _ _ => (pe_call Ge.ok (hr.mono hk) (by rfl) Ge.g Ge.kp Ge.b .nil passF (pa_cons (pv 3) pa_nil)))))))), ?_⟩
    walk_at "ev"
    have fin : ∀ (q : Addr) (c : Int) (G : Hp) (σ : L2.St), σ[2]? = some (some (.ref q)) → Gw Ps H G → G q = some (.lst [V.int c]) → tLc (iList K (tVar 2)) (gName 3) tYes (tCall sp__law_dice [] (fun x x_2 x_3 => False) (tCons (tVar 3) tNil)) [3] [some (.ref a), some (.int 1), some (.ref q), none] G Q := by
      intro q c G σ _ g hl
      refine ⟨_, rfl, q, rfl, ⟨_, SqL.of hl⟩, fun D hD => ?_⟩
      have nqD : q ≠ D := fun z => by
        rw [z, hD] at hl
        cases hl
      have hDH : H D = none := g.none tb hD
      refine lc_list (xs := [V.int c]) (fun i H' => H' q = some (.lst [V.int c]) ∧ Gw Ps H H' ∧ (i = 0 → H' D = some (.lst [])) ∧ (i = 1 → ∃ d, H d = none ∧ d ≠ D ∧ H' D = some (.lst [.ref d]) ∧ Dice H' d)) ⟨by rw [upd_ne nqD]; exact hl, g.new hD, fun _ => upd_same, fun z => by cases z⟩ (fun i H' _ z => SqL.of z.1) ?_ ?_
      · intro i x H' hx hP
        obtain ⟨p1, p2, p3, p4⟩ := hP
        cases i with
        | succ i => simp at hx
        | zero =>
          obtain rfl : V.int c = x := Option.some.inj hx
          refine ⟨rfl, ?_⟩
          simp only [tYes, wipe, List.set_cons_zero, List.set_cons_succ, ↓reduceIte]
          walk_at "ev"
          refine ⟨c, rfl, fun p a1 b1 c1 hp => ?_⟩
          have hD0 := p3 rfl
          have np : D ≠ p := fun z => by
            rw [z, hp] at hD0
            cases hD0
          refine ⟨[], by rw [upd_ne np]; exact hD0, by decide, ?_, ?_, (fun z => z.elim), fun _ => ⟨p, p2.none tb hp, np.symm, upd_same, a1, b1, c1, by rw [upd_ne np.symm]; exact upd_same⟩⟩
          · rw [upd_ne nqD, upd_ne (fun z => by rw [z, hp] at p1; cases p1)]
            exact p1
          · exact (p2.new hp).set hDH (g.1.none hD)
      · intro H' hP
        obtain ⟨p1, p2, p3, p4⟩ := hP
        obtain ⟨d, h1, h2, h3, h4⟩ := p4 rfl
        exact hq H' D d p2 hDH h1 h2 h3 h4
    refine ⟨a, _, rfl, hx, fun q hq1 => ⟨by decide, fun e he => ?_⟩⟩
    have g1 : Gw Ps H (upd H q (.lst (cutV (ns.map V.int) none (some 1)))) := (Gw.refl tb).new hq1
    have nqe : q ≠ e := (upd_none he).2.symm
    cases ns with
    | nil =>
      refine rEq_lI (ns := []) (ms := []) (SqL.of (by rw [upd_ne nqe]; exact upd_same)) (SqL.of upd_same) ⟨_, rfl, ?_⟩
      rw [if_pos (by decide)]
      exact ⟨by decide, fun p2 hp2 => fin p2 0 _ [none, none, some (.ref p2)] rfl ((g1.new he).new hp2) upd_same⟩
    | cons n r =>
      have ec : cutV ((n :: r).map V.int) none (some 1) = [n].map V.int := by
        unfold cutV
        have e1 : HT.sIx ((n :: r).map V.int).length 0 none = 0 := rfl
        have e2 : HT.sIx ((n :: r).map V.int).length ((n :: r).map V.int).length (some 1) = 1 := by
          rw [show ((1 : Int)) = ((1 : Nat) : Int) from rfl, HT.sIx_nat]
          simp
        rw [e1, e2]
        rfl
      rw [ec] at g1 he ⊢
      refine rEq_lI (ns := [n]) (ms := []) (SqL.of (by rw [upd_ne nqe]; exact upd_same)) (SqL.of upd_same) ⟨_, rfl, ?_⟩
      rw [if_neg (by simp)]
      exact fin q n _ [none, none, some (.ref q)] rfl (g1.new he) (by rw [upd_ne nqe]; exact upd_same)
end
end K2

set_option maxRecDepth 100000
set_option maxHeartbeats 4000000
namespace K2
open PySem PySem.Spec PyProof.Rows L2
open XT (pt_chain3)
open SkE (pmk_own1)
local macro_rules | `(tactic| walk_at "ev") => `(tactic| simp only [tSeq, tIfS, tNot, XT.tChain3, rI0, tC, tVar, tRet, tTup, tLst, tCons, tNil, tJs, tFmt, tNext, tTest, tOp, tUn, rI, rU, tCall, tCB, tAnd, tOr, tB, tDrop, tAsg, gName, tAug, tPar, ipI, tBM, rAppend, tSl, rSlS, tPart, tNoPart, rEq, rNe, L2.start, List.map_cons, List.map_nil, List.length_cons, List.length_nil, Nat.reduceAdd, Nat.reduceSub, Nat.sub_self, List.replicate_zero, List.append_nil, List.replicate_succ, List.cons_append, List.nil_append,
  List.getElem?_cons_zero, List.getElem?_cons_succ, Option.some.injEq, exists_eq_left', exists_eq_left, V.int.injEq, V.str.injEq, V.bl.injEq, V.ref.injEq, List.set_cons_zero, List.set_cons_succ, List.cons.injEq, and_true, true_and, reduceCtorEq, false_and, exists_false, false_or, or_false, exists_and_left, and_assoc, decide_eq_true_eq, Bool.not_eq_true', decide_eq_false_iff_not, Bool.not_false, Bool.not_true, if_true, if_false, Bool.false_eq_true, ↓reduceIte])
open XT (Sm pe_msg)
section
variable {P : Program} {w : World} {K : PySem.W.Frag} {mg : Str → Option Value} {base : Heap} {C : Addr} {Ps : List Addr}
/-- all but the dice stays -/
structure Gd (Ps : List Addr) (d : Addr) (H H' : Hp) : Prop where
  tb : Tb Ps H'
  keep : ∀ b o, b ∉ Ps → b ≠ d → H b = some o → H' b = some o
  dice : Dice H' d
theorem Gd.gw {d : Addr} {H H1 H2 : Hp} (g : Gd Ps d H H1) (h : Gw Ps H1 H2) : Gd Ps d H H2 :=
  ⟨h.1, fun b o n nd e => h.2 b o n (g.keep b o n nd e), by
    obtain ⟨a, b, c, e⟩ := g.dice
    exact ⟨a, b, c, h.2 d _ (g.tb.not e fun _ z => by cases z) e⟩⟩
theorem Gd.trans {d : Addr} {H H1 H2 : Hp} (g : Gd Ps d H H1) (h : Gd Ps d H1 H2) : Gd Ps d H H2 := ⟨h.tb, fun b o n nd e => h.keep b o n nd (g.keep b o n nd e), h.dice⟩
theorem Gd.nd {d : Addr} {H H1 : Hp} (g : Gd Ps d H H1) : d ∉ Ps := by
  obtain ⟨a, b, c, e⟩ := g.dice
  exact g.tb.not e fun _ z => by cases z
theorem Gd.refl {d : Addr} {H : Hp} (t : Tb Ps H) (h : Dice H d) : Gd Ps d H H := ⟨t, fun _ _ _ _ e => e, h⟩
theorem Gd.roll {d : Addr} {H H1 : Hp} (g : Gd Ps d H H1) (a b c : Int) : Gd Ps d H (upd H1 d (.lst [.int a, .int b, .int c])) :=
  ⟨g.tb.upd g.nd, fun b o n nd e => by rw [upd_ne nd]; exact g.keep b o n nd e, a, b, c, upd_same⟩
theorem Gd.new {d : Addr} {H H1 : Hp} {l : Addr} {o : HO} (g : Gd Ps d H H1) (n : H1 l = none) : Gd Ps d H (upd H1 l o) := g.gw ((Gw.refl g.tb).new n)
theorem Gd.isn {d : Addr} {H H1 : Hp} {l : Addr} (g : Gd Ps d H H1) (n : H1 l = none) : H l = none := by
  cases e : H l with
  | none => rfl
  | some o =>
    have nd : l ≠ d := fun z => by
      obtain ⟨a, b, c, e⟩ := g.dice
      rw [z, e] at n
      cases n
    rw [g.keep l o (g.tb.none n) nd e] at n
    cases n
theorem Gd.ne {d : Addr} {H H1 : Hp} {l : Addr} (g : Gd Ps d H H1) (n : H1 l = none) : l ≠ d := fun z => by
  obtain ⟨a, b, c, e⟩ := g.dice
  rw [z, e] at n
  cases n
/-- an object that has come since is written -/
theorem Gd.set {d : Addr} {H H1 : Hp} {l : Addr} {o : HO} (g : Gd Ps d H H1) (n : H l = none) (nl : l ∉ Ps) (nd : l ≠ d) : Gd Ps d H (upd H1 l o) :=
  ⟨g.tb.upd nl, fun b u nb nbd e => by
    rw [upd_ne (ne_of_none e n)]
    exact g.keep b u nb nbd e, by
    obtain ⟨a, b, c, e⟩ := g.dice
    exact ⟨a, b, c, by rw [upd_ne nd.symm]; exact e⟩⟩
/-- of a, b and = -/
def AB (t : Str) : Prop := ∀ c ∈ chs t, c = 97 ∨ c = 98 ∨ c = 61
abbrev s__law_text : Stmt := topS 26
theorem sc__law_text : FnScope ["dice", "most", "k"] ["dice", "most"] (defScope s__law_text) := ⟨rfl, rfl, rfl, by decide +kernel, rfl, by decide +kernel, by decide +kernel⟩
theorem bk_lt : BlkOk ["dice", "most", "k"] (defScope s__law_text) { kind := ScopeKind.function, names := [(".0", NameKind.local), ("k", NameKind.local), ("_law_roll", NameKind.globalImplicit), ("dice", NameKind.free)], isGenerator := false, isCoroutine := false } [("k", 2)] := blkOk_by (by decide +kernel)
def sp__law_text (Ps : List Addr) : Sp := fun vs H Q E => ∃ (d : Addr) (m : Nat), vs = [.ref d, .int (m : Nat)] ∧ m ≤ 100 ∧ Dice H d ∧ Tb Ps H ∧ ∀ t H', t.length ≤ m → AB t → Gd Ps d H H' → Q (.str t) H'
theorem ok__law_text {f fe : Addr} {fd fde : FuncData} {k ke : Nat} (F : Fun K "_law_text" "_law_text" s__law_text f fd) (T : Txt K mg C) (Ge : Cal P w K mg base (L2.CX P w) ke "_law_roll" ["dice", "many"] sp__law_roll fe fde) (hk : ke ≤ k) : FnOk P w K mg base (L2.CX P w) (k + 1) f fd ["dice", "most"] (sp__law_text Ps) := by
  refine F.okX sc__law_text (fun vs H Q E h => ?_) (fun cdv A outer s H vs Q E hr h => ?_)
  · obtain ⟨a, ns, rfl, _⟩ := h
    rfl
  · obtain ⟨d, m, rfl, m1, hd, tb, hq⟩ := h
    refine ⟨_, (pss_one (ps_ret (pe_join pe_str (pe_lc (own := [("k", 2)]) rfl sc__law_text.nd (pi_range1 (by rfl) T.z_range (pa_cons (pe_call Ge.ok (hr.mono hk) (by rfl) Ge.g Ge.kp Ge.b .nil passF (pa_cons (pv 0) (pa_cons (pe_op op_add (pv 1) pe_int) pa_nil))) pa_nil)) bk_lt (fun _ _ _ _ _ => (pg_name (i := 2) sc__law_text.nd rfl (.inl rfl))) (fun _ _ _ _ _ => pts_nil) (fun _ _ _ _ _ => (pe_ix ix_str pe_str (pe_call Ge.ok (hr.mono hk) (by rfl) Ge.g Ge.kp Ge.b .nil passF (pa_cons (pv 0) (pa_cons pe_int pa_nil))) (fun _ _ => rfl))))))), ?_⟩
    walk_at "ev"
    refine ⟨⟨_, rfl⟩, .ref d, rfl, .int (m : Nat), rfl, (m : Nat), 1, rfl, rfl, d, _, rfl, hd, by omega, by omega, fun r a b c hr2 => ?_⟩
    refine ⟨(r : Nat), rfl, by omega, by omega, fun D hD => ?_⟩
    have g1 : Gd Ps d H (upd H d (.lst [.int a, .int b, .int c])) := (Gd.refl tb hd).roll a b c
    have nDd : D ≠ d := g1.ne hD
    have hDH : H D = none := g1.isn hD
    have nDP : D ∉ Ps := g1.tb.none hD
    rw [Int.toNat_natCast]
    refine lc_range (fun i G => Gd Ps d H G ∧ ∃ ws : List Str, G D = some (.lst (ws.map V.str)) ∧ ws.length = i ∧ ∀ x ∈ ws, x.length = 1 ∧ AB x) ⟨g1.new hD, [], upd_same, rfl, fun x h => nomatch h⟩ ?_ ?_
    · intro i G hi hP
      obtain ⟨g2, ws, hG, hw, hall⟩ := hP
      refine ⟨rfl, ?_⟩
      simp only [tYes, wipe, List.set_cons_zero, List.set_cons_succ, ↓reduceIte]
      walk_at "ev"
      refine ⟨d, 3, rfl, g2.dice, by decide, by decide, fun r2 a2 b2 c2 hr3 => ?_⟩
      have g3 : Gd Ps d H (upd G d (.lst [.int a2, .int b2, .int c2])) := g2.roll a2 b2 c2
      have three : r2 = 0 ∨ r2 = 1 ∨ r2 = 2 := by omega
      have go : ∀ (ch : Nat), (ch = 97 ∨ ch = 98 ∨ ch = 61) → atI (Str.ofString "ab=").cps.toList ((r2 : Nat) : Int) = some ch → rIxS (.str (Str.ofString "ab=")) (.int ((r2 : Nat) : Int)) (upd G d (.lst [.int a2, .int b2, .int c2])) fun y H4 => ∃ acc, H4 D = some (.lst acc) ∧ acc.length < sizeLine ∧ Gd Ps d H (upd H4 D (.lst (acc ++ [y]))) ∧ ∃ ws : List Str, upd H4 D (.lst (acc ++ [y])) D = some (.lst (ws.map V.str)) ∧ ws.length = i + 1 ∧ ∀ x ∈ ws, x.length = 1 ∧ AB x := by
        intro ch hc hat
        refine ⟨_, _, ch, rfl, rfl, by decide, hat, ws.map V.str, by rw [upd_ne nDd]; exact hG, ?_, g3.set hDH nDP nDd, ws ++ [⟨#[ch]⟩], ?_, ?_, ?_⟩
        · rw [List.length_map, hw]
          exact Nat.lt_of_lt_of_le (show i < 102 by omega) (by decide)
        · rw [upd_same, List.map_append]
          rfl
        · rw [List.length_append, hw]
          rfl
        · intro x hx
          rcases List.mem_append.mp hx with hx | hx
          · exact hall x hx
          · rw [List.mem_singleton.mp hx]
            refine ⟨rfl, fun c hc2 => ?_⟩
            have e : c = ch := List.mem_singleton.mp hc2
            rw [e]
            exact hc
      rcases three with e | e | e
      · subst e; exact go 97 (.inl rfl) rfl
      · subst e; exact go 98 (.inr (.inl rfl)) rfl
      · subst e; exact go 61 (.inr (.inr rfl)) rfl
    · intro G hP
      obtain ⟨g2, ws, hG, hw, hall⟩ := hP
      have hsum : ∀ l : List Str, (∀ x ∈ l, x.length = 1 ∧ AB x) → (l.map (·.length)).sum = l.length ∧ ∀ c ∈ (l.map chs).flatten, c = 97 ∨ c = 98 ∨ c = 61 := by
        intro l
        induction l with
        | nil => intro _; exact ⟨rfl, fun c h => nomatch h⟩
        | cons x r ih =>
          intro h
          obtain ⟨i1, i2⟩ := ih fun y hy => h y (List.mem_cons_of_mem _ hy)
          obtain ⟨j1, j2⟩ := h x (List.mem_cons_self ..)
          refine ⟨?_, fun c hc => ?_⟩
          · rw [List.map_cons, List.sum_cons, i1, j1, List.length_cons]
            omega
          · rw [List.map_cons, List.flatten_cons] at hc
            rcases List.mem_append.mp hc with hc | hc
            · exact j2 c hc
            · exact i2 c hc
      obtain ⟨s1, s2⟩ := hsum ws hall
      have e0 : (Str.ofString "").length = 0 := rfl
      have ej : chs (Txt.join (Str.ofString "") ws) = (ws.map chs).flatten := by
        rw [TL.join_eq]
        exact chs_join _ rfl ws
      refine ⟨_, rfl, D, rfl, ws, .inl (SqL.of hG), by rw [s1, e0]; omega, hq _ _ ?_ (fun c hc => s2 c (by rw [← ej]; exact hc)) g2⟩
      rw [← chs_len, ej, List.length_flatten, List.map_map]
      have e1 : (ws.map (List.length ∘ chs)) = ws.map (·.length) := List.map_congr_left fun x _ => chs_len x
      rw [e1, s1]
      omega
end
end K2

set_option maxRecDepth 100000
set_option maxHeartbeats 4000000
namespace K2
open PySem PySem.Spec PyProof.Rows L2
open XT (pt_chain3)
open SkE (pmk_own1)
local macro_rules | `(tactic| walk_at "ev") => `(tactic| simp only [tSeq, tIfS, tNot, XT.tChain3, rI0, tC, tVar, tRet, tTup, tLst, tCons, tNil, tJs, tFmt, tNext, tTest, tOp, tUn, rI, rU, tCall, tCB, tAnd, tOr, tB, tDrop, tAsg, gName, tAug, tPar, ipI, tBM, rAppend, tSl, rSlS, tPart, tNoPart, rEq, rNe, L2.start, List.map_cons, List.map_nil, List.length_cons, List.length_nil, Nat.reduceAdd, Nat.reduceSub, Nat.sub_self, List.replicate_zero, List.append_nil, List.replicate_succ, List.cons_append, List.nil_append,
  List.getElem?_cons_zero, List.getElem?_cons_succ, Option.some.injEq, exists_eq_left', exists_eq_left, V.int.injEq, V.str.injEq, V.bl.injEq, V.ref.injEq, List.set_cons_zero, List.set_cons_succ, List.cons.injEq, and_true, true_and, reduceCtorEq, false_and, exists_false, false_or, or_false, exists_and_left, and_assoc, decide_eq_true_eq, Bool.not_eq_true', decide_eq_false_iff_not, Bool.not_false, Bool.not_true, if_true, if_false, Bool.false_eq_true, ↓reduceIte])
open XT (Sm pe_msg)
section
variable {P : Program} {w : World} {K : PySem.W.Frag} {mg : Str → Option Value} {base : Heap} {C : Addr} {Ps : List Addr}
/-- the nine kinds, by a refusal of the kind C (the fifth) -/
structure Nine (K : PySem.W.Frag) (mg : Str → Option Value) (C : Addr) : Prop where
  path : ∃ c, mg "BadPath" = some (.ref c) ∧ PySem.W.exmOne K (.ref C) (.ref c) = some false
  piece : ∃ c, mg "BadPiece" = some (.ref c) ∧ PySem.W.exmOne K (.ref C) (.ref c) = some false
  rule : ∃ c, mg "BadRule" = some (.ref c) ∧ PySem.W.exmOne K (.ref C) (.ref c) = some false
  paper : ∃ c, mg "BadPaper" = some (.ref c) ∧ PySem.W.exmOne K (.ref C) (.ref c) = some false
  size : mg "BadSize" = some (.ref C) ∧ PySem.W.exmOne K (.ref C) (.ref C) = some true
  store : ∃ c, mg "BadStore" = some (.ref c)
  text : ∃ c, mg "BadText" = some (.ref c)
  lost : ∃ c, mg "Lost" = some (.ref c)
  such : ∃ c, mg "NoSuch" = some (.ref c)
abbrev s__law_told : Stmt := topS 25
theorem sc__law_told : FnScope ["what"] ["what"] (defScope s__law_told) := ⟨rfl, rfl, rfl, by decide +kernel, rfl, by decide +kernel, by decide +kernel⟩
abbrev rw9 (x : Str) : Addr → Value → Option Addr → TS := fun _ _ _ => tRet (tC (.str x))
/-- what() refused with the kind C is told so -/
def E9 (C : Addr) (Q : VK) : XK := fun cls _ H' => cls = .ref C ∧ Q (.str "size") H'
theorem many9 {D : L2.Ends} {Wout : WX} {c1 c2 c3 c4 c6 c7 c8 c9 : Addr} {Q : VK} {cls : Value} {d : Option Addr} {σ : L2.St} {H : Hp} (e1 : PySem.W.exmOne K (.ref C) (.ref c1) = some false) (e2 : PySem.W.exmOne K (.ref C) (.ref c2) = some false) (e3 : PySem.W.exmOne K (.ref C) (.ref c3) = some false) (e4 : PySem.W.exmOne K (.ref C) (.ref c4) = some false) (e5 : PySem.W.exmOne K (.ref C) (.ref C) = some true)
    (hD : D.rt = Q) (h : E9 C Q cls d H) : wMany K Wout D [(.ref c1, rw9 "path"), (.ref c2, rw9 "piece"), (.ref c3, rw9 "rule"), (.ref c4, rw9 "paper"), (.ref C, rw9 "size"), (.ref c6, rw9 "store"), (.ref c7, rw9 "text"), (.ref c8, rw9 "lost"), (.ref c9, rw9 "no such")] cls d σ H := by
  obtain ⟨rfl, h⟩ := h
  refine ⟨false, e1, fun z => (by cases z), fun _ => ⟨false, e2, fun z => (by cases z), fun _ => ⟨false, e3, fun z => (by cases z), fun _ => ⟨false, e4, fun z => (by cases z), fun _ => ⟨true, e5, fun _ a _ => ?_, fun z => (by cases z)⟩⟩⟩⟩⟩
  show D.rt (.str "size") H
  rw [hD]
  exact h
def sp__law_told (P : Program) (w : World) (K : PySem.W.Frag) (mg : Str → Option Value) (base : Heap) (k : Nat) (C : Addr) : Sp := fun vs H Q E => ∃ (f : Addr) (L : LX.LF) (tl : XK → Hp → VK → Prop), vs = [.ref f] ∧ H f = some (LX.LamO f L) ∧ H L.c = some (LamX.CodeO L.c L.qual) ∧ LX.LamOk P w K mg base k L tl ∧ tl (E9 C Q) H Q
theorem ok__law_told {f : Addr} {fd : FuncData} {k : Nat} (F : Fun K "_law_told" "_law_told" s__law_told f fd) (N : Nine K mg C) : FnOk P w K mg base (L2.CX P w) (k + 2) f fd ["what"] (sp__law_told P w K mg base k C) := by
  refine F.okX sc__law_told (fun vs H Q E h => ?_) (fun cdv A outer s H vs Q E hr h => ?_)
  · obtain ⟨f, L, tl, rfl, _⟩ := h
    rfl
  · obtain ⟨g, L, tl, rfl, hg, hc, lok, ht⟩ := h
    obtain ⟨c1, m1, e1⟩ := N.path
    obtain ⟨c2, m2, e2⟩ := N.piece
    obtain ⟨c3, m3, e3⟩ := N.rule
    obtain ⟨c4, m4, e4⟩ := N.paper
    obtain ⟨m5, e5⟩ := N.size
    obtain ⟨c6, m6⟩ := N.store
    obtain ⟨c7, m7⟩ := N.text
    obtain ⟨c8, m8⟩ := N.lost
    obtain ⟨c9, m9⟩ := N.such
    refine ⟨_, pss_one (ps_try_many (Wout := fun _ _ _ _ => False) (tb := fun W D σ H => ∃ Ech : XK, (∀ cls d σ' H', Ech cls d H' → W cls d σ' H') ∧ LX.tAct P w K mg base k 0 Ech σ H D.rt) rfl rfl LamX.takes0 (fun W pn xe tk _ => ?_)
      (.cons (c := .ref c1) (ts := rw9 "path") ⟨by rfl, by decide, .inl m1⟩ (fun a oe cls d pn _ _ => pss_one (ps_ret pe_str))
      (.cons (c := .ref c2) (ts := rw9 "piece") ⟨by rfl, by decide, .inl m2⟩ (fun a oe cls d pn _ _ => pss_one (ps_ret pe_str))
      (.cons (c := .ref c3) (ts := rw9 "rule") ⟨by rfl, by decide, .inl m3⟩ (fun a oe cls d pn _ _ => pss_one (ps_ret pe_str))
      (.cons (c := .ref c4) (ts := rw9 "paper") ⟨by rfl, by decide, .inl m4⟩ (fun a oe cls d pn _ _ => pss_one (ps_ret pe_str))
      (.cons (c := .ref C) (ts := rw9 "size") ⟨by rfl, by decide, .inl m5⟩ (fun a oe cls d pn _ _ => pss_one (ps_ret pe_str))
      (.cons (c := .ref c6) (ts := rw9 "store") ⟨by rfl, by decide, .inl m6⟩ (fun a oe cls d pn _ _ => pss_one (ps_ret pe_str))
      (.cons (c := .ref c7) (ts := rw9 "text") ⟨by rfl, by decide, .inl m7⟩ (fun a oe cls d pn _ _ => pss_one (ps_ret pe_str))
      (.cons (c := .ref c8) (ts := rw9 "lost") ⟨by rfl, by decide, .inl m8⟩ (fun a oe cls d pn _ _ => pss_one (ps_ret pe_str))
      (.cons (c := .ref c9) (ts := rw9 "no such") ⟨by rfl, by decide, .inl m9⟩ (fun a oe cls d pn _ _ => pss_one (ps_ret pe_str)) .nil)))))))))), ?_⟩
    · refine ⟨fun pins s' σ H' D I h' => ?_⟩
      obtain ⟨Ech, hW, h1⟩ := h'
      exact (pss_one (ps_ret (LX.pe_act (Z := (cxOf (L2.CX P w) P w K mg base ["what"] "_law_told" (defScope s__law_told) f cdv A outer s H E).tr pn xe) (k := k) (i := 0) (a := "what") (E := Ech) (passes_call tk hW) hr rfl (.inl rfl)))).run pins s' σ H' D I h1
    · refine ⟨E9 C Q, fun cls d σ' H' h => many9 e1 e2 e3 e4 e5 rfl h, g, L, tl, rfl, hg, hc, lok, ht⟩
/-- the lambda that captures, given to it -/
def TT9 (C : Addr) : (XK → Hp → VK → Prop) → Hp → VK → Prop := fun tl H Q => tl (E9 C Q) H Q
theorem told9_gives {X : Cx} {g : Addr} {cdg : Value} {q : Str} (N : Nine X.K X.mg C) : LamX.GivesTo X ["what"] "_law_told" (defScope s__law_told) g cdg (defBody s__law_told) "what" q (TT9 C) := by
  intro f c' s H Q tl act hc h
  obtain ⟨c1, m1, e1⟩ := N.path
  obtain ⟨c2, m2, e2⟩ := N.piece
  obtain ⟨c3, m3, e3⟩ := N.rule
  obtain ⟨c4, m4, e4⟩ := N.paper
  obtain ⟨m5, e5⟩ := N.size
  obtain ⟨c6, m6⟩ := N.store
  obtain ⟨c7, m7⟩ := N.text
  obtain ⟨c8, m8⟩ := N.lost
  obtain ⟨c9, m9⟩ := N.such
  refine ⟨_, pss_one (ps_try_many (X := (cxOf C8.CX0 X.prog X.w X.K X.mg X.base ["what"] "_law_told" (defScope s__law_told) g cdg X.A X.stack s H C8.E0).nox) (Wout := fun _ _ _ _ => False) (tb := fun W D σ H => ∃ Ech : XK, (∀ cls d σ' H', Ech cls d H' → W cls d σ' H') ∧ σ[0]? = some (some (.ref f)) ∧ H c' = some (LamX.CodeO c' q) ∧ tl Ech H D.rt) rfl rfl LamX.takes0 (fun W pn xe tk _ => ?_)
      (.cons (c := .ref c1) (ts := rw9 "path") ⟨by rfl, by decide, .inl m1⟩ (fun a oe cls d pn _ _ => pss_one (ps_ret pe_str))
      (.cons (c := .ref c2) (ts := rw9 "piece") ⟨by rfl, by decide, .inl m2⟩ (fun a oe cls d pn _ _ => pss_one (ps_ret pe_str))
      (.cons (c := .ref c3) (ts := rw9 "rule") ⟨by rfl, by decide, .inl m3⟩ (fun a oe cls d pn _ _ => pss_one (ps_ret pe_str))
      (.cons (c := .ref c4) (ts := rw9 "paper") ⟨by rfl, by decide, .inl m4⟩ (fun a oe cls d pn _ _ => pss_one (ps_ret pe_str))
      (.cons (c := .ref C) (ts := rw9 "size") ⟨by rfl, by decide, .inl m5⟩ (fun a oe cls d pn _ _ => pss_one (ps_ret pe_str))
      (.cons (c := .ref c6) (ts := rw9 "store") ⟨by rfl, by decide, .inl m6⟩ (fun a oe cls d pn _ _ => pss_one (ps_ret pe_str))
      (.cons (c := .ref c7) (ts := rw9 "text") ⟨by rfl, by decide, .inl m7⟩ (fun a oe cls d pn _ _ => pss_one (ps_ret pe_str))
      (.cons (c := .ref c8) (ts := rw9 "lost") ⟨by rfl, by decide, .inl m8⟩ (fun a oe cls d pn _ _ => pss_one (ps_ret pe_str))
      (.cons (c := .ref c9) (ts := rw9 "no such") ⟨by rfl, by decide, .inl m9⟩ (fun a oe cls d pn _ _ => pss_one (ps_ret pe_str)) .nil)))))))))), ?_⟩
  · refine ⟨fun pins s' σ H' D I h' => ?_⟩
    obtain ⟨Ech, hW, h1, h2, h3⟩ := h'
    exact (pss_one (ps_ret (act W pn xe Ech _ _ tk hW))).run pins s' σ H' D I ⟨h1, h2, h3⟩
  · exact ⟨E9 C Q, fun cls d σ' H' h => many9 e1 e2 e3 e4 e5 rfl h, rfl, hc, h⟩
end
end K2

set_option maxRecDepth 100000
set_option maxHeartbeats 4000000
namespace K2
open PySem PySem.Spec PyProof.Rows L2
open XT (pt_chain3)
open SkE (pmk_own1)
local macro_rules | `(tactic| walk_at "ev") => `(tactic| simp only [tSeq, tIfS, tNot, XT.tChain3, rI0, tC, tVar, tRet, tTup, tLst, tCons, tNil, tJs, tFmt, tNext, tTest, tOp, tUn, rI, rU, tCall, tCB, tAnd, tOr, tB, tDrop, tAsg, gName, tAug, tPar, ipI, tBM, rAppend, tSl, rSlS, tPart, tNoPart, rEq, rNe, L2.start, List.map_cons, List.map_nil, List.length_cons, List.length_nil, Nat.reduceAdd, Nat.reduceSub, Nat.sub_self, List.replicate_zero, List.append_nil, List.replicate_succ, List.cons_append, List.nil_append,
  List.getElem?_cons_zero, List.getElem?_cons_succ, Option.some.injEq, exists_eq_left', exists_eq_left, V.int.injEq, V.str.injEq, V.bl.injEq, V.ref.injEq, List.set_cons_zero, List.set_cons_succ, List.cons.injEq, and_true, true_and, reduceCtorEq, false_and, exists_false, false_or, or_false, exists_and_left, and_assoc, decide_eq_true_eq, Bool.not_eq_true', decide_eq_false_iff_not, Bool.not_false, Bool.not_true, if_true, if_false, Bool.false_eq_true, ↓reduceIte])
open XT (Sm pe_msg)

section
abbrev s_law : Stmt := topS 27
abbrev Nlaw : List Str := ["script", "dice", "text", "window", "least", "by", "most", "sign", "k", "pieces", "here", "mark", "places", "size", "other", "more", "piece", "ends", "j", "start", "tail", "wrong", "pair"]
theorem sc_law : FnScope Nlaw ["script"] (defScope s_law) := ⟨rfl, rfl, rfl, by decide +kernel, rfl, by decide +kernel, by decide +kernel⟩
def lawS (i : Nat) : Stmt := (defBody s_law).getD i (.Pass ⟨0, 0, 0, 0⟩)
def forB : Stmt → List Stmt
  | .For _ _ b _ _ => b
  | .If _ b _ _ => b
  | _ => []
/-- the i-th statement of the round -/
def lb (i : Nat) : Stmt := (forB (lawS 0)).getD i (.Pass ⟨0, 0, 0, 0⟩)
/-- a statement that leads on: from Pre to Post -/
def Step (X : Cx) (st : Stmt) (Pre Post : L2.St → Hp → Prop) : Prop := ∃ t, PS X st t ∧ ∀ D σ H, Pre σ H → (∀ σ' H', Post σ' H' → D.nx σ' H') → t D σ H
def Steps (X : Cx) (l : List Stmt) (Pre Post : L2.St → Hp → Prop) : Prop := ∃ t, PSs X l t ∧ ∀ D σ H, Pre σ H → (∀ σ' H', Post σ' H' → D.nx σ' H') → t D σ H
theorem Steps.cons {X : Cx} {a : Stmt} {l : List Stmt} {p q r : L2.St → Hp → Prop} (h : Step X a p q) (h2 : Steps X l q r) : Steps X (a :: l) p r := by
  obtain ⟨t, ht, k⟩ := h
  obtain ⟨u, hu, k2⟩ := h2
  exact ⟨_, pss_cons ht hu, fun D σ H hp hn => k _ σ H hp fun σ' H' hq => k2 D σ' H' hq hn⟩
theorem Steps.one {X : Cx} {a : Stmt} {p q : L2.St → Hp → Prop} (h : Step X a p q) : Steps X [a] p q := by
  obtain ⟨t, ht, k⟩ := h
  exact ⟨_, pss_one ht, k⟩
variable {P : Program} {w : World} {K : PySem.W.Frag} {mg : Str → Option Value} {base : Heap} {C : Addr} {Ps : List Addr}
/-- the law's callees -/
structure Callees (P : Program) (w : World) (K : PySem.W.Frag) (mg : Str → Option Value) (base : Heap) (C : Addr) (Ps : List Addr) (k : Nat) : Prop where
  cb : ∃ f fd j, j ≤ k ∧ Cal P w K mg base (L2.CX P w) j "check_bounds" ["least", "most", "window"] (sp_check_bounds C) f fd
  even : ∃ f fd j, j ≤ k ∧ Cal P w K mg base (L2.CX P w) j "even" ["text", "size"] (sp_even C Ps) f fd
  sums : ∃ f fd j, j ≤ k ∧ Cal P w K mg base (L2.CX P w) j "sums" ["text", "window"] (sp_sums C Ps) f fd
  told : ∃ f fd j, j ≤ k ∧ Cal P w K mg base (L2.CX P w) j "told" ["text", "least", "most", "window", "by"] (sp_told C Ps) f fd
  places : ∃ f fd j, j ≤ k ∧ Cal P w K mg base (L2.CX P w) j "places_of" ["pieces"] (sp_places_of K Ps) f fd
  shared : ∃ f fd j, j ≤ k ∧ Cal P w K mg base (L2.CX P w) j "shared_pieces" ["one", "other"] (sp_shared_pieces K Ps) f fd
  fresh : ∃ f fd j, j ≤ k ∧ Cal P w K mg base (L2.CX P w) j "fresh_signs" ["one", "other"] (sp_fresh_signs K Ps) f fd
  cp : ∃ f fd j, j ≤ k ∧ Cal P w K mg base (L2.CX P w) j "check_pieces" ["text", "pieces", "least", "most"] (sp_check_pieces K C Ps) f fd
  settled : ∃ f fd j, j ≤ k ∧ Cal P w K mg base (L2.CX P w) j "settled" ["one", "other"] (sp_settled K) f fd
  roll : ∃ f fd j, j ≤ k ∧ Cal P w K mg base (L2.CX P w) j "_law_roll" ["dice", "many"] sp__law_roll f fd
  rounds : ∃ f fd j, j ≤ k ∧ Cal P w K mg base (L2.CX P w) j "_law_rounds" ["script", "most"] (sp__law_rounds K Ps) f fd
  text : ∃ f fd j, j ≤ k ∧ Cal P w K mg base (L2.CX P w) j "_law_text" ["dice", "most"] (sp__law_text Ps) f fd
/-- the law's own frame -/
abbrev LX0 (P : Program) (w : World) (K : PySem.W.Frag) (mg : Str → Option Value) (base : Heap) (f c : Addr) (A : Around) (outer : List Env) (s : Shared) (H : Hp) (E : XK) : Cx := cxOf (L2.CX P w) P w K mg base Nlaw "law" (defScope s_law) f (.ref c) A outer s H E
variable {f c d : Addr} {k : Nat} {A : Around} {outer : List Env} {s : Shared} {H0 HB : Hp} {E : XK}
def Pre0 (Ps : List Addr) (d : Addr) (HB : Hp) : L2.St → Hp → Prop := fun σ H => (∃ z0 z2 z3 z4 z5 z6 z7 z8 z9 z10 z11 z12 z13 z14 z15 z16 z17 z18 z19 z20 z21 z22, σ = [z0, some (.ref d), z2, z3, z4, z5, z6, z7, z8, z9, z10, z11, z12, z13, z14, z15, z16, z17, z18, z19, z20, z21, z22]) ∧ Gd Ps d HB H
def Pre1 (Ps : List Addr) (d : Addr) (HB : Hp) (t : Str) (w' : Nat) : L2.St → Hp → Prop := fun σ H => (∃ z0 z4 z5 z6 z7 z8 z9 z10 z11 z12 z13 z14 z15 z16 z17 z18 z19 z20 z21 z22, σ = [z0, some (.ref d), some (.str t), some (.int (w' : Nat)), z4, z5, z6, z7, z8, z9, z10, z11, z12, z13, z14, z15, z16, z17, z18, z19, z20, z21, z22]) ∧ Gd Ps d HB H
theorem SqT_of {H : Hp} {a : Addr} {xs : List V} (h : H a = some (.tup xs)) : SqT K H a xs := .inl (.inl h)
theorem gTup2 {i j : Nat} {p : Addr} {v z : V} {σ : L2.St} {H : Hp} {Q : L2.St → Hp → Prop} (h : SqT K H p [v, z]) (q : Q ((σ.set i (some v)).set j (some z)) H) : gTup K 2 (gCons (gName i) (gCons (gName j) gNil)) (.ref p) σ H Q := ⟨p, _, rfl, h, rfl, _, _, rfl, _, _, rfl, rfl, q⟩
theorem law0 (Z : Callees P w K mg base C Ps k) (T : Txt K mg C) (hr : Room k (A.deeper (envOfC "law" (defScope s_law) s.heap.objs.size f (.ref c)))) (nB : HB d ≠ none) : Step (LX0 P w K mg base f c A outer s H0 E) (lb 0) (Pre0 Ps d HB) (fun σ H => ∃ t w', t.length ≤ 20 ∧ AB t ∧ 1 ≤ w' ∧ w' ≤ 3 ∧ Pre1 Ps d HB t w' σ H) := by
  obtain ⟨_, _, _, k1, G1⟩ := Z.text
  obtain ⟨_, _, _, k2, G2⟩ := Z.roll
  refine ⟨_, ps_asg (pe_tup (pa_cons (pe_call G1.ok (hr.mono k1) (by rfl) G1.g G1.kp G1.b .nil passF (pa_cons (pv 1) (pa_cons pe_int pa_nil))) (pa_cons (pe_op op_add pe_int (pe_call G2.ok (hr.mono k2) (by rfl) G2.g G2.kp G2.b .nil passF (pa_cons (pv 1) (pa_cons pe_int pa_nil)))) pa_nil))) (pg_tup rfl (pgs_cons (pg_name (i := 2) sc_law.nd rfl (.inr rfl)) (pgs_cons (pg_name (i := 3) sc_law.nd rfl (.inr rfl)) pgs_nil))), fun D σ H hp hn => ?_⟩
  obtain ⟨⟨z0, z2, z3, z4, z5, z6, z7, z8, z9, z10, z11, z12, z13, z14, z15, z16, z17, z18, z19, z20, z21, z22, rfl⟩, g⟩ := hp
  walk_at "ev"
  refine ⟨d, 20, rfl, by decide, g.dice, g.tb, fun t H1 t1 t2 g1 => ?_⟩
  have g2 := g.trans g1
  refine ⟨d, 3, rfl, g2.dice, by decide, by decide, fun r a b c' hr2 => ⟨_, rfl, by decide, fun p hp => ?_⟩⟩
  have g3 := g2.roll a b c'
  refine gTup2 (SqT_of upd_same) (hn _ _ ⟨t, 1 + r, t1, t2, by omega, by omega, ⟨⟨z0, z4, z5, z6, z7, z8, z9, z10, z11, z12, z13, z14, z15, z16, z17, z18, z19, z20, z21, z22, by simp⟩, g3.new hp⟩⟩)
def Pre2 (Ps : List Addr) (d : Addr) (HB : Hp) (t : Str) (w' l b : Nat) : L2.St → Hp → Prop := fun σ H => (∃ z0 z6 z7 z8 z9 z10 z11 z12 z13 z14 z15 z16 z17 z18 z19 z20 z21 z22, σ = [z0, some (.ref d), some (.str t), some (.int (w' : Nat)), some (.int (l : Nat)), some (.int (b : Nat)), z6, z7, z8, z9, z10, z11, z12, z13, z14, z15, z16, z17, z18, z19, z20, z21, z22]) ∧ Gd Ps d HB H
def Pre3 (Ps : List Addr) (d : Addr) (HB : Hp) (t : Str) (w' l b m : Nat) : L2.St → Hp → Prop := fun σ H => (∃ z0 z7 z8 z9 z10 z11 z12 z13 z14 z15 z16 z17 z18 z19 z20 z21 z22, σ = [z0, some (.ref d), some (.str t), some (.int (w' : Nat)), some (.int (l : Nat)), some (.int (b : Nat)), some (.int (m : Nat)), z7, z8, z9, z10, z11, z12, z13, z14, z15, z16, z17, z18, z19, z20, z21, z22]) ∧ Gd Ps d HB H
theorem law1 (Z : Callees P w K mg base C Ps k) (T : Txt K mg C) (hr : Room k (A.deeper (envOfC "law" (defScope s_law) s.heap.objs.size f (.ref c)))) {t : Str} {w' : Nat} : Step (LX0 P w K mg base f c A outer s H0 E) (lb 1) (Pre1 Ps d HB t w') (fun σ H => ∃ l b : Nat, w' ≤ l ∧ l ≤ w' + 2 ∧ 1 ≤ b ∧ b ≤ 5 ∧ Pre2 Ps d HB t w' l b σ H) := by
  obtain ⟨_, _, _, k2, G2⟩ := Z.roll
  refine ⟨_, ps_asg (pe_tup (pa_cons (pe_op op_add (pv 3) (pe_call G2.ok (hr.mono k2) (by rfl) G2.g G2.kp G2.b .nil passF (pa_cons (pv 1) (pa_cons pe_int pa_nil)))) (pa_cons (pe_op op_add pe_int (pe_call G2.ok (hr.mono k2) (by rfl) G2.g G2.kp G2.b .nil passF (pa_cons (pv 1) (pa_cons pe_int pa_nil)))) pa_nil))) (pg_tup rfl (pgs_cons (pg_name (i := 4) sc_law.nd rfl (.inr rfl)) (pgs_cons (pg_name (i := 5) sc_law.nd rfl (.inl rfl)) pgs_nil))), fun D σ H hp hn => ?_⟩
  obtain ⟨⟨z0, z4, z5, z6, z7, z8, z9, z10, z11, z12, z13, z14, z15, z16, z17, z18, z19, z20, z21, z22, rfl⟩, g⟩ := hp
  walk_at "ev"
  refine ⟨d, 3, rfl, g.dice, by decide, by decide, fun r a b c' hr2 => ⟨_, rfl, ?_⟩⟩
  have g1 := g.roll a b c'
  refine ⟨d, 5, rfl, g1.dice, by decide, by decide, fun r2 a b c' hr3 => ⟨_, rfl, by decide, fun p hp => ?_⟩⟩
  have g3 := g1.roll a b c'
  refine gTup2 (SqT_of upd_same) (hn _ _ ⟨w' + r, 1 + r2, by omega, by omega, by omega, by omega, ⟨⟨z0, z6, z7, z8, z9, z10, z11, z12, z13, z14, z15, z16, z17, z18, z19, z20, z21, z22, by simp⟩, g3.new hp⟩⟩)
theorem law2 (Z : Callees P w K mg base C Ps k) (T : Txt K mg C) (hr : Room k (A.deeper (envOfC "law" (defScope s_law) s.heap.objs.size f (.ref c)))) {t : Str} {w' l b : Nat} : Step (LX0 P w K mg base f c A outer s H0 E) (lb 2) (Pre2 Ps d HB t w' l b) (fun σ H => ∃ m : Nat, l ≤ m ∧ m ≤ l + 4 ∧ Pre3 Ps d HB t w' l b m σ H) := by
  obtain ⟨_, _, _, k2, G2⟩ := Z.roll
  refine ⟨_, ps_set (i := 6) sc_law.nd rfl (.inr rfl) (pe_op op_add (pv 4) (pe_call G2.ok (hr.mono k2) (by rfl) G2.g G2.kp G2.b .nil passF (pa_cons (pv 1) (pa_cons pe_int pa_nil)))), fun D σ H hp hn => ?_⟩
  obtain ⟨⟨z0, z6, z7, z8, z9, z10, z11, z12, z13, z14, z15, z16, z17, z18, z19, z20, z21, z22, rfl⟩, g⟩ := hp
  walk_at "ev"
  refine ⟨d, 5, rfl, g.dice, by decide, by decide, fun r a b c' hr2 => ⟨_, rfl, ?_⟩⟩
  have g1 := g.roll a b c'
  exact hn _ _ ⟨l + r, by omega, by omega, ⟨⟨z0, z7, z8, z9, z10, z11, z12, z13, z14, z15, z16, z17, z18, z19, z20, z21, z22, by simp⟩, g1⟩⟩
end
end K2

set_option maxRecDepth 100000
set_option maxHeartbeats 4000000
namespace K2
open PySem PySem.Spec PyProof.Rows L2
open XT (pt_chain3)
open SkE (pmk_own1)
local macro_rules | `(tactic| walk_at "ev") => `(tactic| simp only [tSeq, tIfS, tNot, XT.tChain3, rI0, tC, tVar, tRet, tTup, tLst, tCons, tNil, tJs, tFmt, tNext, tTest, tOp, tUn, rI, rU, tCall, tCB, tAnd, tOr, tB, tDrop, tAsg, gName, tAug, tPar, ipI, tBM, rAppend, tSl, rSlS, tPart, tNoPart, rEq, rNe, L2.start, List.map_cons, List.map_nil, List.length_cons, List.length_nil, Nat.reduceAdd, Nat.reduceSub, Nat.sub_self, List.replicate_zero, List.append_nil, List.replicate_succ, List.cons_append, List.nil_append,
  List.getElem?_cons_zero, List.getElem?_cons_succ, Option.some.injEq, exists_eq_left', exists_eq_left, V.int.injEq, V.str.injEq, V.bl.injEq, V.ref.injEq, List.set_cons_zero, List.set_cons_succ, List.cons.injEq, and_true, true_and, reduceCtorEq, false_and, exists_false, false_or, or_false, exists_and_left, and_assoc, decide_eq_true_eq, Bool.not_eq_true', decide_eq_false_iff_not, Bool.not_false, Bool.not_true, if_true, if_false, Bool.false_eq_true, ↓reduceIte])
open XT (Sm pe_msg)

section
variable {P : Program} {w : World} {K : PySem.W.Frag} {mg : Str → Option Value} {base : Heap} {C : Addr} {Ps : List Addr}
theorem castsum (l : List Nat) : (l.map fun c => ((c : Nat) : Int)).sum = ((l.sum : Nat) : Int) := by
  induction l with
  | nil => rfl
  | cons x r ih =>
    rw [List.map_cons, List.sum_cons, ih, List.sum_cons]
    omega
/-- sum([ord(sign) for sign in x]) -/
theorem sumOrd {i : Nat} {te0 : TE} {σ : L2.St} {G : Hp} {Q : VK} (x : Str) (hx : x.length ≤ 1000) (hi : i < σ.length) (tb : Tb Ps G) (ha : ∀ R : VK, R (.str x) G → te0 σ G R) (h : ∀ G', Gw Ps G G' → Q (.int ((chs x).sum : Nat)) G') :
    tCB (rSum K) (tCons (tLc (iStr te0) (gName i) tYes (tCB (fun xs H Q => ∃ x, xs = [V.str x] ∧ x.length = 1 ∧ Q (V.int ((x.cps.getD 0 0 : Nat) : Int)) H) (tCons (tVar i) tNil)) [i]) tNil) σ G Q := by
  have go : tLc (iStr te0) (gName i) tYes (tCB (fun xs H Q => ∃ x, xs = [V.str x] ∧ x.length = 1 ∧ Q (V.int ((x.cps.getD 0 0 : Nat) : Int)) H) (tCons (tVar i) tNil)) [i] σ G (fun v H1 => rSum K [v] H1 Q) := ?_
  · exact go
  refine ha _ ⟨x, rfl, fun D hD => ?_⟩
  have hl : x.cps.size = (chs x).length := by
    show _ = x.cps.toList.length
    simp
  have hl2 : x.cps.size ≤ 1000 := hx
  refine XT.lc_pure (J := Its x) x.cps.size (fun j => ((chs x)[j]?).map fun c => V.int ((c : Nat) : Int)) (Nat.le_trans hl2 (by decide)) (fun j acc hj => hj) (fun acc => Nat.le_refl _) (fun j acc hj y H' hy Nx hn hnx => ?_) ?_
  · obtain ⟨rfl, c, hc, rfl⟩ := hy
    have hc2 : (chs x)[j]? = some c := by
      show x.cps.toList[j]? = some c
      rw [Array.getElem?_toList]
      exact hc
    rw [hc2] at hnx
    refine ⟨by simp [wipe, List.set_set], ?_⟩
    simp only [tYes, ↓reduceIte]
    have hv : ((wipe σ [i]).set i (some (V.str ⟨#[c]⟩)))[i]? = some (some (V.str ⟨#[c]⟩)) := by
      rw [List.getElem?_set_self]
      show i < (σ.set i none).length
      rw [List.length_set]
      exact hi
    refine ⟨_, hv, _, rfl, rfl, acc, upd_same, hn, ?_⟩
    rw [upd_upd]
    exact hnx
  · rw [hl, XT.fm_map]
    refine ⟨D, (chs x).map fun c => ((c : Nat) : Int), rfl, SqL.of (by rw [upd_same, List.map_map]; rfl), ?_⟩
    rw [castsum]
    exact h _ ((Gw.refl tb).new hD)
variable {f c d : Addr} {k : Nat} {A : Around} {outer : List Env} {s : Shared} {H0 HB : Hp} {E : XK}
theorem tLc_rng1 {ta : TA} {g : TG} {tt : TT} {te : TE} {vs : List Nat} {σ : L2.St} {H : Hp} {Q : VK} (j : Int) (n : Nat) (ha : ∀ R : List V → Hp → Prop, R [.int j] H → ta σ H R) (hb : -(2 ^ 62) ≤ j ∧ j < 2 ^ 62) (en : j.toNat = n)
    (h : ∀ D, H D = none → ∃ W : Nat → Nat → Hp → Prop, (∃ m, W 0 m (upd H D (.lst []))) ∧ ∀ i m H, W i m H → ((Itr 0 n).stop i H ∧ Q (.ref D) H) ∨ ((Itr 0 n).go i H ∧ ∃ Nx : Hp → Prop, (∀ H', Nx H' → ∃ m', m' < m ∧ W (i + 1) m' H') ∧ ∀ x H', (Itr 0 n).yld i H x H' → g x (wipe σ vs) H' fun σ2 H2 => wipe σ2 vs = wipe σ vs ∧ tt σ2 H2 fun b H3 =>
      if b = true then te σ2 H3 fun y H4 => ∃ acc, H4 D = some (.lst acc) ∧ acc.length < sizeLine ∧ Nx (upd H4 D (.lst (acc ++ [y]))) else Nx H3)) : tLc (iRng1 ta) g tt te vs σ H Q := by
  refine ha _ ⟨j, rfl, hb.1, hb.2, ?_⟩
  rw [en]
  exact h
theorem AB.sm {t : Str} (h : AB t) (hl : t.length ≤ 100) : SmT t := ⟨hl, fun c hc => by rcases h c hc with h | h | h <;> omega⟩
def sumsI (L : List Nat) (w : Nat) : List Int := (List.range (L.length + 1 - w)).map fun i => (winS L i w : Nat)
theorem sumsV_I (L : List Nat) (w : Nat) : sumsV L w = (sumsI L w).map V.int := by
  unfold sumsV sumsI
  rw [List.map_map]
  rfl
theorem sub_win (L : List Nat) (i w : Nat) : (chs (sub L i (i + w))).sum = winS L i w := by
  unfold sub winS
  rw [chs_ofL, Nat.add_sub_cancel_left]
theorem law3 (Z : Callees P w K mg base C Ps k) (T : Txt K mg C) (hr : Room k (A.deeper (envOfC "law" (defScope s_law) s.heap.objs.size f (.ref c)))) {t : Str} {w' l b m : Nat} (t1 : t.length ≤ 20) (t2 : AB t) (b1 : 1 ≤ w') (b2 : w' ≤ 3) (b3 : w' ≤ l) (b4 : l ≤ w' + 2) (b5 : l ≤ m) (b6 : m ≤ l + 4) : Step (LX0 P w K mg base f c A outer s H0 E) (lb 3) (Pre3 Ps d HB t w' l b m) (Pre3 Ps d HB t w' l b m) := by
  obtain ⟨_, _, _, k1, G1⟩ := Z.cb
  obtain ⟨_, _, _, k2, G2⟩ := Z.sums
  refine ⟨_, ps_if (PW.pt (pw_or (pt_cmpR (op_neD hr.units) (pe_call G1.ok (hr.mono k1) (by rfl) G1.g G1.kp G1.b .nil passF (pa_cons (pv 4) (pa_cons (pv 6) (pa_cons (pv 3) pa_nil)))) (pe_tup (pa_cons (pv 4) (pa_cons (pv 6) (pa_cons (pv 3) pa_nil)))) (nomark _))
    (pw_or1 (pt_cmpR (op_neD hr.units) (pe_callTy call_list_of (by rfl) T.z_list (by decide +kernel) (pa_cons (pe_call G2.ok (hr.mono k2) (by rfl) G2.g G2.kp G2.b .nil passF (pa_cons (pv 2) (pa_cons (pv 3) pa_nil))) pa_nil))
      (pe_lc (own := [("k", 8)]) rfl sc_law.nd (pi_range1 (by rfl) T.z_range (pa_cons (pe_op op_add (pe_op op_sub (pe_callB call_len_str (by rfl) T.z_len (by decide +kernel) (pa_cons (pv 2) pa_nil)) (pv 3)) pe_int) pa_nil)) (blkOk_by (by show blkC Nlaw (defScope s_law) _ _ = true; decide +kernel)) (fun _ _ _ _ _ => (pg_name (i := 8) sc_law.nd rfl (.inl rfl))) (fun _ _ _ _ _ => pts_nil)
        (fun _ _ _ _ _ => (pe_callB (r := rSum K) (cr_sum rfl) (by rfl) T.z_sum (by decide +kernel) (pa_cons (pe_lc (own := [("sign", 7)]) rfl sc_law.nd (pi_str (pe_slice sl_str (pv 2) (po_some (pv 8)) (po_some (pe_op op_add (pv 8) (pv 3))))) (blkOk_by (by show blkC Nlaw { kind := ScopeKind.function, names := [(".0", NameKind.local), ("k", NameKind.local), ("sum", NameKind.globalImplicit), ("text", NameKind.cell), ("window", NameKind.cell)], isGenerator := false, isCoroutine := false } _ _ = true; decide +kernel)) (fun _ _ _ _ _ => (pg_name (i := 7) sc_law.nd rfl (.inl rfl))) (fun _ _ _ _ _ => pts_nil) (fun _ _ _ _ _ => (pe_callB call_ord (by rfl) T.z_ord (by decide +kernel) (pa_cons (pv 7) pa_nil)))) pa_nil)))) (nomark _)))))
    (pss_one (ps_ret pe_bl)) pss_nil, fun D σ H hp hn => ?_⟩
  obtain ⟨⟨z0, z7, z8, z9, z10, z11, z12, z13, z14, z15, z16, z17, z18, z19, z20, z21, z22, rfl⟩, g⟩ := hp
  walk_at "ev"
  have sN : ∀ n : Nat, n ≤ 1000 → Sm (n : Int) := fun n h => ⟨by omega, by omega⟩
  have hL : (chs t).length = t.length := chs_len t
  have hlt : t.length ≤ sizeLine := Nat.le_trans t1 (by decide)
  refine ⟨_, _, _, rfl, sN l (by omega), sN m (by omega), sN w' (by omega), fun _ p hp => ⟨by decide, fun p2 hp2 => ?_⟩, fun z => absurd ⟨by omega, by omega, by omega⟩ z⟩
  have g1 := (g.new (o := .tup [.int (l : Nat), .int (m : Nat), .int (w' : Nat)]) hp)
  have g2 := g1.new (o := .tup [.int (l : Nat), .int (m : Nat), .int (w' : Nat)]) hp2
  have np : p ≠ p2 := (upd_none hp2).2.symm
  refine rNe_tI (ns := [(l : Int), m, w']) (ms := [(l : Int), m, w']) (SqT_of (by rw [upd_ne np]; exact upd_same)) (SqT_of upd_same) ⟨_, rfl, ?_⟩
  rw [if_neg (by simp)]
  refine ⟨t, _, rfl, t2.sm (by omega), sN w' (by omega), g2.tb, fun z => by omega, fun _ => ?_⟩
  intro H1 q gw hq0 hq
  rw [Int.toNat_natCast] at hq
  have g3 := g2.gw gw
  refine ⟨q, rfl, _, .inr (SqT_of hq), fun l1 hl1 => ?_⟩
  have g4 : Gw Ps (upd H1 l1 (.lst (sumsV (chs t) w'))) (upd H1 l1 (.lst (sumsV (chs t) w'))) := Gw.refl (g3.new hl1).tb
  have g5 := g3.new (o := .lst (sumsV (chs t) w')) hl1
  have e1 : (upd H1 l1 (.lst (sumsV (chs t) w'))) l1 = some (.lst (sumsV (chs t) w')) := upd_same
  have nl1 : l1 ∉ Ps := g3.tb.none hl1
  generalize upd H1 l1 (.lst (sumsV (chs t) w')) = Hd at g4 g5 e1 ⊢
  refine tLc_rng1 ((t.length : Int) - (w' : Nat) + 1) ((chs t).length + 1 - w') (fun R r => ?_) ⟨by omega, by omega⟩ (by omega) (fun D' hD => ?_)
  · walk_at "ev"
    exact ⟨hlt, r⟩
  have nD : D' ∉ Ps := g5.tb.none hD
  refine lc_range (fun i G => Gw Ps Hd G ∧ G D' = some (.lst ((List.range i).map fun j => .int (winS (chs t) j w' : Nat)))) ⟨g4.new hD, upd_same⟩ ?_ ?_
  · rintro i G hi ⟨gi, hG⟩
    refine ⟨by simp [wipe], ?_⟩
    simp only [tYes, wipe, List.set_cons_zero, List.set_cons_succ, ↓reduceIte]
    have ec : cutS t (some (0 + (i : Nat))) (some (0 + (i : Nat) + (w' : Nat))) = sub (chs t) i (i + w') := by
      have := cutS_ab t (show i ≤ i + w' by omega) (by omega)
      rw [← this]
      congr 2 <;> omega
    refine sumOrd (sub (chs t) i (i + w')) ?_ (by simp) gi.1 (fun R r => ?_) (fun G' gg => ?_)
    · unfold sub
      rw [ofL_len, List.length_take, List.length_drop]
      omega
    · walk_at "ev"
      rw [ec]
      exact ⟨hlt, r⟩
    · have e2 := gg.2 D' _ nD hG
      refine ⟨_, e2, ?_, (gi.trans gg).set hD nD, ?_⟩
      · rw [List.length_map, List.length_range]
        exact Nat.lt_of_lt_of_le (show i < 101 by omega) (by decide)
      · rw [upd_same, sub_win, range_map_succ]
  · rintro G ⟨gi, hG⟩
    have e2 := gi.2 l1 _ nl1 e1
    rw [sumsV_I] at e2
    refine rNe_lI (ns := sumsI (chs t) w') (ms := sumsI (chs t) w') (SqL.of e2) (SqL.of (by rw [hG, ← sumsV_I]; rfl)) ⟨_, rfl, ?_⟩
    rw [if_neg (by simp)]
    exact hn _ _ ⟨⟨z0, z7, z8, z9, z10, z11, z12, z13, z14, z15, z16, z17, z18, z19, z20, z21, z22, rfl⟩, g5.gw gi⟩
end
end K2

set_option maxRecDepth 100000
set_option maxHeartbeats 4000000
namespace K2
open PySem PySem.Spec PyProof.Rows L2
open XT (pt_chain3)
open SkE (pmk_own1)
local macro_rules | `(tactic| walk_at "ev") => `(tactic| simp only [tSeq, tIfS, tNot, XT.tChain3, rI0, tC, tVar, tRet, tTup, tLst, tCons, tNil, tJs, tFmt, tNext, tTest, tOp, tUn, rI, rU, tCall, tCB, tAnd, tOr, tB, tDrop, tAsg, gName, tAug, tPar, ipI, tBM, rAppend, tSl, rSlS, tPart, tNoPart, rEq, rNe, L2.start, List.map_cons, List.map_nil, List.length_cons, List.length_nil, Nat.reduceAdd, Nat.reduceSub, Nat.sub_self, List.replicate_zero, List.append_nil, List.replicate_succ, List.cons_append, List.nil_append,
  List.getElem?_cons_zero, List.getElem?_cons_succ, Option.some.injEq, exists_eq_left', exists_eq_left, V.int.injEq, V.str.injEq, V.bl.injEq, V.ref.injEq, List.set_cons_zero, List.set_cons_succ, List.cons.injEq, and_true, true_and, reduceCtorEq, false_and, exists_false, false_or, or_false, exists_and_left, and_assoc, decide_eq_true_eq, Bool.not_eq_true', decide_eq_false_iff_not, Bool.not_false, Bool.not_true, if_true, if_false, Bool.false_eq_true, ↓reduceIte])
open XT (Sm pe_msg)

section
variable {P : Program} {w : World} {K : PySem.W.Frag} {mg : Str → Option Value} {base : Heap} {C : Addr} {Ps : List Addr}
variable {f c d : Addr} {k : Nat} {A : Around} {outer : List Env} {s : Shared} {H0 HB : Hp} {E : XK}
/-- pieces so far, and the text behind them -/
def Pre4 (Ps : List Addr) (d : Addr) (HB : Hp) (t : Str) (w' l b m : Nat) (ps : List Str) (here : Str) : L2.St → Hp → Prop := fun σ H => ∃ pa, (∃ z0 z7 z8 z11 z12 z13 z14 z15 z16 z17 z18 z19 z20 z21 z22, σ = [z0, some (.ref d), some (.str t), some (.int (w' : Nat)), some (.int (l : Nat)), some (.int (b : Nat)), some (.int (m : Nat)), z7, z8, some (.ref pa), some (.str here), z11, z12, z13, z14, z15, z16, z17, z18, z19, z20, z21, z22]) ∧ Gd Ps d HB H ∧ H pa = some (.lst (ps.map V.str)) ∧ pa ≠ d
theorem law4 (T : Txt K mg C) {t : Str} {w' l b m : Nat} : Step (LX0 P w K mg base f c A outer s H0 E) (lb 4) (Pre3 Ps d HB t w' l b m) (Pre4 Ps d HB t w' l b m [] (Str.ofString "")) := by
  refine ⟨_, ps_asg (pe_tup (pa_cons (pe_lst pa_nil) (pa_cons pe_str pa_nil))) (pg_tup rfl (pgs_cons (pg_name (i := 9) sc_law.nd rfl (.inr rfl)) (pgs_cons (pg_name (i := 10) sc_law.nd rfl (.inl rfl)) pgs_nil))), fun D σ H hp hn => ?_⟩
  obtain ⟨⟨z0, z7, z8, z9, z10, z11, z12, z13, z14, z15, z16, z17, z18, z19, z20, z21, z22, rfl⟩, g⟩ := hp
  walk_at "ev"
  refine ⟨by decide, fun p hp => ⟨by decide, fun p2 hp2 => ?_⟩⟩
  have g1 := g.new (o := .lst []) hp
  refine gTup2 (SqT_of upd_same) (hn _ _ ⟨p, ⟨z0, z7, z8, z11, z12, z13, z14, z15, z16, z17, z18, z19, z20, z21, z22, rfl⟩, g1.new hp2, ?_, g.ne hp⟩)
  rw [upd_ne (upd_none hp2).2.symm]
  exact upd_same
/-- the law's own cutting -/
def runA (L : List Nat) (l m w b : Nat) : Nat → Nat × List Str
  | 0 => (0, [])
  | i + 1 => stepT L l m w b (i + 1) (runA L l m w b i)
theorem runA_le (L : List Nat) (l m w b : Nat) : ∀ i, (runA L l m w b i).1 ≤ i ∧ (runA L l m w b i).2.length ≤ i := by
  intro i
  induction i with
  | zero => exact ⟨Nat.le_refl _, Nat.le_refl _⟩
  | succ i ih =>
    rw [runA, stepT]
    split
    · exact ⟨Nat.le_refl _, by rw [List.length_append]; simp; omega⟩
    · exact ⟨by omega, by omega⟩
theorem sumOrdL {i : Nat} {te0 : TE} {σ : L2.St} {G : Hp} {Q : VK} (x : Str) (hx : x.length ≤ 1000) (hi : i < σ.length) (tb : Tb Ps G) (ha : ∀ R : VK, R (.str x) G → te0 σ G R) (h : ∀ G', Gw Ps G G' → Q (.int ((chs x).sum : Nat)) G') :
    tLc (iStr te0) (gName i) tYes (tCB (fun xs H Q => ∃ x, xs = [V.str x] ∧ x.length = 1 ∧ Q (V.int ((x.cps.getD 0 0 : Nat) : Int)) H) (tCons (tVar i) tNil)) [i] σ G (fun v H1 => rSum K [v] H1 Q) := by
  have := sumOrd (K := K) (i := i) x hx hi tb ha h
  exact this
theorem sub_len (L : List Nat) {a b : Nat} (hb : b ≤ L.length) : (sub L a b).length = b - a := by
  unfold sub
  rw [ofL_len, List.length_take, List.length_drop]
  omega
theorem sub_snoc {L : List Nat} {a i ch : Nat} (ha : a ≤ i) (h : L[i]? = some ch) : sub L a i ++ ⟨#[ch]⟩ = sub L a (i + 1) := by
  refine chs_inj ?_
  rw [chs_append]
  unfold sub
  rw [chs_ofL, chs_ofL]
  have e : i + 1 - a = (i - a) + 1 := by omega
  have e2 : (L.drop a)[i - a]? = some ch := by
    rw [List.getElem?_drop, ← h]
    congr 1
    omega
  rw [e, List.take_add_one, e2]
  rfl
def lb5 (i : Nat) : Stmt := (forB (lb 5)).getD i (.Pass ⟨0, 0, 0, 0⟩)
theorem law5 (T : Txt K mg C) {t : Str} {w' l b m : Nat} (t1 : t.length ≤ 20) (t2 : AB t) (b1 : 1 ≤ w') (b2 : w' ≤ 3) (b3 : w' ≤ l) (b4 : l ≤ w' + 2) (b5 : l ≤ m) (b6 : m ≤ l + 4) (b7 : 1 ≤ b) (b8 : b ≤ 5) : Step (LX0 P w K mg base f c A outer s H0 E) (lb 5) (Pre4 Ps d HB t w' l b m [] (Str.ofString ""))
    (Pre4 Ps d HB t w' l b m (runA (chs t) l m w' b t.length).2 (sub (chs t) (runA (chs t) l m w' b t.length).1 t.length)) := by
  refine ⟨_, ps_for (passes_of rfl) rfl (pi_range1 (by rfl) T.z_range (pa_cons (pe_callB call_len_str (by rfl) T.z_len (by decide +kernel) (pa_cons (pv 2) pa_nil)) pa_nil)) (pg_name (i := 8) sc_law.nd rfl (.inl rfl))
      (pss_cons (ps_set (i := 10) sc_law.nd rfl (.inl rfl) (pe_op op_add_str (pv 10) (pe_ix ix_str (pv 2) (pv 8) (fun _ _ => rfl))))
    (pss_cons (ps_set (i := 11) sc_law.nd rfl (.inl rfl) (pe_callB (r := rSum K) (cr_sum rfl) (by rfl) T.z_sum (by decide +kernel) (pa_cons (pe_lc (own := [("sign", 7)]) rfl sc_law.nd (pi_str (pe_slice sl_str (pv 2) (po_some (pe_callB (call_max2 rfl) (by rfl) T.z_max (by decide +kernel) (pa_cons pe_int (pa_cons (pe_op op_sub (pe_op op_add (pv 8) pe_int) (pv 3)) pa_nil)))) (po_some (pe_op op_add (pv 8) pe_int)))) (blkOk_by (by show blkC Nlaw (defScope s_law) _ _ = true; decide +kernel)) (fun _ _ _ _ _ => (pg_name (i := 7) sc_law.nd rfl (.inl rfl))) (fun _ _ _ _ _ => pts_nil) (fun _ _ _ _ _ => (pe_callB call_ord (by rfl) T.z_ord (by decide +kernel) (pa_cons (pv 7) pa_nil)))) pa_nil)))
    (pss_one (ps_if (PW.pt (pw_or (pt_cmpR op_eq (pe_callB call_len_str (by rfl) T.z_len (by decide +kernel) (pa_cons (pv 10) pa_nil)) (pv 6) (nomark _)) (pw_or1 (PW.pt (pw_and (pt_cmpR op_ge (pe_callB call_len_str (by rfl) T.z_len (by decide +kernel) (pa_cons (pv 10) pa_nil)) (pv 4) (nomark _)) (pw_and1 (pt_cmpR op_eq (pe_op op_modN (pv 11) (pv 5)) pe_int (nomark _))))))))
      (pss_one (ps_asg (pe_tup (pa_cons (pe_op op_cat (pv 9) (pe_lst (pa_cons (pv 10) pa_nil))) (pa_cons pe_str pa_nil))) (pg_tup rfl (pgs_cons (pg_name (i := 9) sc_law.nd rfl (.inr rfl)) (pgs_cons (pg_name (i := 10) sc_law.nd rfl (.inl rfl)) pgs_nil))))) pss_nil)))), fun D σ H hp hn => ?_⟩
  have hL : (chs t).length = t.length := chs_len t
  have hlt : t.length ≤ sizeLine := Nat.le_trans t1 (by decide)
  refine tFor_rng1 (t.length : Nat) t.length (fun i σ H => Pre4 Ps d HB t w' l b m (runA (chs t) l m w' b i).2 (sub (chs t) (runA (chs t) l m w' b i).1 i) σ H) (fun R r => ?_) ⟨by omega, by omega⟩ (by omega) ?_ (fun i σ H hi hP => ?_) (fun σ H hP => hn _ _ hP)
  · obtain ⟨pa, ⟨z0, z7, z8, z11, z12, z13, z14, z15, z16, z17, z18, z19, z20, z21, z22, rfl⟩, _⟩ := hp
    walk_at "ev"
    exact ⟨hlt, r⟩
  · have e : sub (chs t) 0 0 = Str.ofString "" := rfl
    show Pre4 Ps d HB t w' l b m [] (sub (chs t) 0 0) σ H
    rw [e]
    exact hp
  · obtain ⟨pa, ⟨z0, z7, z8, z11, z12, z13, z14, z15, z16, z17, z18, z19, z20, z21, z22, rfl⟩, g, hpa, npd⟩ := hP
    walk_at "ev"
    have e0 : (0 : Int) + (i : Nat) = (i : Nat) := by omega
    have gi : (chs t)[i]? = some (chs t)[i] := List.getElem?_eq_getElem (by omega)
    rw [e0]
    refine ⟨t, _, _, rfl, rfl, hlt, atI_nat gi, _, rfl, ?_⟩
    have rs : runA (chs t) l m w' b (i + 1) = stepT (chs t) l m w' b (i + 1) (runA (chs t) l m w' b i) := rfl
    have hle := runA_le (chs t) l m w' b i
    rw [rs]
    generalize runA (chs t) l m w' b i = r at hle hpa ⊢
    obtain ⟨s0, ps⟩ := r
    simp only [] at hle hpa ⊢
    rw [sub_snoc hle.1 gi]
    have ln1 : (sub (chs t) s0 (i + 1)).length = i + 1 - s0 := sub_len _ (by omega)
    have yes : cutAt (chs t) l m w' b s0 (i + 1) → stepT (chs t) l m w' b (i + 1) (s0, ps) = (i + 1, ps ++ [sub (chs t) s0 (i + 1)]) := fun z => by
      unfold stepT
      rw [if_pos z]
    have no : ¬ cutAt (chs t) l m w' b s0 (i + 1) → stepT (chs t) l m w' b (i + 1) (s0, ps) = (s0, ps) := fun z => by
      unfold stepT
      rw [if_neg z]
    have sub_self : sub (chs t) (i + 1) (i + 1) = Str.ofString "" := by
      unfold sub
      rw [Nat.sub_self, List.take_zero]
      rfl
    have hc0 : (sub (chs t) s0 i).length = i - s0 := sub_len _ (by omega)
    refine ⟨?_, ?_⟩
    · rw [hc0]
      exact Nat.le_trans (show i - s0 + 1 ≤ 101 by omega) (by decide)
    refine sumOrdL (sub (chs t) (i + 1 - w') (i + 1)) ?_ (by simp) g.tb (fun R r => ?_) (fun G' gg => ?_)
    · rw [sub_len _ (by omega)]
      omega
    · walk_at "ev"
      have ec : cutS t (some (if ((i : Nat) : Int) + 1 - (w' : Nat) > 0 then ((i : Nat) : Int) + 1 - (w' : Nat) else 0)) (some (((i : Nat) : Int) + 1)) = sub (chs t) (i + 1 - w') (i + 1) := by
        rw [← cutS_ab t (show i + 1 - w' ≤ i + 1 by omega) (by omega)]
        congr 2
        split <;> omega
      rw [ec]
      exact ⟨hlt, r⟩
    have g2 := g.gw gg
    have npP : pa ∉ Ps := g.tb.not hpa fun _ z => by cases z
    have hpa1 := gg.2 pa _ npP hpa
    rw [ln1]
    have l1 : i + 1 - s0 ≤ sizeLine := Nat.le_trans (show i + 1 - s0 ≤ 101 by omega) (by decide)
    refine ⟨l1, rfl, ?_⟩
    by_cases d1 : ((i + 1 - s0 : Nat) : Int) = (m : Nat)
    · rw [if_pos d1]
      have z1 : cutAt (chs t) l m w' b s0 (i + 1) := .inl (by omega)
      refine ⟨by decide, fun p hp => ⟨pa, p, _, _, rfl, rfl, by rw [upd_ne (fun z => by rw [z, hp] at hpa1; cases hpa1)]; exact hpa1, upd_same, ?_, fun q hq => ⟨by decide, fun p2 hp2 => ?_⟩⟩⟩
      · rw [List.length_map]
        exact Nat.le_trans (Nat.add_le_add (hle.2) (Nat.le_refl _)) (show i + 1 ≤ sizeLine from Nat.le_trans (show i + 1 ≤ 101 by omega) (by decide))
      · have g3 := (g2.new (o := .lst [.str (sub (chs t) s0 (i + 1))]) hp)
        refine gTup2 (SqT_of upd_same) ⟨q, ?_, (g3.new hq).new hp2, ?_, g3.ne hq⟩
        · rw [yes z1, sub_self]
          exact ⟨_, _, _, _, _, _, _, _, _, _, _, _, _, _, _, rfl⟩
        · rw [upd_ne (upd_none hp2).2.symm, upd_same, yes z1, List.map_append]
          rfl
    rw [if_neg d1]
    refine ⟨l1, ?_⟩
    by_cases d2 : ((l : Nat) : Int) ≤ (i + 1 - s0 : Nat)
    · rw [if_pos d2]
      have es : (chs (sub (chs t) (i + 1 - w') (i + 1))).sum = winS (chs t) (i + 1 - w') w' := by
        have := sub_win (chs t) (i + 1 - w') w'
        rw [Nat.sub_add_cancel (by omega)] at this
        exact this
      have em : ((winS (chs t) (i + 1 - w') w' : Nat) : Int).fmod (b : Nat) = ((winS (chs t) (i + 1 - w') w' % b : Nat) : Int) := by
        rw [Int.fmod_eq_emod_of_nonneg _ (by omega)]
        rfl
      refine ⟨_, rfl, by omega, rfl, ?_⟩
      rw [es, em]
      by_cases d3 : winS (chs t) (i + 1 - w') w' % b = 0
      · rw [if_pos (by rw [d3]; rfl)]
        have z1 : cutAt (chs t) l m w' b s0 (i + 1) := .inr ⟨by omega, d3⟩
        refine ⟨by decide, fun p hp => ⟨pa, p, _, _, rfl, rfl, by rw [upd_ne (fun z => by rw [z, hp] at hpa1; cases hpa1)]; exact hpa1, upd_same, ?_, fun q hq => ⟨by decide, fun p2 hp2 => ?_⟩⟩⟩
        · rw [List.length_map]
          exact Nat.le_trans (Nat.add_le_add (hle.2) (Nat.le_refl _)) (show i + 1 ≤ sizeLine from Nat.le_trans (show i + 1 ≤ 101 by omega) (by decide))
        · have g3 := (g2.new (o := .lst [.str (sub (chs t) s0 (i + 1))]) hp)
          refine gTup2 (SqT_of upd_same) ⟨q, ?_, (g3.new hq).new hp2, ?_, g3.ne hq⟩
          · rw [yes z1, sub_self]
            exact ⟨_, _, _, _, _, _, _, _, _, _, _, _, _, _, _, rfl⟩
          · rw [upd_ne (upd_none hp2).2.symm, upd_same, yes z1, List.map_append]
            rfl
      · rw [if_neg (by omega)]
        have z1 : ¬ cutAt (chs t) l m w' b s0 (i + 1) := fun z => z.elim (fun z => d1 (by omega)) fun z => d3 z.2
        refine ⟨pa, ?_, g2, ?_, npd⟩
        · rw [no z1]
          exact ⟨_, _, _, _, _, _, _, _, _, _, _, _, _, _, _, rfl⟩
        · rw [no z1]
          exact hpa1
    · rw [if_neg d2]
      have z1 : ¬ cutAt (chs t) l m w' b s0 (i + 1) := fun z => z.elim (fun z => d1 (by omega)) fun z => d2 (by omega)
      refine ⟨pa, ?_, g2, ?_, npd⟩
      · rw [no z1]
        exact ⟨_, _, _, _, _, _, _, _, _, _, _, _, _, _, _, rfl⟩
      · rw [no z1]
        exact hpa1
end
end K2

set_option maxRecDepth 100000
set_option maxHeartbeats 4000000
namespace K2
open PySem PySem.Spec PyProof.Rows L2
open XT (pt_chain3)
open SkE (pmk_own1)
local macro_rules | `(tactic| walk_at "ev") => `(tactic| simp only [tSeq, tIfS, tNot, XT.tChain3, rI0, tC, tVar, tRet, tTup, tLst, tCons, tNil, tJs, tFmt, tNext, tTest, tOp, tUn, rI, rU, tCall, tCB, tAnd, tOr, tB, tDrop, tAsg, gName, tAug, tPar, ipI, tBM, rAppend, tSl, rSlS, tPart, tNoPart, rEq, rNe, L2.start, List.map_cons, List.map_nil, List.length_cons, List.length_nil, Nat.reduceAdd, Nat.reduceSub, Nat.sub_self, List.replicate_zero, List.append_nil, List.replicate_succ, List.cons_append, List.nil_append,
  List.getElem?_cons_zero, List.getElem?_cons_succ, Option.some.injEq, exists_eq_left', exists_eq_left, V.int.injEq, V.str.injEq, V.bl.injEq, V.ref.injEq, List.set_cons_zero, List.set_cons_succ, List.cons.injEq, and_true, true_and, reduceCtorEq, false_and, exists_false, false_or, or_false, exists_and_left, and_assoc, decide_eq_true_eq, Bool.not_eq_true', decide_eq_false_iff_not, Bool.not_false, Bool.not_true, if_true, if_false, Bool.false_eq_true, ↓reduceIte])
open XT (Sm pe_msg)

section
/-! ### the cutting, looked at -/
theorem stepT_irr {L : List Nat} {l m w b p : Nat} {st : Nat × List Str} (h : p < l) (hl : l ≤ m) : stepT L l m w b p st = st := by
  unfold stepT
  rw [if_neg]
  intro z
  rcases z with z | z
  · omega
  · omega
theorem runA_low {L : List Nat} {l m w b : Nat} (hl : l ≤ m) : ∀ i, i < l → runA L l m w b i = (0, []) := by
  intro i
  induction i with
  | zero => intro _; rfl
  | succ i ih =>
    intro h
    rw [runA, ih (by omega), stepT_irr h hl]
theorem runA_T {L : List Nat} {l m w b : Nat} (hl : l ≤ m) (h1 : 1 ≤ l) : ∀ i, runA L l m w b (l - 1 + i) = runT L l m w b i := by
  intro i
  induction i with
  | zero => rw [Nat.add_zero, runA_low hl _ (by omega)]; rfl
  | succ i ih =>
    have e : l - 1 + (i + 1) = (l - 1 + i) + 1 := by omega
    rw [e, runA, ih, runT]
    congr 1
    omega
/-- the pieces -/
def pcs (L : List Nat) (l m w b : Nat) : List Str := lastT L (runA L l m w b L.length)
/-- one place more, at the text's end, changes nothing -/
theorem last_step {L : List Nat} {l m w b : Nat} {st : Nat × List Str} (h : st.1 < L.length) : lastT L (stepT L l m w b L.length st) = lastT L st := by
  unfold stepT
  split
  · unfold lastT
    rw [if_neg (Nat.lt_irrefl _), if_pos h]
  · rfl
theorem told_pcs {L : List Nat} {l m w b : Nat} (hl : l ≤ m) (h1 : 1 ≤ l) : toldS L l m w b = pcs L l m w b := by
  unfold toldS pcs
  by_cases hn : L.length = 0
  · have e : L.length - l = 0 := by omega
    rw [e, hn]
    rfl
  by_cases hc : L.length < l
  · have e : L.length - l = 0 := by omega
    rw [e, runA_low hl _ hc]
    rfl
  · have e : L.length = (l - 1 + (L.length - l)) + 1 := by omega
    have e2 : runA L l m w b L.length = stepT L l m w b L.length (runT L l m w b (L.length - l)) := by
      rw [← runA_T hl h1]
      conv => lhs; rw [e]
      rw [runA]
      congr 1
      omega
    rw [e2, last_step]
    have := (runA_le L l m w b (L.length - 1)).1
    have e3 : L.length - 1 = l - 1 + (L.length - l) := by omega
    rw [e3, runA_T hl h1] at this
    omega
/-- what stands of the cutting at place i -/
structure Cut (L : List Nat) (l m : Nat) (i : Nat) (st : Nat × List Str) : Prop where
  le : st.1 ≤ i
  all : (st.2.map chs).flatten = L.take st.1
  ok : ∀ x ∈ st.2, 1 ≤ x.length ∧ l ≤ x.length ∧ x.length ≤ m
  open' : i - st.1 < m
  len : st.2.length ≤ i
theorem cut_all {L : List Nat} {l m w b : Nat} (hl : l ≤ m) (h1 : 1 ≤ l) : ∀ i, i ≤ L.length → Cut L l m i (runA L l m w b i) := by
  intro i
  induction i with
  | zero => intro _; exact ⟨Nat.le_refl _, rfl, (fun x h => nomatch h), (by show 0 - 0 < m; omega), Nat.le_refl _⟩
  | succ i ih =>
    intro hi
    have c := ih (by omega)
    rw [runA]
    generalize runA L l m w b i = st at c
    obtain ⟨s0, ps⟩ := st
    obtain ⟨c1, c2, c3, c4, c5⟩ := c
    simp only [] at c1 c2 c3 c4 c5
    unfold stepT
    by_cases z : cutAt L l m w b s0 (i + 1)
    · rw [if_pos z]
      have lenp : (sub L s0 (i + 1)).length = i + 1 - s0 := sub_len _ hi
      refine ⟨Nat.le_refl _, ?_, fun x hx => ?_, (by show i + 1 - (i + 1) < m; omega), (by show (ps ++ [sub L s0 (i + 1)]).length ≤ i + 1; rw [List.length_append]; simp; omega)⟩
      · rw [List.map_append, List.flatten_append, c2]
        show L.take s0 ++ (chs (sub L s0 (i + 1)) ++ []) = L.take (i + 1)
        rw [List.append_nil]
        unfold sub
        rw [chs_ofL]
        have e : i + 1 = s0 + (i + 1 - s0) := by omega
        conv => rhs; rw [e, List.take_add]
      · rcases List.mem_append.mp hx with hx | hx
        · exact c3 x hx
        · rw [List.mem_singleton.mp hx, lenp]
          rcases z with z | z
          · omega
          · omega
    · rw [if_neg z]
      refine ⟨by show s0 ≤ i + 1; omega, c2, c3, ?_, by show ps.length ≤ i + 1; omega⟩
      show i + 1 - s0 < m
      have : ¬ (i + 1 - s0 = m) := fun q => z (.inl q)
      omega
theorem pcs_good {t : Str} {l m w b : Nat} (hl : l ≤ m) (h1 : 1 ≤ l) : GoodP t (pcs (chs t) l m w b) (l : Nat) (m : Nat) := by
  have c := cut_all (w := w) (b := b) hl h1 (chs t).length (Nat.le_refl _)
  unfold pcs lastT
  generalize runA (chs t) l m w b (chs t).length = st at c
  obtain ⟨s0, ps⟩ := st
  obtain ⟨c1, c2, c3, c4, c5⟩ := c
  simp only [] at c1 c2 c3 c4 c5 ⊢
  by_cases h : s0 < (chs t).length
  · rw [if_pos h]
    have lenp : (sub (chs t) s0 (chs t).length).length = (chs t).length - s0 := sub_len _ (Nat.le_refl _)
    refine ⟨?_, fun x hx => ?_, fun x hx => ?_, fun x hx => ?_⟩
    · rw [List.map_append, List.flatten_append, c2]
      show (chs t).take s0 ++ (chs (sub (chs t) s0 (chs t).length) ++ []) = chs t
      rw [List.append_nil]
      unfold sub
      rw [chs_ofL]
      have e : ((chs t).drop s0).take ((chs t).length - s0) = (chs t).drop s0 := List.take_of_length_le (by rw [List.length_drop]; exact Nat.le_refl _)
      rw [e, List.take_append_drop]
    · rcases List.mem_append.mp hx with hx | hx
      · have := (c3 x hx).1
        omega
      · rw [List.mem_singleton.mp hx, lenp]
        omega
    · rw [List.dropLast_concat] at hx
      have := c3 x hx
      omega
    · rcases List.mem_append.mp hx with hx | hx
      · have := (c3 x hx).2.2
        omega
      · rw [List.mem_singleton.mp hx, lenp]
        omega
  · rw [if_neg h]
    refine ⟨?_, fun x hx => ?_, fun x hx => ?_, fun x hx => ?_⟩
    · rw [c2, List.take_of_length_le (by omega)]
    · have := (c3 x hx).1
      omega
    · have := c3 x ((List.dropLast_sublist _).subset hx)
      omega
    · have := (c3 x hx).2.2
      omega
theorem pcs_few {t : Str} {l m w b : Nat} : (pcs (chs t) l m w b).length ≤ t.length + 1 := by
  have := (runA_le (chs t) l m w b (chs t).length).2
  have e := chs_len t
  unfold pcs lastT
  split
  · rw [List.length_append]
    simp
    omega
  · omega
theorem flat_mem {x : Str} {xs : List Str} (hx : x ∈ xs) {c : Nat} (hc : c ∈ chs x) : c ∈ (xs.map chs).flatten := List.mem_flatten.mpr ⟨chs x, List.mem_map.mpr ⟨x, hx, rfl⟩, hc⟩
theorem AB.ok {t : Str} (h : AB t) : PyData.strOk t = true := by
  unfold PyData.strOk
  rw [Array.all_eq_true_iff_forall_mem]
  intro c hc
  have := h c (Array.mem_toList_iff.mpr hc)
  simp
  omega
theorem pcs_AB {t : Str} (h : AB t) {l m w b : Nat} (hl : l ≤ m) (h1 : 1 ≤ l) : ∀ x ∈ pcs (chs t) l m w b, AB x := fun x hx c hc => h c (by
  have g := (pcs_good (t := t) (w := w) (b := b) hl h1).1
  rw [← g]
  exact flat_mem hx hc)
end
end K2

set_option maxRecDepth 100000
set_option maxHeartbeats 4000000
namespace K2
open PySem PySem.Spec PyProof.Rows L2
open XT (pt_chain3)
open SkE (pmk_own1)
local macro_rules | `(tactic| walk_at "ev") => `(tactic| simp only [tSeq, tIfS, tNot, XT.tChain3, rI0, tC, tVar, tRet, tTup, tLst, tCons, tNil, tJs, tFmt, tNext, tTest, tOp, tUn, rI, rU, tCall, tCB, tAnd, tOr, tB, tDrop, tAsg, gName, tAug, tPar, ipI, tBM, rAppend, tSl, rSlS, tPart, tNoPart, tIf, rEq, rNe, L2.start, List.map_cons, List.map_nil, List.length_cons, List.length_nil, Nat.reduceAdd, Nat.reduceSub, Nat.sub_self, List.replicate_zero, List.append_nil, List.replicate_succ, List.cons_append, List.nil_append,
  List.getElem?_cons_zero, List.getElem?_cons_succ, Option.some.injEq, exists_eq_left', exists_eq_left, V.int.injEq, V.str.injEq, V.bl.injEq, V.ref.injEq, List.set_cons_zero, List.set_cons_succ, List.cons.injEq, and_true, true_and, reduceCtorEq, false_and, exists_false, false_or, or_false, exists_and_left, and_assoc, decide_eq_true_eq, Bool.not_eq_true', decide_eq_false_iff_not, Bool.not_false, Bool.not_true, if_true, if_false, Bool.false_eq_true, ↓reduceIte])
open XT (Sm pe_msg)

section
variable {P : Program} {w : World} {K : PySem.W.Frag} {mg : Str → Option Value} {base : Heap} {C : Addr} {Ps : List Addr}
variable {f c d : Addr} {k : Nat} {A : Around} {outer : List Env} {s : Shared} {H0 HB : Hp} {E : XK}
/-- the pieces stand -/
def Pre5 (Ps : List Addr) (d : Addr) (HB : Hp) (t : Str) (w' l b m : Nat) : L2.St → Hp → Prop := fun σ H => ∃ pa, (∃ z0 z7 z8 z10 z11 z12 z13 z14 z15 z16 z17 z18 z19 z20 z21 z22, σ = [z0, some (.ref d), some (.str t), some (.int (w' : Nat)), some (.int (l : Nat)), some (.int (b : Nat)), some (.int (m : Nat)), z7, z8, some (.ref pa), z10, z11, z12, z13, z14, z15, z16, z17, z18, z19, z20, z21, z22]) ∧ Gd Ps d HB H ∧ H pa = some (.lst ((pcs (chs t) l m w' b).map V.str)) ∧ pa ≠ d
theorem law6 (T : Txt K mg C) {t : Str} {w' l b m : Nat} (t1 : t.length ≤ 20) (t2 : AB t) (b5 : l ≤ m) : Step (LX0 P w K mg base f c A outer s H0 E) (lb 6) (Pre4 Ps d HB t w' l b m (runA (chs t) l m w' b t.length).2 (sub (chs t) (runA (chs t) l m w' b t.length).1 t.length)) (Pre5 Ps d HB t w' l b m) := by
  refine ⟨_, ps_set (i := 9) sc_law.nd rfl (.inr rfl) (pe_op op_cat (pv 9) (pe_ifExp (pt_cmpR op_ne (pv 10) pe_str (nomark _)) (pe_lst (pa_cons (pv 10) pa_nil)) (pe_lst pa_nil))), fun D σ H hp hn => ?_⟩
  obtain ⟨pa, ⟨z0, z7, z8, z11, z12, z13, z14, z15, z16, z17, z18, z19, z20, z21, z22, rfl⟩, g, hpa, npd⟩ := hp
  walk_at "ev"
  have hL : (chs t).length = t.length := chs_len t
  have ln : (sub (chs t) (runA (chs t) l m w' b t.length).1 t.length).length = t.length - (runA (chs t) l m w' b t.length).1 := sub_len _ (by omega)
  have hle := runA_le (chs t) l m w' b t.length
  have ep : pcs (chs t) l m w' b = lastT (chs t) (runA (chs t) l m w' b t.length) := by
    unfold pcs
    rw [hL]
  have fin : ∀ (q : Addr) (xs : List Str) (o : HO) (G : Hp), pcs (chs t) l m w' b = xs → Gd Ps d HB G → G q = none → D.nx [z0, some (.ref d), some (.str t), some (.int (w' : Nat)), some (.int (l : Nat)), some (.int (b : Nat)), some (.int (m : Nat)), z7, z8, some (.ref q), some (.str (sub (chs t) (runA (chs t) l m w' b t.length).1 t.length)), z11, z12, z13, z14, z15, z16, z17, z18, z19, z20, z21, z22] (upd G q (.lst (xs.map V.str))) := fun q xs o G e gg hq => by
    refine hn _ _ ⟨q, ⟨_, _, _, _, _, _, _, _, _, _, _, _, _, _, _, _, rfl⟩, gg.new hq, ?_, gg.ne hq⟩
    rw [upd_same, e]
  generalize runA (chs t) l m w' b t.length = r at hle ln hpa ep fin ⊢
  obtain ⟨s0, ps⟩ := r
  simp only [] at hle ln hpa ep fin ⊢
  refine ⟨rfl, ?_⟩
  have few : ps.length + 1 ≤ sizeLine := Nat.le_trans (show ps.length + 1 ≤ 101 by omega) (by decide)
  by_cases e : sub (chs t) s0 t.length = Str.ofString ""
  · rw [if_neg (fun z => z e)]
    have h0 : (sub (chs t) s0 t.length).length = 0 := by rw [e]; rfl
    refine ⟨by decide, fun p hp => ⟨pa, p, _, _, rfl, rfl, by rw [upd_ne (fun z => by rw [z, hp] at hpa; cases hpa)]; exact hpa, upd_same, by rw [List.length_map]; exact Nat.le_of_succ_le few, fun q hq => ?_⟩⟩
    have e5 : pcs (chs t) l m w' b = ps := by
      rw [ep]
      unfold lastT
      rw [if_neg (by show ¬ s0 < (chs t).length; omega)]
    have := fin q ps (.lst []) _ e5 (g.new (o := .lst []) hp) hq
    rw [List.append_nil]
    exact this
  · rw [if_pos (by exact e)]
    have h0 : s0 < t.length := by
      have : (sub (chs t) s0 t.length).length ≠ 0 := fun z => e (chs_inj (List.eq_nil_of_length_eq_zero (by rw [chs_len]; exact z)))
      omega
    refine ⟨by decide, fun p hp => ⟨pa, p, _, _, rfl, rfl, by rw [upd_ne (fun z => by rw [z, hp] at hpa; cases hpa)]; exact hpa, upd_same, by rw [List.length_map]; exact few, fun q hq => ?_⟩⟩
    have e5 : pcs (chs t) l m w' b = ps ++ [sub (chs t) s0 t.length] := by
      rw [ep]
      unfold lastT
      rw [if_pos (by show s0 < (chs t).length; omega), hL]
    have := fin q _ (.lst []) _ e5 (g.new (o := .lst [.str (sub (chs t) s0 t.length)]) hp) hq
    rw [List.map_append] at this
    exact this
theorem law7 (Z : Callees P w K mg base C Ps k) (T : Txt K mg C) (hr : Room k (A.deeper (envOfC "law" (defScope s_law) s.heap.objs.size f (.ref c)))) {t : Str} {w' l b m : Nat} (t1 : t.length ≤ 20) (t2 : AB t) (b1 : 1 ≤ w') (b2 : w' ≤ 3) (b3 : w' ≤ l) (b4 : l ≤ w' + 2) (b5 : l ≤ m) (b6 : m ≤ l + 4) (b7 : 1 ≤ b) (b8 : b ≤ 5) : Step (LX0 P w K mg base f c A outer s H0 E) (lb 7) (Pre5 Ps d HB t w' l b m) (Pre5 Ps d HB t w' l b m) := by
  obtain ⟨_, _, _, k1, G1⟩ := Z.told
  obtain ⟨_, _, _, k2, G2⟩ := Z.cp
  refine ⟨_, ps_if (PW.pt (pw_or (pt_cmpR (op_neD hr.units) (pe_callTy call_list_of (by rfl) T.z_list (by decide +kernel) (pa_cons (pe_call G1.ok (hr.mono k1) (by rfl) G1.g G1.kp G1.b .nil passF (pa_cons (pv 2) (pa_cons (pv 4) (pa_cons (pv 6) (pa_cons (pv 3) (pa_cons (pv 5) pa_nil)))))) pa_nil)) (pv 9) (nomark _)) (pw_or1 (pt_cmpR op_ne (pe_call G2.ok (hr.mono k2) (by rfl) G2.g G2.kp G2.b .nil passF (pa_cons (pv 2) (pa_cons (pv 9) (pa_cons (pv 4) (pa_cons (pv 6) pa_nil))))) (pe_callB call_len_seq (by rfl) T.z_len (by decide +kernel) (pa_cons (pv 9) pa_nil)) (nomark _)))))
      (pss_one (ps_ret pe_bl)) pss_nil, fun D σ H hp hn => ?_⟩
  obtain ⟨pa, ⟨z0, z7, z8, z10, z11, z12, z13, z14, z15, z16, z17, z18, z19, z20, z21, z22, rfl⟩, g, hpa, npd⟩ := hp
  walk_at "ev"
  have sN : ∀ n : Nat, n ≤ 1000 → Sm (n : Int) := fun n h => ⟨by omega, by omega⟩
  have good := pcs_good (t := t) (w := w') (b := b) b5 (show 1 ≤ l by omega)
  have few := pcs_few (t := t) (l := l) (m := m) (w := w') (b := b)
  have ab := pcs_AB t2 (w := w') (b := b) b5 (show 1 ≤ l by omega)
  have npP : pa ∉ Ps := g.tb.not hpa fun _ z => by cases z
  refine ⟨t, _, _, _, _, rfl, t2.sm (by omega), sN l (by omega), sN m (by omega), sN w' (by omega), sN b (by omega), g.tb, fun z => absurd ⟨by omega, by omega, by omega, by omega⟩ z, fun _ => ?_⟩
  intro H1 q g1 hq0 hq
  simp only [Int.toNat_natCast] at hq
  rw [told_pcs b5 (by omega)] at hq
  have h1 := g1.2 pa _ npP hpa
  refine ⟨q, rfl, _, .inr (SqT_of hq), fun l1 hl1 => ?_⟩
  have g2 := g1.new (o := .lst ((pcs (chs t) l m w' b).map V.str)) hl1
  have h2 := g2.2 pa _ npP hpa
  refine rNe_lS (fun x hx => (ab x hx).ok) (fun x hx => (ab x hx).ok) (SqL.of upd_same) (SqL.of h2) ⟨_, rfl, ?_⟩
  rw [if_neg (by simp)]
  refine ⟨t, pa, _, _, _, rfl, by omega, SqL.of h2, by omega, fun x hx => ?_, sN l (by omega), sN m (by omega), g2.1, fun z => absurd good z, fun _ H' g3 => ?_⟩
  · have := good.2.2.2 x hx
    omega
  · have h3 := g3.2 pa _ npP h2
    refine ⟨_, .inl (SqL.of h3), ?_⟩
    refine ⟨rfl, ?_⟩
    rw [List.length_map, if_neg (fun z => z rfl)]
    exact hn _ _ ⟨pa, ⟨_, _, _, _, _, _, _, _, _, _, _, _, _, _, _, _, rfl⟩, g.gw (g2.trans g3), h3, npd⟩
end
end K2

set_option maxRecDepth 100000
set_option maxHeartbeats 4000000
namespace K2
open PySem PySem.Spec PyProof.Rows L2
open XT (pt_chain3)
open SkE (pmk_own1)
local macro_rules | `(tactic| walk_at "ev") => `(tactic| simp only [tSeq, tIfS, tNot, XT.tChain3, rI0, tC, tVar, tRet, tTup, tLst, tCons, tNil, tJs, tFmt, tNext, tTest, tOp, tUn, rI, rU, tCall, tCB, tAnd, tOr, tB, tDrop, tAsg, gName, tAug, tPar, ipI, tBM, rAppend, tSl, rSlS, tPart, tNoPart, tIf, tM1, rEq, rNe, L2.start, List.map_cons, List.map_nil, List.length_cons, List.length_nil, Nat.reduceAdd, Nat.reduceSub, Nat.sub_self, List.replicate_zero, List.append_nil, List.replicate_succ, List.cons_append, List.nil_append,
  List.getElem?_cons_zero, List.getElem?_cons_succ, Option.some.injEq, exists_eq_left', exists_eq_left, V.int.injEq, V.str.injEq, V.bl.injEq, V.ref.injEq, List.set_cons_zero, List.set_cons_succ, List.cons.injEq, and_true, true_and, reduceCtorEq, false_and, exists_false, false_or, or_false, exists_and_left, and_assoc, decide_eq_true_eq, Bool.not_eq_true', decide_eq_false_iff_not, Bool.not_false, Bool.not_true, if_true, if_false, Bool.false_eq_true, ↓reduceIte])
open XT (Sm pe_msg)

section
variable {P : Program} {w : World} {K : PySem.W.Frag} {mg : Str → Option Value} {base : Heap} {C : Addr} {Ps : List Addr}
variable {f c d : Addr} {k : Nat} {A : Around} {outer : List Env} {s : Shared} {H0 HB : Hp} {E : XK}
section
variable {X : Cx} {K0 : PySem.W.Frag} {o e : Expr} {to te : TE} {lo hi : Option Expr} {tl th : TO} {pos apos p2 : Pos}
def rJoin (K0 : PySem.W.Frag) : V → List V → Hp → VK → Prop := fun x xs H Q => ∃ a p, ∃ ys : List Str, x = .str a ∧ xs = [.ref p] ∧ (SqL K0 H p (ys.map V.str) ∨ SqT K0 H p (ys.map V.str)) ∧ (ys.map (·.length)).sum + ys.length * a.length ≤ 16777216 ∧ Q (.str (Txt.join a ys)) H
theorem pe_joinK (hK : X.K = K0) (ho : PE X o to) (he : PE X e te) (hs : starEach [e] X.env = [(false, eval e X.env)] := by rfl) (hbase : attributeBase o "join" X.env (eval o X.env) = eval o X.env := by rfl) (hline : (apos.endLine == pos.line) = true := by rfl) :
    PE X (.Call (.Attribute o "join" apos) [e] [] pos) (tM1 (rJoin K0) to te) := by
  subst hK
  exact pe_join ho he hs hbase hline
theorem pe_sliceL (hK : X.K = K0) (he : PE X e te) (hl : PO X lo tl) (hu : PO X hi th) : PE X (.Subscript e (.Slice lo hi none p2) pos) (L2.tSl (rSlL K0) te tl th) := by
  subst hK
  exact pe_slice sl_list he hl hu
end
/-- the places stand, too -/
def Pre6 (Ps : List Addr) (d : Addr) (HB : Hp) (t : Str) (w' l b m : Nat) : L2.St → Hp → Prop := fun σ H => ∃ pa pl, (∃ z0 z7 z8 z10 z11 z13 z14 z15 z16 z17 z18 z19 z20 z21 z22, σ = [z0, some (.ref d), some (.str t), some (.int (w' : Nat)), some (.int (l : Nat)), some (.int (b : Nat)), some (.int (m : Nat)), z7, z8, some (.ref pa), z10, z11, some (.ref pl), z13, z14, z15, z16, z17, z18, z19, z20, z21, z22]) ∧ Gd Ps d HB H ∧ H pa = some (.lst ((pcs (chs t) l m w' b).map V.str)) ∧ pa ≠ d ∧ H pl = some (.lst (placesV (pcs (chs t) l m w' b))) ∧ pl ≠ d
theorem sum_lens (xs : List Str) : (xs.map chs).flatten.length = (xs.map Str.length).sum := by
  rw [List.length_flatten, List.map_map]
  have e : xs.map (List.length ∘ chs) = xs.map Str.length := List.map_congr_left fun x _ => chs_len x
  rw [e]
theorem sum_le_of {xs : List Str} {n : Nat} (h : ∀ x ∈ xs, x.length ≤ n) : (xs.map (·.length)).sum ≤ n * xs.length := by
  induction xs with
  | nil => exact Nat.le_refl _
  | cons y r ih =>
    have a1 := h y (List.mem_cons_self ..)
    have a2 := ih fun x hx => h x (List.mem_cons_of_mem _ hx)
    rw [List.map_cons, List.sum_cons, List.length_cons, Nat.mul_add]
    omega
theorem cutV_take {xs : List V} {n : Nat} : cutV xs none (some (n : Nat)) = xs.take n := by
  unfold cutV
  rw [HT.sIx_none, HT.sIx_nat, List.drop_zero, Nat.sub_zero]
  by_cases h : n ≤ xs.length
  · rw [Nat.min_eq_left h]
  · rw [Nat.min_eq_right (by omega), List.take_of_length_le (Nat.le_refl _), List.take_of_length_le (by omega)]
theorem law8 (T : Txt K mg C) {t : Str} {w' l b m : Nat} (t1 : t.length ≤ 20) (t2 : AB t) (b1 : 1 ≤ w') (b3 : w' ≤ l) (b4 : l ≤ 5) (b5 : l ≤ m) (b6 : m ≤ l + 4) : Step (LX0 P w K mg base f c A outer s H0 E) (lb 8) (Pre5 Ps d HB t w' l b m) (Pre6 Ps d HB t w' l b m) := by
  refine ⟨_, ps_setLc (i := 12) (own := [("k", 8)]) rfl sc_law.nd rfl rfl (sw_true rfl rfl rfl (by rfl)) (pi_range1 (by rfl) T.z_range (pa_cons (pe_callB call_len_seq (by rfl) T.z_len (by decide +kernel) (pa_cons (pv 9) pa_nil)) pa_nil)) (blkOk_by (by show blkC Nlaw (defScope s_law) _ _ = true; decide +kernel)) (fun _ _ _ _ _ => (pg_name (i := 8) sc_law.nd rfl (.inl rfl))) (fun _ _ _ _ _ => pts_nil) (fun _ _ _ _ _ => (pe_callB call_len_str (by rfl) T.z_len (by decide +kernel) (pa_cons (pe_joinK (K0 := K) rfl pe_str (pe_sliceL (K0 := K) rfl (pv 9) po_none (po_some (pe_op op_add (pv 8) pe_int)))) pa_nil))), fun D σ H hp hn => ?_⟩
  obtain ⟨pa, ⟨z0, z7, z8, z10, z11, z12, z13, z14, z15, z16, z17, z18, z19, z20, z21, z22, rfl⟩, g, hpa, npd⟩ := hp
  walk_at "ev"
  have good := pcs_good (t := t) (w := w') (b := b) b5 (show 1 ≤ l by omega)
  have few := pcs_few (t := t) (l := l) (m := m) (w := w') (b := b)
  have lx : ∀ x ∈ pcs (chs t) l m w' b, x.length ≤ 9 := fun x hx => by
    have := good.2.2.2 x hx
    omega
  have npP : pa ∉ Ps := g.tb.not hpa fun _ z => by cases z
  generalize exs : pcs (chs t) l m w' b = xs at good few lx hpa
  refine tLc_rng1 (xs.length : Nat) xs.length (fun R r => ?_) ⟨by omega, by omega⟩ (by omega) (fun D' hD => ?_)
  · walk_at "ev"
    refine ⟨_, .inl (SqL.of hpa), ?_⟩
    rw [List.length_map]
    exact r
  have nD : D' ∉ Ps := g.tb.none hD
  refine lc_range (fun i G => Gw Ps H G ∧ G D' = some (.lst ((List.range i).map fun j => .int (lenN xs (j + 1) : Nat)))) ⟨(Gw.refl g.tb).new hD, upd_same⟩ ?_ ?_
  · rintro i G hi ⟨gi, hG⟩
    refine ⟨by simp [wipe], ?_⟩
    simp only [tYes, wipe, List.set_cons_zero, List.set_cons_succ, ↓reduceIte]
    walk_at "ev"
    refine ⟨⟨_, rfl⟩, pa, _, rfl, SqL.of (gi.2 pa _ npP hpa), fun q hq => ?_⟩
    have ei : (0 : Int) + (i : Nat) + 1 = ((i + 1 : Nat) : Int) := by omega
    rw [ei, cutV_take, ← List.map_take]
    have g3 := gi.new (o := .lst ((xs.take (i + 1)).map V.str)) hq
    have few2 : (xs.take (i + 1)).length ≤ xs.length := by
      rw [List.length_take]
      exact Nat.min_le_right _ _
    have sl := sum_le_of (xs := xs.take (i + 1)) (n := 9) fun x hx => lx x (List.mem_of_mem_take hx)
    have e0 : (Str.ofString "").length = 0 := rfl
    have ej : (Txt.join (Str.ofString "") (xs.take (i + 1))).length = lenN xs (i + 1) := by
      rw [← chs_len, TL.join_eq, chs_join _ rfl, sum_lens]
      rfl
    have nDq : D' ≠ q := fun z => by
      rw [z, hq] at hG
      cases hG
    refine ⟨_, q, _, rfl, rfl, .inl (SqL.of upd_same), ?_, _, rfl, ?_, ?_⟩
    · rw [e0]
      omega
    · rw [ej]
      have : lenN xs (i + 1) = ((xs.take (i + 1)).map (·.length)).sum := rfl
      exact Nat.le_trans (show lenN xs (i + 1) ≤ 9 * 21 by omega) (by decide)
    · rw [ej]
      refine ⟨_, by rw [upd_ne nDq]; exact hG, ?_, g3.set hD nD, ?_⟩
      · rw [List.length_map, List.length_range]
        exact Nat.lt_of_lt_of_le (show i < 101 by omega) (by decide)
      · rw [upd_same, range_map_succ]
  · rintro G ⟨gi, hG⟩
    exact hn _ _ ⟨pa, D', ⟨_, _, _, _, _, _, _, _, _, _, _, _, _, _, _, rfl⟩, g.gw gi, by rw [exs]; exact gi.2 pa _ npP hpa, npd, by rw [exs]; exact hG, g.ne hD⟩
end
end K2

set_option maxRecDepth 100000
set_option maxHeartbeats 4000000
namespace K2
open PySem PySem.Spec PyProof.Rows L2
open XT (pt_chain3)
open SkE (pmk_own1)
local macro_rules | `(tactic| walk_at "ev") => `(tactic| simp only [tSeq, tIfS, tNot, XT.tChain3, rI0, tC, tVar, tRet, tTup, tLst, tCons, tNil, tJs, tFmt, tNext, tTest, tOp, tUn, rI, rU, tCall, tCB, tAnd, tOr, tB, tDrop, tAsg, gName, tAug, tPar, ipI, tBM, rAppend, tSl, rSlS, tPart, tNoPart, tIf, tM1, rEq, rNe, L2.start, List.map_cons, List.map_nil, List.length_cons, List.length_nil, Nat.reduceAdd, Nat.reduceSub, Nat.sub_self, List.replicate_zero, List.append_nil, List.replicate_succ, List.cons_append, List.nil_append,
  List.getElem?_cons_zero, List.getElem?_cons_succ, Option.some.injEq, exists_eq_left', exists_eq_left, V.int.injEq, V.str.injEq, V.bl.injEq, V.ref.injEq, List.set_cons_zero, List.set_cons_succ, List.cons.injEq, and_true, true_and, reduceCtorEq, false_and, exists_false, false_or, or_false, exists_and_left, and_assoc, decide_eq_true_eq, Bool.not_eq_true', decide_eq_false_iff_not, Bool.not_false, Bool.not_true, if_true, if_false, Bool.false_eq_true, ↓reduceIte])
open XT (Sm pe_msg)

section
variable {P : Program} {w : World} {K : PySem.W.Frag} {mg : Str → Option Value} {base : Heap} {C : Addr} {Ps : List Addr}
variable {f c d : Addr} {k : Nat} {A : Around} {outer : List Env} {s : Shared} {H0 HB : Hp} {E : XK}
/-- what stands in the heap from now on -/
def Hpf (Ps : List Addr) (d : Addr) (HB : Hp) (t : Str) (w' l b m : Nat) (pa pl : Addr) (H : Hp) : Prop := Gd Ps d HB H ∧ H pa = some (.lst ((pcs (chs t) l m w' b).map V.str)) ∧ pa ≠ d ∧ H pl = some (.lst (placesV (pcs (chs t) l m w' b))) ∧ pl ≠ d
theorem Hpf.gw {t : Str} {w' l b m : Nat} {pa pl : Addr} {H H' : Hp} (h : Hpf Ps d HB t w' l b m pa pl H) (g : Gw Ps H H') : Hpf Ps d HB t w' l b m pa pl H' := by
  obtain ⟨h1, h2, h3, h4, h5⟩ := h
  exact ⟨h1.gw g, g.2 _ _ (h1.tb.not h2 fun _ z => by cases z) h2, h3, g.2 _ _ (h1.tb.not h4 fun _ z => by cases z) h4, h5⟩
theorem Hpf.gd {t : Str} {w' l b m : Nat} {pa pl : Addr} {H H' : Hp} (h : Hpf Ps d HB t w' l b m pa pl H) (g : Gd Ps d H H') : Hpf Ps d HB t w' l b m pa pl H' := by
  obtain ⟨h1, h2, h3, h4, h5⟩ := h
  exact ⟨h1.trans g, g.keep _ _ (h1.tb.not h2 fun _ z => by cases z) h3 h2, h3, g.keep _ _ (h1.tb.not h4 fun _ z => by cases z) h5 h4, h5⟩
def Pre7 (Ps : List Addr) (d : Addr) (HB : Hp) (t : Str) (w' l b m z : Nat) : L2.St → Hp → Prop := fun σ H => ∃ pa pl, (∃ z0 z7 z8 z10 z11 z14 z15 z16 z17 z18 z19 z20 z21 z22, σ = [z0, some (.ref d), some (.str t), some (.int (w' : Nat)), some (.int (l : Nat)), some (.int (b : Nat)), some (.int (m : Nat)), z7, z8, some (.ref pa), z10, z11, some (.ref pl), some (.int (z : Nat)), z14, z15, z16, z17, z18, z19, z20, z21, z22]) ∧ Hpf Ps d HB t w' l b m pa pl H
def Pre8 (Ps : List Addr) (d : Addr) (HB : Hp) (t : Str) (w' l b m : Nat) (o : Str) : L2.St → Hp → Prop := fun σ H => ∃ pa pl, (∃ z0 z7 z8 z10 z11 z13 z15 z16 z17 z18 z19 z20 z21 z22, σ = [z0, some (.ref d), some (.str t), some (.int (w' : Nat)), some (.int (l : Nat)), some (.int (b : Nat)), some (.int (m : Nat)), z7, z8, some (.ref pa), z10, z11, some (.ref pl), z13, some (.str o), z15, z16, z17, z18, z19, z20, z21, z22]) ∧ Hpf Ps d HB t w' l b m pa pl H
def Pre9 (Ps : List Addr) (d : Addr) (HB : Hp) (t : Str) (w' l b m : Nat) (o : Str) : L2.St → Hp → Prop := fun σ H => ∃ pa pl mo, (∃ z0 z7 z8 z10 z11 z13 z16 z17 z18 z19 z20 z21 z22, σ = [z0, some (.ref d), some (.str t), some (.int (w' : Nat)), some (.int (l : Nat)), some (.int (b : Nat)), some (.int (m : Nat)), z7, z8, some (.ref pa), z10, z11, some (.ref pl), z13, some (.str o), some (.ref mo), z16, z17, z18, z19, z20, z21, z22]) ∧ Hpf Ps d HB t w' l b m pa pl H ∧ H mo = some (.tup ((pcs (chs o) l m w' b).map V.str))
def placesI (xs : List Str) : List Int := (List.range xs.length).map fun i => (lenN xs (i + 1) : Nat)
theorem placesV_I (xs : List Str) : placesV xs = (placesI xs).map V.int := by
  unfold placesV placesI
  rw [List.map_map]
  rfl
theorem law9 (Z : Callees P w K mg base C Ps k) (T : Txt K mg C) (hr : Room k (A.deeper (envOfC "law" (defScope s_law) s.heap.objs.size f (.ref c)))) {t : Str} {w' l b m : Nat} (t1 : t.length ≤ 20) (b1 : 1 ≤ w') (b3 : w' ≤ l) (b4 : l ≤ 5) (b5 : l ≤ m) (b6 : m ≤ l + 4) : Step (LX0 P w K mg base f c A outer s H0 E) (lb 9) (Pre6 Ps d HB t w' l b m) (Pre6 Ps d HB t w' l b m) := by
  obtain ⟨_, _, _, k1, G1⟩ := Z.places
  refine ⟨_, ps_if (pt_cmpR (op_neD hr.units) (pe_callTy call_list_of (by rfl) T.z_list (by decide +kernel) (pa_cons (pe_call G1.ok (hr.mono k1) (by rfl) G1.g G1.kp G1.b .nil passF (pa_cons (pv 9) pa_nil)) pa_nil)) (pv 12) (nomark _))
      (pss_one (ps_ret pe_bl)) pss_nil, fun D σ H hp hn => ?_⟩
  obtain ⟨pa, pl, ⟨z0, z7, z8, z10, z11, z13, z14, z15, z16, z17, z18, z19, z20, z21, z22, rfl⟩, hh⟩ := hp
  have hh : Hpf Ps d HB t w' l b m pa pl H := hh
  walk_at "ev"
  have good := pcs_good (t := t) (w := w') (b := b) b5 (show 1 ≤ l by omega)
  have few := pcs_few (t := t) (l := l) (m := m) (w := w') (b := b)
  refine ⟨pa, _, rfl, SqL.of hh.2.1, by omega, fun x hx => ?_, hh.1.tb, fun H1 q g1 _ hq => ?_⟩
  · have := good.2.2.2 x hx
    omega
  refine ⟨q, rfl, _, .inr (SqT_of hq), fun l1 hl1 => ?_⟩
  have h2 := hh.gw (g1.new (o := .lst (placesV (pcs (chs t) l m w' b))) hl1)
  have e3 := h2.2.2.2.1
  rw [placesV_I] at e3
  refine rNe_lI (ns := placesI (pcs (chs t) l m w' b)) (ms := placesI (pcs (chs t) l m w' b)) (SqL.of (by rw [upd_same, placesV_I])) (SqL.of (by rw [placesV_I]; exact e3)) ⟨_, rfl, ?_⟩
  rw [if_neg (by simp)]
  exact hn _ _ ⟨pa, pl, ⟨_, _, _, _, _, _, _, _, _, _, _, _, _, _, _, rfl⟩, h2⟩
theorem law10 (Z : Callees P w K mg base C Ps k) (T : Txt K mg C) (hr : Room k (A.deeper (envOfC "law" (defScope s_law) s.heap.objs.size f (.ref c)))) {t : Str} {w' l b m : Nat} : Step (LX0 P w K mg base f c A outer s H0 E) (lb 10) (Pre6 Ps d HB t w' l b m) (fun σ H => ∃ z : Nat, 1 ≤ z ∧ z ≤ 6 ∧ Pre7 Ps d HB t w' l b m z σ H) := by
  obtain ⟨_, _, _, k2, G2⟩ := Z.roll
  refine ⟨_, ps_set (i := 13) sc_law.nd rfl (.inr rfl) (pe_op op_add pe_int (pe_call G2.ok (hr.mono k2) (by rfl) G2.g G2.kp G2.b .nil passF (pa_cons (pv 1) (pa_cons pe_int pa_nil)))), fun D σ H hp hn => ?_⟩
  obtain ⟨pa, pl, ⟨z0, z7, z8, z10, z11, z13, z14, z15, z16, z17, z18, z19, z20, z21, z22, rfl⟩, hh⟩ := hp
  have hh : Hpf Ps d HB t w' l b m pa pl H := hh
  walk_at "ev"
  refine ⟨d, 6, rfl, hh.1.dice, by decide, by decide, fun r a b' c' hr2 => ⟨_, rfl, ?_⟩⟩
  have h2 := hh.gd ((Gd.refl hh.1.tb hh.1.dice).roll a b' c')
  have e : (1 : Int) + (r : Nat) = ((1 + r : Nat) : Int) := by omega
  rw [e]
  exact hn _ _ ⟨1 + r, by omega, by omega, pa, pl, ⟨_, _, _, _, _, _, _, _, _, _, _, _, _, _, rfl⟩, h2⟩
theorem tLc_rng3 {ta : TA} {g : TG} {tt : TT} {te : TE} {vs : List Nat} {σ : L2.St} {H : Hp} {Q : VK} (i0 j0 c0 : Int) (n : Nat) (ha : ∀ R : List V → Hp → Prop, R [.int i0, .int j0, .int c0] H → ta σ H R) (rc : RgC i0 j0 c0 n)
    (h : ∀ D, H D = none → ∃ W : Nat → Nat → Hp → Prop, (∃ m, W 0 m (upd H D (.lst []))) ∧ ∀ i m H, W i m H → ((Itc i0 c0 n).stop i H ∧ Q (.ref D) H) ∨ ((Itc i0 c0 n).go i H ∧ ∃ Nx : Hp → Prop, (∀ H', Nx H' → ∃ m', m' < m ∧ W (i + 1) m' H') ∧ ∀ x H', (Itc i0 c0 n).yld i H x H' → g x (wipe σ vs) H' fun σ2 H2 => wipe σ2 vs = wipe σ vs ∧ tt σ2 H2 fun b H3 =>
      if b = true then te σ2 H3 fun y H4 => ∃ acc, H4 D = some (.lst acc) ∧ acc.length < sizeLine ∧ Nx (upd H4 D (.lst (acc ++ [y]))) else Nx H3)) : tLc (iRng3 ta) g tt te vs σ H Q := ha _ ⟨i0, j0, c0, n, rfl, rc, h⟩
theorem AB.cut {t : Str} (h : AB t) (lo hi : Option Int) : AB (cutS t lo hi) := fun c hc => h c (by
  have hc : c ∈ ((t.cps.toList.drop (HT.sIx t.length 0 lo)).take (HT.sIx t.length t.length hi - HT.sIx t.length 0 lo)) := hc
  exact List.mem_of_mem_drop (List.mem_of_mem_take hc))
theorem AB.app {a b : Str} (ha : AB a) (hb : AB b) : AB (a ++ b) := fun c hc => by
  rw [chs_append] at hc
  rcases List.mem_append.mp hc with hc | hc
  · exact ha c hc
  · exact hb c hc
theorem len_app (a b : Str) : (a ++ b).length = a.length + b.length := by
  rw [← chs_len, chs_append, List.length_append, chs_len, chs_len]
def evenS (t : Str) (m : Int) : List Str := (List.range (stepN t.length m)).map fun i => cutS t (some (0 + (i : Nat) * m)) (some (0 + (i : Nat) * m + m))
theorem evenV_S (t : Str) (m : Int) : evenV t m = (evenS t m).map V.str := by
  unfold evenV evenS
  rw [List.map_map]
  rfl
theorem law11 (Z : Callees P w K mg base C Ps k) (T : Txt K mg C) (hr : Room k (A.deeper (envOfC "law" (defScope s_law) s.heap.objs.size f (.ref c)))) {t : Str} {w' l b m z : Nat} (t1 : t.length ≤ 20) (t2 : AB t) (z1 : 1 ≤ z) (z2 : z ≤ 6) : Step (LX0 P w K mg base f c A outer s H0 E) (lb 11) (Pre7 Ps d HB t w' l b m z) (Pre6 Ps d HB t w' l b m) := by
  obtain ⟨_, _, _, k1, G1⟩ := Z.even
  refine ⟨_, ps_if (pt_cmpR (op_neD hr.units) (pe_callTy call_list_of (by rfl) T.z_list (by decide +kernel) (pa_cons (pe_call G1.ok (hr.mono k1) (by rfl) G1.g G1.kp G1.b .nil passF (pa_cons (pv 2) (pa_cons (pv 13) pa_nil))) pa_nil))
      (pe_lc (own := [("k", 8)]) rfl sc_law.nd (pi_range3 (by rfl) T.z_range (pa_cons pe_int (pa_cons (pe_callB call_len_str (by rfl) T.z_len (by decide +kernel) (pa_cons (pv 2) pa_nil)) (pa_cons (pv 13) pa_nil)))) (blkOk_by (by show blkC Nlaw (defScope s_law) _ _ = true; decide +kernel)) (fun _ _ _ _ _ => (pg_name (i := 8) sc_law.nd rfl (.inl rfl))) (fun _ _ _ _ _ => pts_nil) (fun _ _ _ _ _ => (pe_slice sl_str (pv 2) (po_some (pv 8)) (po_some (pe_op op_add (pv 8) (pv 13)))))) (nomark _))
      (pss_one (ps_ret pe_bl)) pss_nil, fun D σ H hp hn => ?_⟩
  obtain ⟨pa, pl, ⟨z0, z7, z8, z10, z11, z14, z15, z16, z17, z18, z19, z20, z21, z22, rfl⟩, hh⟩ := hp
  walk_at "ev"
  have sN : ∀ n : Nat, n ≤ 1000 → Sm (n : Int) := fun n h => ⟨by omega, by omega⟩
  have hlt : t.length ≤ sizeLine := Nat.le_trans t1 (by decide)
  refine ⟨t, _, rfl, t2.sm (by omega), sN z (by omega), hh.1.tb, fun z => by omega, fun _ H1 q g1 _ hq => ?_⟩
  refine ⟨q, rfl, _, .inr (SqT_of hq), fun l1 hl1 => ?_⟩
  have g2 := g1.new (o := .lst (evenV t (z : Nat))) hl1
  have e1 : (upd H1 l1 (.lst (evenV t (z : Nat)))) l1 = some (.lst (evenV t (z : Nat))) := upd_same
  have nl1 : l1 ∉ Ps := g1.1.none hl1
  generalize upd H1 l1 (.lst (evenV t (z : Nat))) = Hd at g2 e1 ⊢
  have hn2 : stepN t.length (z : Nat) ≤ t.length := stepN_le
  refine tLc_rng3 0 (t.length : Nat) (z : Nat) (stepN t.length (z : Nat)) (fun R r => ?_) (rgc_step (by omega) (by omega) (by omega) (by omega)) (fun D' hD => ?_)
  · walk_at "ev"
    exact ⟨hlt, r⟩
  have nlD : l1 ≠ D' := fun z => by
    rw [← z, e1] at hD
    cases hD
  refine XT.lc_pure (stepN t.length (z : Nat)) (fun i => some (.str (cutS t (some (0 + (i : Nat) * (z : Nat))) (some (0 + (i : Nat) * (z : Nat) + (z : Nat)))))) (Nat.le_trans hn2 hlt) (fun i acc hi => hi) (fun acc => Nat.le_refl _) (fun i acc hi y H' hy Nx hl hnx => ?_) ?_
  · obtain ⟨rfl, rfl⟩ := hy
    refine ⟨by simp [wipe], ?_⟩
    simp only [tYes, wipe, List.set_cons_zero, List.set_cons_succ, ↓reduceIte]
    walk_at "ev"
    refine ⟨hlt, acc, upd_same, hl, ?_⟩
    rw [upd_upd]
    exact hnx
  · rw [XT.fm_some]
    have abs : ∀ x ∈ evenS t (z : Nat), PyData.strOk x = true := fun x hx => by
      obtain ⟨i, _, rfl⟩ := List.mem_map.mp hx
      exact (t2.cut _ _).ok
    refine rNe_lS (ns := evenS t (z : Nat)) (ms := evenS t (z : Nat)) abs abs (SqL.of (by rw [upd_ne nlD, e1, evenV_S])) (SqL.of (by rw [upd_same, ← evenV_S]; rfl)) ⟨_, rfl, ?_⟩
    rw [if_neg (by simp)]
    exact hn _ _ ⟨pa, pl, ⟨_, _, _, _, _, _, _, _, _, _, _, _, _, _, _, rfl⟩, hh.gw (g2.new hD)⟩
theorem law12 (Z : Callees P w K mg base C Ps k) (T : Txt K mg C) (hr : Room k (A.deeper (envOfC "law" (defScope s_law) s.heap.objs.size f (.ref c)))) {t : Str} {w' l b m : Nat} (t1 : t.length ≤ 20) (t2 : AB t) : Step (LX0 P w K mg base f c A outer s H0 E) (lb 12) (Pre6 Ps d HB t w' l b m) (fun σ H => ∃ o, o.length ≤ 20 ∧ AB o ∧ Pre8 Ps d HB t w' l b m o σ H) := by
  obtain ⟨_, _, _, k2, G2⟩ := Z.roll
  refine ⟨_, ps_set (i := 14) sc_law.nd rfl (.inl rfl) (pe_slice sl_str (pv 2) po_none (po_some (pe_call G2.ok (hr.mono k2) (by rfl) G2.g G2.kp G2.b .nil passF (pa_cons (pv 1) (pa_cons (pe_op op_add (pe_callB call_len_str (by rfl) T.z_len (by decide +kernel) (pa_cons (pv 2) pa_nil)) pe_int) pa_nil))))), fun D σ H hp hn => ?_⟩
  obtain ⟨pa, pl, ⟨z0, z7, z8, z10, z11, z13, z14, z15, z16, z17, z18, z19, z20, z21, z22, rfl⟩, hh⟩ := hp
  have hh : Hpf Ps d HB t w' l b m pa pl H := hh
  walk_at "ev"
  have hlt : t.length ≤ sizeLine := Nat.le_trans t1 (by decide)
  refine ⟨hlt, d, _, rfl, hh.1.dice, by omega, by omega, fun r a b' c' hr2 => ⟨_, rfl, hlt, ?_⟩⟩
  have h2 := hh.gd ((Gd.refl hh.1.tb hh.1.dice).roll a b' c')
  exact hn _ _ ⟨_, Nat.le_trans (cutS_length _ _ _) t1, t2.cut _ _, pa, pl, ⟨_, _, _, _, _, _, _, _, _, _, _, _, _, _, rfl⟩, h2⟩
theorem law13 (Z : Callees P w K mg base C Ps k) (T : Txt K mg C) (hr : Room k (A.deeper (envOfC "law" (defScope s_law) s.heap.objs.size f (.ref c)))) {t o : Str} {w' l b m : Nat} (o1 : o.length ≤ 20) (o2 : AB o) : Step (LX0 P w K mg base f c A outer s H0 E) (lb 13) (Pre8 Ps d HB t w' l b m o) (fun σ H => ∃ o, o.length ≤ 23 ∧ AB o ∧ Pre8 Ps d HB t w' l b m o σ H) := by
  obtain ⟨_, _, _, k1, G1⟩ := Z.text
  obtain ⟨_, _, _, k2, G2⟩ := Z.roll
  refine ⟨_, ps_set (i := 14) sc_law.nd rfl (.inl rfl) (pe_op op_add_str (pe_call G1.ok (hr.mono k1) (by rfl) G1.g G1.kp G1.b .nil passF (pa_cons (pv 1) (pa_cons pe_int pa_nil))) (pe_slice sl_str (pv 14) (po_some (pe_call G2.ok (hr.mono k2) (by rfl) G2.g G2.kp G2.b .nil passF (pa_cons (pv 1) (pa_cons (pe_op op_add (pe_callB call_len_str (by rfl) T.z_len (by decide +kernel) (pa_cons (pv 14) pa_nil)) pe_int) pa_nil)))) po_none)), fun D σ H hp hn => ?_⟩
  obtain ⟨pa, pl, ⟨z0, z7, z8, z10, z11, z13, z15, z16, z17, z18, z19, z20, z21, z22, rfl⟩, hh⟩ := hp
  walk_at "ev"
  have hlt : o.length ≤ sizeLine := Nat.le_trans o1 (by decide)
  refine ⟨d, 3, rfl, by decide, hh.1.dice, hh.1.tb, fun x H1 x1 x2 g1 => ⟨hlt, ?_⟩⟩
  have h1 := hh.gd g1
  refine ⟨d, _, rfl, h1.1.dice, by omega, by omega, fun r a b' c' hr2 => ⟨_, rfl, hlt, ?_⟩⟩
  have h2 := h1.gd ((Gd.refl h1.1.tb h1.1.dice).roll a b' c')
  have lc := cutS_length o (some ((r : Nat) : Int)) none
  refine ⟨x, rfl, Nat.le_trans (show x.length + (cutS o (some ((r : Nat) : Int)) none).length ≤ 23 by omega) (by decide), hn _ _ ⟨_, by rw [len_app]; omega, x2.app (o2.cut _ _), pa, pl, ⟨_, _, _, _, _, _, _, _, _, _, _, _, _, _, rfl⟩, h2⟩⟩
theorem law14 (Z : Callees P w K mg base C Ps k) (T : Txt K mg C) (hr : Room k (A.deeper (envOfC "law" (defScope s_law) s.heap.objs.size f (.ref c)))) {t o : Str} {w' l b m : Nat} (o1 : o.length ≤ 23) (o2 : AB o) (b1 : 1 ≤ w') (b2 : w' ≤ 3) (b3 : w' ≤ l) (b4 : l ≤ 5) (b5 : l ≤ m) (b6 : m ≤ l + 4) (b7 : 1 ≤ b) (b8 : b ≤ 5) : Step (LX0 P w K mg base f c A outer s H0 E) (lb 14) (Pre8 Ps d HB t w' l b m o) (Pre9 Ps d HB t w' l b m o) := by
  obtain ⟨_, _, _, k1, G1⟩ := Z.told
  refine ⟨_, ps_set (i := 15) sc_law.nd rfl (.inr rfl) (pe_call G1.ok (hr.mono k1) (by rfl) G1.g G1.kp G1.b .nil passF (pa_cons (pv 14) (pa_cons (pv 4) (pa_cons (pv 6) (pa_cons (pv 3) (pa_cons (pv 5) pa_nil)))))), fun D σ H hp hn => ?_⟩
  obtain ⟨pa, pl, ⟨z0, z7, z8, z10, z11, z13, z15, z16, z17, z18, z19, z20, z21, z22, rfl⟩, hh⟩ := hp
  walk_at "ev"
  have sN : ∀ n : Nat, n ≤ 1000 → Sm (n : Int) := fun n h => ⟨by omega, by omega⟩
  refine ⟨o, _, _, _, _, rfl, o2.sm (by omega), sN l (by omega), sN m (by omega), sN w' (by omega), sN b (by omega), hh.1.tb, fun z => absurd ⟨by omega, by omega, by omega, by omega⟩ z, fun _ => ?_⟩
  intro H1 q g1 _ hq
  simp only [Int.toNat_natCast] at hq
  rw [told_pcs b5 (by omega)] at hq
  exact hn _ _ ⟨pa, pl, q, ⟨_, _, _, _, _, _, _, _, _, _, _, _, _, rfl⟩, hh.gw g1, hq⟩
end
end K2

set_option maxRecDepth 100000
set_option maxHeartbeats 4000000
namespace K2
open PySem PySem.Spec PyProof.Rows L2
open XT (pt_chain3)
open SkE (pmk_own1)
local macro_rules | `(tactic| walk_at "ev") => `(tactic| simp only [tSeq, tIfS, tNot, XT.tChain3, rI0, tC, tVar, tRet, tTup, tLst, tCons, tNil, tJs, tFmt, tNext, tTest, tOp, tUn, rI, rU, tCall, tCB, tAnd, tOr, tB, tDrop, tAsg, gName, tAug, tPar, ipI, tBM, rAppend, tSl, rSlS, tPart, tNoPart, tIf, tM1, rEq, rNe, L2.start, List.map_cons, List.map_nil, List.length_cons, List.length_nil, Nat.reduceAdd, Nat.reduceSub, Nat.sub_self, List.replicate_zero, List.append_nil, List.replicate_succ, List.cons_append, List.nil_append,
  List.getElem?_cons_zero, List.getElem?_cons_succ, Option.some.injEq, exists_eq_left', exists_eq_left, V.int.injEq, V.str.injEq, V.bl.injEq, V.ref.injEq, List.set_cons_zero, List.set_cons_succ, List.cons.injEq, and_true, true_and, reduceCtorEq, false_and, exists_false, false_or, or_false, exists_and_left, and_assoc, decide_eq_true_eq, Bool.not_eq_true', decide_eq_false_iff_not, Bool.not_false, Bool.not_true, if_true, if_false, Bool.false_eq_true, ↓reduceIte])
open XT (Sm pe_msg)

section
variable {X : Cx} {e : Expr} {td : TE} {tg : Expr} {K0 : PySem.W.Frag}
/-- a dict, held while it is walked -/
def tLock (td : TE) : TE := fun σ H Q => td σ H fun x H1 => ∃ d kvs, x = .ref d ∧ H1 d = some (.dK kvs) ∧ ∀ od, Q (.ref d) (upd H1 d (.frz od (.dK kvs)))
theorem pe_lock (he : PE X e td) : PE X e (tLock td) := by
  refine ⟨fun pins s σ H Q I h => thn (he.run pins s σ H _ I h) fun v s1 ⟨x, H1, I1, r1, d, kvs, ex, hd, q⟩ => ?_⟩
  subst ex
  obtain ⟨od, I2⟩ := I1.lock hd True.intro
  exact ⟨.ref d, _, I2, r1, q od⟩
theorem ix_tupK (hK : X.K = K0) : IxR X (rIxT K0) := by
  subst hK
  exact ix_tup
theorem op_inK (hK : X.K = K0) : OpR X (compareOp .In) (rIn K0 false) := by
  subst hK
  exact op_in_seq
theorem op_notInK (hK : X.K = K0) : OpR X (compareOp .NotIn) (rIn K0 true) := by
  subst hK
  exact op_notIn_seq
theorem inV_S (y : Str) (xs : List Str) : inV (.str y) (xs.map V.str) = decide (y ∈ xs) := by
  unfold inV
  rw [List.any_map]
  by_cases h : y ∈ xs
  · rw [decide_eq_true h, List.any_eq_true]
    exact ⟨y, h, by simp [eqV]⟩
  · rw [decide_eq_false h, List.any_eq_false]
    intro z hz q
    have q : (z == y) = true := q
    exact h (by rw [← eq_of_beq q]; exact hz)
theorem flat_S (xs : List Str) : (xs.map V.str).all flatV = true := by
  rw [List.all_map, List.all_eq_true]
  intro x _
  rfl
theorem merge_kv (v : V) (ys : List Str) : mergeK [] (ys.map fun y => ((.inr y : Key), v)) = kvOf (fun _ => v) ys := by
  unfold mergeK
  rw [List.foldl_map]
  have : ∀ (r l : List Str), r.foldl (fun acc y => putK acc (.inr y) v) (kvOf (fun _ => v) l) = kvOf (fun _ => v) (l ++ r) := by
    intro r
    induction r with
    | nil => intro l; rw [List.append_nil]; rfl
    | cons y r ih =>
      intro l
      rw [List.foldl_cons, kvOf_snoc (fun _ => v) l y, ih, List.append_assoc]
      rfl
  exact this ys []
theorem dd_filter (p : Str → Bool) (l : List Str) : dd (l.filter p) = (dd l).filter p := by
  have : ∀ (r l : List Str), dd (l.filter p) = (dd l).filter p → dd ((l ++ r).filter p) = (dd (l ++ r)).filter p := by
    intro r
    induction r with
    | nil => intro l h; rw [List.append_nil]; exact h
    | cons y r ih =>
      intro l h
      have e : l ++ y :: r = (l ++ [y]) ++ r := by simp
      rw [e]
      refine ih (l ++ [y]) ?_
      rw [List.filter_append, dd_snoc]
      by_cases hp : p y = true
      · have e2 : [y].filter p = [y] := by simp [hp]
        rw [e2, dd_snoc, h]
        by_cases m : y ∈ dd l
        · rw [if_pos m, if_pos (List.mem_filter.mpr ⟨m, hp⟩)]
        · rw [if_neg m, if_neg (fun z => m (List.mem_filter.mp z).1), List.filter_append, e2]
      · have e2 : [y].filter p = [] := by simp [hp]
        rw [e2, List.append_nil, h]
        by_cases m : y ∈ dd l
        · rw [if_pos m]
        · rw [if_neg m, List.filter_append, e2, List.append_nil]
  have h := this l [] rfl
  simpa using h
end
section
variable {P : Program} {w : World} {K : PySem.W.Frag} {mg : Str → Option Value} {base : Heap} {C : Addr} {Ps : List Addr}
variable {f c d : Addr} {k : Nat} {A : Around} {outer : List Env} {s : Shared} {H0 HB : Hp} {E : XK}
theorem fm_len2 (xs ys : List Str) : (ys.filterMap fun y => if y ∈ xs then some (V.str y) else none).length = (ys.filter fun y => decide (y ∈ xs)).length := by
  induction ys with
  | nil => rfl
  | cons y r ih =>
    rw [List.filterMap_cons, List.filter_cons]
    by_cases m : y ∈ xs
    · rw [if_pos m, if_pos (decide_eq_true m)]
      simp only [List.length_cons]
      rw [ih]
    · rw [if_neg m, if_neg (by simpa using m)]
      exact ih
theorem fm_ints (xs ys : List Str) : (ys.filterMap fun y => if y ∈ xs then none else some (V.int (y.length : Nat))) = ((ys.filter fun y => !decide (y ∈ xs)).map fun y => (y.length : Int)).map V.int := by
  induction ys with
  | nil => rfl
  | cons y r ih =>
    rw [List.filterMap_cons, List.filter_cons]
    by_cases m : y ∈ xs
    · rw [if_pos m, if_neg (by simp [m])]
      exact ih
    · rw [if_neg m, if_pos (by simp [m])]
      simp only [List.map_cons]
      rw [ih]
theorem paired_imp {α β : Type} {F G : α → β → Prop} : ∀ {l : List α} {r : List β}, Paired F l r → (∀ a b, F a b → G a b) → Paired G l r
  | _, _, .nil, _ => .nil
  | _, _, .cons h t, k => .cons (k _ _ h) (paired_imp t k)
theorem law15 (Z : Callees P w K mg base C Ps k) (T : Txt K mg C) (hr : Room k (A.deeper (envOfC "law" (defScope s_law) s.heap.objs.size f (.ref c)))) {t o : Str} {w' l b m : Nat} (t1 : t.length ≤ 20) (o1 : o.length ≤ 23) (b1 : 1 ≤ w') (b3 : w' ≤ l) (b4 : l ≤ 5) (b5 : l ≤ m) (b6 : m ≤ l + 4) : Step (LX0 P w K mg base f c A outer s H0 E) (lb 15) (Pre9 Ps d HB t w' l b m o) (Pre9 Ps d HB t w' l b m o) := by
  obtain ⟨_, _, _, k1, G1⟩ := Z.shared
  obtain ⟨_, _, _, k2, G2⟩ := Z.fresh
  refine ⟨_, ps_if (PW.pt (pw_or (pt_cmpR op_ne (pe_call G1.ok (hr.mono k1) (by rfl) G1.g G1.kp G1.b .nil passF (pa_cons (pv 9) (pa_cons (pv 15) pa_nil))) (pe_callB call_len_seq (by rfl) T.z_len (by decide +kernel) (pa_cons (pe_lc (own := [("piece", 16)]) rfl sc_law.nd (pi_tup (pv 15)) (blkOk_by (by show blkC Nlaw (defScope s_law) _ _ = true; decide +kernel)) (fun _ _ _ _ _ => (pg_name (i := 16) sc_law.nd rfl (.inl rfl))) (fun _ _ _ _ _ => (pts_one (pt_cmpR (r := rIn K false) (op_inK rfl) (pv 16) (pv 9) (by with_unfolding_all rfl)))) (fun _ _ _ _ _ => (pv 16))) pa_nil)) (nomark _))
    (pw_or1 (pt_cmpR op_ne (pe_call G2.ok (hr.mono k2) (by rfl) G2.g G2.kp G2.b .nil passF (pa_cons (pv 9) (pa_cons (pv 15) pa_nil))) (pe_callB (r := rSum K) (cr_sum rfl) (by rfl) T.z_sum (by decide +kernel) (pa_cons (pe_lc (own := [("piece", 16)]) rfl sc_law.nd (pi_keys (pe_lock (pe_callTy (call_dictP rfl) (by rfl) T.z_dict (by decide +kernel) (pa_cons (pe_lc (own := [("piece", 16)]) rfl sc_law.nd (pi_tup (pv 15)) (blkOk_by (by show blkC Nlaw (defScope s_law) _ _ = true; decide +kernel)) (fun _ _ _ _ _ => (pg_name (i := 16) sc_law.nd rfl (.inl rfl))) (fun _ _ _ _ _ => pts_nil) (fun _ _ _ _ _ => (pe_tup (pa_cons (pv 16) (pa_cons pe_int pa_nil))))) pa_nil)))) (blkOk_by (by show blkC Nlaw (defScope s_law) _ _ = true; decide +kernel)) (fun _ _ _ _ _ => (pg_name (i := 16) sc_law.nd rfl (.inl rfl))) (fun _ _ _ _ _ => (pts_one (pt_cmpR (r := rIn K true) (op_notInK rfl) (pv 16) (pv 9) (by with_unfolding_all rfl)))) (fun _ _ _ _ _ => (pe_callB call_len_str (by rfl) T.z_len (by decide +kernel) (pa_cons (pv 16) pa_nil)))) pa_nil)) (nomark _)))))
      (pss_one (ps_ret pe_bl)) pss_nil, fun D σ H hp hn => ?_⟩
  obtain ⟨pa, pl, mo, ⟨z0, z7, z8, z10, z11, z13, z16, z17, z18, z19, z20, z21, z22, rfl⟩, hh, hmo⟩ := hp
  walk_at "ev"
  have h0 : 1 ≤ l := by omega
  have good := pcs_good (t := o) (w := w') (b := b) b5 h0
  have few := pcs_few (t := t) (l := l) (m := m) (w := w') (b := b)
  have few2 := pcs_few (t := o) (l := l) (m := m) (w := w') (b := b)
  have lx : ∀ x ∈ pcs (chs o) l m w' b, x.length ≤ 9 := fun x hx => by
    have := good.2.2.2 x hx
    omega
  have hpa := hh.2.1
  have tb := hh.1.tb
  have npP : pa ∉ Ps := tb.not hpa fun _ z => by cases z
  have nmP : mo ∉ Ps := tb.not hmo fun _ z => by cases z
  have fin : ∀ G, Gw Ps H G → D.nx [z0, some (.ref d), some (.str t), some (.int (w' : Nat)), some (.int (l : Nat)), some (.int (b : Nat)), some (.int (m : Nat)), z7, z8, some (.ref pa), z10, z11, some (.ref pl), z13, some (.str o), some (.ref mo), z16, z17, z18, z19, z20, z21, z22] G := fun G g => hn _ _ ⟨pa, pl, mo, ⟨_, _, _, _, _, _, _, _, _, _, _, _, _, rfl⟩, hh.gw g, g.2 _ _ nmP hmo⟩
  clear hn good
  generalize pcs (chs t) l m w' b = xs at few hpa
  generalize pcs (chs o) l m w' b = ys at few2 hmo lx
  refine ⟨pa, mo, xs, ys, rfl, SqL.of hpa, SqT_of hmo, by omega, by omega, tb, fun H1 g1 => ?_⟩
  have m1 := g1.2 _ _ nmP hmo
  have p1 := g1.2 _ _ npP hpa
  refine ⟨_, rfl, mo, rfl, ⟨_, SqT_of m1⟩, fun D1 hD1 => ?_⟩
  have g1D : ∀ o, Gw Ps H (upd H1 D1 o) := fun o => g1.new hD1
  have sz1 : sizeLine ≥ 1001 := by decide
  refine XT.lc_pure (J := Itt K mo) ys.length (fun i => (ys[i]?).bind fun y => if y ∈ xs then some (.str y) else none) (by omega)
      (fun i acc hi => ⟨_, .str ys[i], SqT_of ((g1D _).2 _ _ nmP hmo), by rw [List.getElem?_map, List.getElem?_eq_getElem hi]; rfl⟩) (fun acc => ⟨_, SqT_of ((g1D _).2 _ _ nmP hmo), by rw [List.length_map]; exact Nat.le_refl _⟩) (fun i acc hi x H' hyl Nx hl hnx => ?_) ?_
  · obtain ⟨rfl, hyl⟩ := hyl
    have e := hyl _ (SqT_of ((g1D _).2 _ _ nmP hmo))
    rw [List.getElem?_map, List.getElem?_eq_getElem hi] at e
    obtain rfl : V.str ys[i] = x := Option.some.inj e
    rw [List.getElem?_eq_getElem hi] at hnx
    simp only [Option.bind_some] at hnx
    refine ⟨by simp [wipe], ?_⟩
    simp only [wipe, List.set_cons_zero, List.set_cons_succ]
    walk_at "ev"
    refine ⟨pa, _, rfl, .inl (SqL.of ((g1D _).2 _ _ npP hpa)), rfl, flat_S _, _, rfl, ?_⟩
    rw [inV_S]
    by_cases mm : ys[i] ∈ xs
    · rw [if_pos mm] at hnx
      simp only [mm, decide_true, Bool.false_eq_true, if_false, if_true]
      refine ⟨acc, upd_same, hl, ?_⟩
      rw [upd_upd]
      exact hnx
    · rw [if_neg mm] at hnx
      simp only [mm, decide_false, Bool.false_eq_true, if_false]
      rw [Option.toList_none, List.append_nil] at hnx
      exact hnx
  rw [XT.fm_all]
  refine ⟨D1, rfl, _, .inl (SqL.of upd_same), rfl, ?_⟩
  rw [fm_len2, if_neg (fun z => z rfl)]
  have g2 := g1D (.lst (ys.filterMap fun y => if y ∈ xs then some (V.str y) else none))
  generalize upd H1 D1 (.lst (ys.filterMap fun y => if y ∈ xs then some (V.str y) else none)) = H2 at g2 ⊢
  refine ⟨pa, mo, xs, ys, rfl, SqL.of (g2.2 _ _ npP hpa), SqT_of (g2.2 _ _ nmP hmo), by omega, by omega, fun y hy => by have := lx y hy; omega, g2.1, fun H3 g3 => ?_⟩
  have g4 := g2.trans g3
  have m4 := g4.2 _ _ nmP hmo
  refine ⟨_, rfl, mo, rfl, ⟨_, SqT_of m4⟩, fun D2 hD2 => ?_⟩
  have nD2 : D2 ∉ Ps := g4.1.none hD2
  have hD2H : H D2 = none := g4.none tb hD2
  refine lc_tup (xs := ys.map V.str) (fun i G => Gw Ps H G ∧ ∃ ps : List Addr, G D2 = some (.lst (ps.map V.ref)) ∧ ps.length = i ∧ Paired (fun p (kv : Key × V) => G p = some (.tup [kV kv.1, kv.2])) ps ((ys.take i).map fun y => ((.inr y : Key), V.int 1))) ⟨g4.new hD2, [], upd_same, rfl, .nil⟩ (fun i G _ hP => SqT_of (hP.1.2 _ _ nmP hmo)) ?_ ?_
  · rintro i x G e ⟨gi, ps, hG, hl, hp⟩
    rw [List.getElem?_map] at e
    obtain ⟨y, hy, rfl⟩ := Option.map_eq_some_iff.mp e
    refine ⟨by simp [wipe], ?_⟩
    simp only [tYes, wipe, List.set_cons_zero, List.set_cons_succ, ↓reduceIte]
    walk_at "ev"
    refine ⟨by decide, fun q hq => ⟨ps.map V.ref, ?_, ?_, (gi.new hq).set hD2H nD2, ps ++ [q], ?_, by rw [List.length_append, hl]; rfl, ?_⟩⟩
    · rw [upd_ne (fun z => by rw [z, hq] at hG; cases hG)]
      exact hG
    · rw [List.length_map, hl]
      have := (List.getElem?_eq_some_iff.mp hy).1
      omega
    · rw [upd_same, List.map_append]
      rfl
    · have nq : q ≠ D2 := fun z => by
        rw [z, hG] at hq
        cases hq
      rw [List.take_add_one, hy, List.map_append]
      refine Paired.snoc (paired_imp hp fun a kv ha => ?_) ?_
      · rw [upd_ne (fun z => by rw [z, hG] at ha; cases ha), upd_ne (fun z => by rw [z, hq] at ha; cases ha)]
        exact ha
      · rw [upd_ne nq]
        exact upd_same
  · rintro G ⟨gi, ps, hG, hl, hp⟩
    rw [List.length_map, List.take_length] at hp
    refine ⟨D2, rfl, ps, SqL.of hG, _, paired_imp hp fun a kv ha => SqT_of ha, fun p hp2 => ?_⟩
    rw [merge_kv]
    refine ⟨p, _, rfl, upd_same, fun od => ⟨p, od, rfl, .inl ⟨_, upd_same, fun D3 hD3 => ?_⟩⟩⟩
    rw [upd_upd] at hD3 ⊢
    have hpH : H p = none := gi.none tb hp2
    have npPs : p ∉ Ps := gi.1.none hp2
    have g5 : Gw Ps H (upd G p (.frz od (.dK (kvOf (fun _ => V.int 1) ys)))) := gi.set hpH npPs
    have npD3 : p ≠ D3 := (upd_none hD3).2.symm
    have g6 : ∀ o, Gw Ps H (upd (upd G p (.frz od (.dK (kvOf (fun _ => V.int 1) ys)))) D3 o) := fun o => g5.new hD3
    have kl : (kvOf (fun _ => V.int 1) ys).length = (dd ys).length := by
      unfold kvOf
      rw [List.length_map]
    have ddl := dd_len ys
    refine XT.lc_pure (J := Itk p od (kvOf (fun _ => V.int 1) ys)) (dd ys).length (fun i => ((dd ys)[i]?).bind fun y => if y ∈ xs then none else some (.int (y.length : Nat))) (by omega)
      (fun i acc hi => ⟨by rw [upd_ne npD3]; exact upd_same, by rw [kl]; exact hi⟩) (fun acc => ⟨by rw [upd_ne npD3]; exact upd_same, by rw [kl]; exact Nat.le_refl _⟩) (fun i acc hi x H' hyl Nx hln hnx => ?_) ?_
    · obtain ⟨rfl, kk, vv, e, rfl⟩ := hyl
      unfold kvOf at e
      rw [List.getElem?_map, List.getElem?_eq_getElem hi] at e
      obtain ⟨rfl, rfl⟩ := Prod.mk.inj (Option.some.inj e)
      rw [List.getElem?_eq_getElem hi] at hnx
      simp only [Option.bind_some] at hnx
      refine ⟨by simp [wipe], ?_⟩
      simp only [wipe, List.set_cons_zero, List.set_cons_succ]
      walk_at "ev"
      refine ⟨pa, _, rfl, .inl (SqL.of ((g6 _).2 _ _ npP hpa)), rfl, flat_S _, _, rfl, ?_⟩
      have ei : inV (kV (.inr (dd ys)[i])) (xs.map V.str) = decide ((dd ys)[i] ∈ xs) := inV_S _ _
      rw [ei]
      by_cases mm : (dd ys)[i] ∈ xs
      · rw [if_pos mm] at hnx
        simp only [mm, decide_true, Bool.not_true, Bool.false_eq_true, if_false, if_true]
        rw [Option.toList_none, List.append_nil] at hnx
        exact hnx
      · rw [if_neg mm] at hnx
        simp only [mm, decide_false, Bool.not_false, if_true]
        have ly := lx _ (dd_sub ys _ (List.getElem_mem hi))
        refine ⟨_, rfl, by omega, acc, upd_same, hln, ?_⟩
        rw [upd_upd]
        exact hnx
    · rw [XT.fm_all, fm_ints]
      refine ⟨D3, _, rfl, SqL.of upd_same, rfl, ?_⟩
      have ee : freshL xs ys = ((dd ys).filter fun y => !decide (y ∈ xs)).map fun y => (y.length : Int) := by
        unfold freshL
        rw [dd_filter]
      rw [ee, if_neg (fun z => z rfl)]
      exact fin _ (g6 _)
end
end K2

set_option maxRecDepth 100000
set_option maxHeartbeats 4000000
namespace K2
open PySem PySem.Spec PyProof.Rows L2
open XT (pt_chain3)
open SkE (pmk_own1)
local macro_rules | `(tactic| walk_at "ev") => `(tactic| simp only [tSeq, tIfS, tNot, XT.tChain3, rI0, tC, tVar, tRet, tTup, tLst, tCons, tNil, tJs, tFmt, tNext, tTest, tOp, tUn, rI, rU, tCall, tCB, tAnd, tOr, tB, tDrop, tAsg, gName, tAug, tPar, ipI, tBM, rAppend, tSl, rSlS, tPart, tNoPart, tIf, tM1, rEq, rNe, L2.start, List.map_cons, List.map_nil, List.length_cons, List.length_nil, Nat.reduceAdd, Nat.reduceSub, Nat.sub_self, List.replicate_zero, List.append_nil, List.replicate_succ, List.cons_append, List.nil_append,
  List.getElem?_cons_zero, List.getElem?_cons_succ, Option.some.injEq, exists_eq_left', exists_eq_left, V.int.injEq, V.str.injEq, V.bl.injEq, V.ref.injEq, List.set_cons_zero, List.set_cons_succ, List.cons.injEq, and_true, true_and, reduceCtorEq, false_and, exists_false, false_or, or_false, exists_and_left, and_assoc, decide_eq_true_eq, Bool.not_eq_true', decide_eq_false_iff_not, Bool.not_false, Bool.not_true, if_true, if_false, Bool.false_eq_true, ↓reduceIte])
open XT (Sm pe_msg)

section
variable {X : Cx} {K0 : PySem.W.Frag} {e : Expr} {te : TE} {lo hi : Option Expr} {tl th : TO} {pos p2 : Pos}
theorem pe_sliceT (hK : X.K = K0) (he : PE X e te) (hl : PO X lo tl) (hu : PO X hi th) : PE X (.Subscript e (.Slice lo hi none p2) pos) (L2.tSl (rSlA K0) te tl th) := by
  subst hK
  exact pe_slice sl_tupA he hl hu
def rLenK (K0 : PySem.W.Frag) : List V → Hp → VK → Prop := fun xs H Q => ∃ p ys, xs = [.ref p] ∧ (SqL K0 H p ys ∨ SqT K0 H p ys) ∧ Q (.int ys.length) H
theorem call_lenK (hK : X.K = K0) : CallR X (.builtin "len") (rLenK K0) := by
  subst hK
  exact call_len_seq
def rListK (K0 : PySem.W.Frag) : List V → Hp → VK → Prop := fun xs H Q => ∃ p ys, xs = [.ref p] ∧ (SqL K0 H p ys ∨ SqT K0 H p ys) ∧ ∀ l, H l = none → Q (.ref l) (upd H l (.lst ys))
theorem call_listK (hK : X.K = K0) : CallR X (.type "list") (rListK K0) := by
  subst hK
  exact call_list_of
theorem op_eqK (hK : X.K = K0) (hu : X.A.units + 64 < cLine) : OpR X (compareOp .Eq) (rEqD K0) := by
  subst hK
  exact op_eqD hu
theorem op_neK (hK : X.K = K0) (hu : X.A.units + 64 < cLine) : OpR X (compareOp .NotEq) (rNeD K0) := by
  subst hK
  exact op_neD hu
theorem cutV_drop {xs : List V} {n : Nat} : cutV xs (some (n : Nat)) none = xs.drop n := by
  unfold cutV
  rw [HT.sIx_none, HT.sIx_nat]
  by_cases h : n ≤ xs.length
  · rw [Nat.min_eq_left h]
    exact List.take_of_length_le (by rw [List.length_drop]; exact Nat.le_refl _)
  · rw [Nat.min_eq_right (by omega), Nat.sub_self, List.take_zero, List.drop_of_length_le (by omega)]
end
section
variable {P : Program} {w : World} {K : PySem.W.Frag} {mg : Str → Option Value} {base : Heap} {C : Addr} {Ps : List Addr}
variable {f c d : Addr} {k : Nat} {A : Around} {outer : List Env} {s : Shared} {H0 HB : Hp} {E : XK}
def endsB (xs ys : List Str) (k : Nat) : Bool := decide (xs.drop (xs.length - k) = ys.drop (ys.length - k))
def endsN (xs ys : List Str) : List Nat := (List.range (min xs.length ys.length + 1)).filter (endsB xs ys)
def Pre10 (Ps : List Addr) (d : Addr) (HB : Hp) (t : Str) (w' l b m : Nat) (o : Str) : L2.St → Hp → Prop := fun σ H => ∃ pa pl mo en, (∃ z0 z7 z8 z10 z11 z13 z16 z18 z19 z20 z21 z22, σ = [z0, some (.ref d), some (.str t), some (.int (w' : Nat)), some (.int (l : Nat)), some (.int (b : Nat)), some (.int (m : Nat)), z7, z8, some (.ref pa), z10, z11, some (.ref pl), z13, some (.str o), some (.ref mo), z16, some (.ref en), z18, z19, z20, z21, z22]) ∧ Hpf Ps d HB t w' l b m pa pl H ∧ H mo = some (.tup ((pcs (chs o) l m w' b).map V.str)) ∧ H en = some (.lst ((endsN (pcs (chs t) l m w' b) (pcs (chs o) l m w' b)).map fun (k : Nat) => V.int k)) ∧ en ≠ d
theorem fm_filter (p : Nat → Bool) (n : Nat) : (List.range n).filterMap (fun i => if p i = true then some (V.int ((i : Nat) : Int)) else none) = ((List.range n).filter p).map fun (k : Nat) => V.int k := by
  induction n with
  | zero => rfl
  | succ n ih =>
    rw [List.range_succ, List.filterMap_append, List.filter_append, List.map_append, ih]
    by_cases h : p n = true
    · simp [h]
    · simp [h]
theorem law16 (Z : Callees P w K mg base C Ps k) (T : Txt K mg C) (hr : Room k (A.deeper (envOfC "law" (defScope s_law) s.heap.objs.size f (.ref c)))) {t o : Str} {w' l b m : Nat} (t1 : t.length ≤ 20) (t2 : AB t) (o1 : o.length ≤ 23) (o2 : AB o) (b1 : 1 ≤ w') (b3 : w' ≤ l) (b4 : l ≤ 5) (b5 : l ≤ m) (b6 : m ≤ l + 4) : Step (LX0 P w K mg base f c A outer s H0 E) (lb 16) (Pre9 Ps d HB t w' l b m o) (Pre10 Ps d HB t w' l b m o) := by
  refine ⟨_, ps_set (i := 17) sc_law.nd rfl (.inr rfl) (pe_lc (own := [("k", 8)]) rfl sc_law.nd (pi_range1 (by rfl) T.z_range (pa_cons (pe_op op_add (pe_callB (call_min2 rfl) (by rfl) T.z_min (by decide +kernel) (pa_cons (pe_callB (r := rLenK K) (call_lenK rfl) (by rfl) T.z_len (by decide +kernel) (pa_cons (pv 9) pa_nil)) (pa_cons (pe_callB (r := rLenK K) (call_lenK rfl) (by rfl) T.z_len (by decide +kernel) (pa_cons (pv 15) pa_nil)) pa_nil))) pe_int) pa_nil)) (blkOk_by (by show blkC Nlaw (defScope s_law) _ _ = true; decide +kernel)) (fun _ _ _ _ _ => (pg_name (i := 8) sc_law.nd rfl (.inl rfl)))
    (fun _ _ _ _ _ => (pts_one (pt_cmpR (r := rEqD K) (op_eqK rfl hr.units) (pe_callTy (r := rListK K) (call_listK rfl) (by rfl) T.z_list (by decide +kernel) (pa_cons (pe_sliceL (K0 := K) rfl (pv 9) (po_some (pe_op op_sub (pe_callB (r := rLenK K) (call_lenK rfl) (by rfl) T.z_len (by decide +kernel) (pa_cons (pv 9) pa_nil)) (pv 8))) po_none) pa_nil)) (pe_callTy (r := rListK K) (call_listK rfl) (by rfl) T.z_list (by decide +kernel) (pa_cons (pe_sliceT (K0 := K) rfl (pv 15) (po_some (pe_op op_sub (pe_callB (r := rLenK K) (call_lenK rfl) (by rfl) T.z_len (by decide +kernel) (pa_cons (pv 15) pa_nil)) (pv 8))) po_none) pa_nil)) (nomark _)))) (fun _ _ _ _ _ => (pv 8))), fun D σ H hp hn => ?_⟩
  obtain ⟨pa, pl, mo, ⟨z0, z7, z8, z10, z11, z13, z16, z17, z18, z19, z20, z21, z22, rfl⟩, hh, hmo⟩ := hp
  walk_at "ev"
  have h0 : 1 ≤ l := by omega
  have few := pcs_few (t := t) (l := l) (m := m) (w := w') (b := b)
  have few2 := pcs_few (t := o) (l := l) (m := m) (w := w') (b := b)
  have hpa := hh.2.1
  have tb := hh.1.tb
  have npP : pa ∉ Ps := tb.not hpa fun _ z => by cases z
  have nmP : mo ∉ Ps := tb.not hmo fun _ z => by cases z
  have okx : ∀ x ∈ pcs (chs t) l m w' b, PyData.strOk x = true := fun x hx => (pcs_AB t2 b5 h0 x hx).ok
  have oky : ∀ x ∈ pcs (chs o) l m w' b, PyData.strOk x = true := fun x hx => (pcs_AB o2 b5 h0 x hx).ok
  have fin : ∀ G en, Gw Ps H G → H en = none → en ≠ d → G en = some (.lst ((endsN (pcs (chs t) l m w' b) (pcs (chs o) l m w' b)).map fun (k : Nat) => V.int k)) → D.nx [z0, some (.ref d), some (.str t), some (.int (w' : Nat)), some (.int (l : Nat)), some (.int (b : Nat)), some (.int (m : Nat)), z7, z8, some (.ref pa), z10, z11, some (.ref pl), z13, some (.str o), some (.ref mo), z16, some (.ref en), z18, z19, z20, z21, z22] G := fun G en g h1 h2 h3 => hn _ _ ⟨pa, pl, mo, en, ⟨_, _, _, _, _, _, _, _, _, _, _, _, rfl⟩, hh.gw g, g.2 _ _ nmP hmo, h3, h2⟩
  have nd : ∀ D', H D' = none → D' ≠ d := fun D' h => hh.1.ne h
  clear hn
  generalize pcs (chs t) l m w' b = xs at few hpa okx fin
  generalize pcs (chs o) l m w' b = ys at few2 hmo oky fin
  have lnx : (xs.map V.str).length = xs.length := List.length_map _
  have lny : (ys.map V.str).length = ys.length := List.length_map _
  refine tLc_rng1 ((min xs.length ys.length : Nat) + 1 : Int) (min xs.length ys.length + 1) (fun R r => ?_) ⟨by omega, by omega⟩ (by omega) (fun D' hD => ?_)
  · walk_at "ev"
    refine ⟨pa, _, rfl, .inl (SqL.of hpa), mo, _, rfl, .inr (SqT_of hmo), ?_⟩
    refine ⟨_, rfl, _, rfl, ?_⟩
    rw [lnx, lny]
    have e : (if ((ys.length : Nat) : Int) < (xs.length : Nat) then ((ys.length : Nat) : Int) else (xs.length : Nat)) = ((min xs.length ys.length : Nat) : Int) := by
      split <;> omega
    rw [e]
    exact r
  have nD : D' ∉ Ps := tb.none hD
  refine lc_range (fun i G => Gw Ps H G ∧ G D' = some (.lst ((List.range i).filterMap fun i => if endsB xs ys i = true then some (V.int ((i : Nat) : Int)) else none))) ⟨(Gw.refl tb).new hD, upd_same⟩ ?_ ?_
  · rintro i G hi ⟨gi, hG⟩
    refine ⟨by simp [wipe], ?_⟩
    simp only [wipe, List.set_cons_zero, List.set_cons_succ]
    walk_at "ev"
    have p1 := gi.2 _ _ npP hpa
    refine ⟨pa, _, rfl, .inl (SqL.of p1), _, rfl, pa, _, rfl, SqL.of p1, fun q1 hq1 => ?_⟩
    have ex1 : (((xs.map V.str).length : Nat) : Int) - (0 + (i : Nat)) = ((xs.length - i : Nat) : Int) := by rw [lnx]; omega
    rw [ex1, cutV_drop, ← List.map_drop]
    have g1 := gi.new (o := .lst ((xs.drop (xs.length - i)).map V.str)) hq1
    refine ⟨q1, _, rfl, .inl (SqL.of upd_same), fun q2 hq2 => ?_⟩
    have g2 := g1.new (o := .lst ((xs.drop (xs.length - i)).map V.str)) hq2
    have e2 : (upd (upd G q1 (.lst ((xs.drop (xs.length - i)).map V.str))) q2 (.lst ((xs.drop (xs.length - i)).map V.str))) q2 = some (.lst ((xs.drop (xs.length - i)).map V.str)) := upd_same
    have nDq : D' ≠ q1 := fun z => by
      rw [z, hq1] at hG
      cases hG
    have nDq2 : D' ≠ q2 := fun z => by
      have := (upd_none hq2).1
      rw [← z, hG] at this
      cases this
    have hG2 : (upd (upd G q1 (.lst ((xs.drop (xs.length - i)).map V.str))) q2 (.lst ((xs.drop (xs.length - i)).map V.str))) D' = some (HO.lst (List.filterMap (fun i => if endsB xs ys i = true then some (V.int ((i : Nat) : Int)) else none) (List.range i))) := by
      rw [upd_ne nDq2, upd_ne nDq]
      exact hG
    generalize upd (upd G q1 (.lst ((xs.drop (xs.length - i)).map V.str))) q2 (.lst ((xs.drop (xs.length - i)).map V.str)) = G2 at g2 e2 hG2 ⊢
    have m2 := g2.2 _ _ nmP hmo
    refine ⟨mo, _, rfl, .inr (SqT_of m2), _, rfl, ?_⟩
    have ey1 : (((ys.map V.str).length : Nat) : Int) - (0 + (i : Nat)) = ((ys.length - i : Nat) : Int) := by rw [lny]; omega
    rw [ey1]
    -- the copy of the last ones of the tuple
    have last : ∀ (G3 : Hp) (q3 : Addr), Gw Ps G2 G3 → SqT K G3 q3 ((ys.drop (ys.length - i)).map V.str) → rListK K [.ref q3] G3 fun y H2 =>
        rEqD K (.ref q2) y H2 fun x H' => ∃ k, x = V.bl k ∧ if k = true then ∃ acc, H' D' = some (HO.lst acc) ∧ acc.length < sizeLine ∧ Gw Ps H (upd H' D' (HO.lst (acc ++ [V.int (0 + (i : Nat))]))) ∧ upd H' D' (HO.lst (acc ++ [V.int (0 + (i : Nat))])) D' = some (HO.lst (List.filterMap (fun i => if endsB xs ys i = true then some (V.int ((i : Nat) : Int)) else none) (List.range (i + 1))))
          else Gw Ps H H' ∧ H' D' = some (HO.lst (List.filterMap (fun i => if endsB xs ys i = true then some (V.int ((i : Nat) : Int)) else none) (List.range (i + 1)))) := by
      intro G3 q3 g3 h3
      refine ⟨q3, _, rfl, .inr h3, fun q4 hq4 => ?_⟩
      have nq2 : q2 ∉ Ps := g2.1.not e2 fun _ z => by cases z
      have nD' : D' ∉ Ps := nD
      have e3 := g3.2 _ _ nq2 e2
      have hG3 := g3.2 _ _ nD' hG2
      have nq24 : q2 ≠ q4 := fun z => by
        rw [z, hq4] at e3
        cases e3
      have nD4 : D' ≠ q4 := fun z => by
        rw [z, hq4] at hG3
        cases hG3
      have g4 := (g2.trans g3).new (o := .lst ((ys.drop (ys.length - i)).map V.str)) hq4
      refine rEq_lS (fun x hx => okx x (List.mem_of_mem_drop hx)) (fun x hx => oky x (List.mem_of_mem_drop hx)) (SqL.of (by rw [upd_ne nq24]; exact e3)) (SqL.of upd_same) ⟨_, rfl, ?_⟩
      rw [XT.fm_succ]
      show if endsB xs ys i = true then _ else _
      by_cases eb : endsB xs ys i = true
      · rw [if_pos eb]
        refine ⟨_, by rw [upd_ne nD4]; exact hG3, ?_, g4.set hD nD, ?_⟩
        · have := XT.fm_len (fun i => if endsB xs ys i = true then some (V.int ((i : Nat) : Int)) else none) i
          exact Nat.lt_of_le_of_lt this (Nat.lt_of_lt_of_le (show i < 101 by omega) (by decide))
        · rw [upd_same, if_pos eb]
          have e0 : (0 : Int) + (i : Nat) = (i : Nat) := by omega
          rw [e0]
          rfl
      · rw [if_neg eb, if_neg eb]
        refine ⟨g4, ?_⟩
        rw [upd_ne nD4, Option.toList_none, List.append_nil]
        exact hG3
    refine ⟨mo, _, rfl, SqT_of m2, fun hw => ?_, fun _ p hp => ?_⟩
    · refine last G2 mo (Gw.refl g2.1) (SqT_of ?_)
      have h1 := hw.1
      rw [HT.sIx_nat, lny] at h1
      have h2 : ys.length - i = 0 := by omega
      rw [h2, List.drop_zero]
      exact m2
    · refine last _ p ((Gw.refl g2.1).new hp) (SqT_of ?_)
      rw [upd_same, cutV_drop, List.map_drop]
  · rintro G ⟨gi, hG⟩
    rw [fm_filter] at hG
    exact fin G D' gi hD (nd D' hD) hG
end
end K2

set_option maxRecDepth 100000
set_option maxHeartbeats 4000000
namespace K2
open PySem PySem.Spec PyProof.Rows L2
open XT (pt_chain3)
open SkE (pmk_own1)
local macro_rules | `(tactic| walk_at "ev") => `(tactic| simp only [tSeq, tIfS, tNot, XT.tChain3, rI0, tC, tVar, tRet, tTup, tLst, tCons, tNil, tJs, tFmt, tNext, tTest, tOp, tUn, rI, rU, tCall, tCB, tAnd, tOr, tB, tDrop, tAsg, gName, tAug, tPar, ipI, tBM, rAppend, tSl, rSlS, tPart, tNoPart, tIf, tM1, rEq, rNe, L2.start, List.map_cons, List.map_nil, List.length_cons, List.length_nil, Nat.reduceAdd, Nat.reduceSub, Nat.sub_self, List.replicate_zero, List.append_nil, List.replicate_succ, List.cons_append, List.nil_append,
  List.getElem?_cons_zero, List.getElem?_cons_succ, Option.some.injEq, exists_eq_left', exists_eq_left, V.int.injEq, V.str.injEq, V.bl.injEq, V.ref.injEq, List.set_cons_zero, List.set_cons_succ, List.cons.injEq, and_true, true_and, reduceCtorEq, false_and, exists_false, false_or, or_false, exists_and_left, and_assoc, decide_eq_true_eq, Bool.not_eq_true', decide_eq_false_iff_not, Bool.not_false, Bool.not_true, if_true, if_false, Bool.false_eq_true, ↓reduceIte])
open XT (Sm pe_msg)

section
theorem endsB_iff {xs ys : List Str} {k : Nat} (h1 : k ≤ xs.length) (h2 : k ≤ ys.length) : endsB xs ys k = true ↔ ∀ j, j < k → xs[xs.length - 1 - j]? = ys[ys.length - 1 - j]? := by
  unfold endsB
  rw [decide_eq_true_eq]
  constructor
  · intro h j hj
    have e : (xs.drop (xs.length - k))[k - 1 - j]? = (ys.drop (ys.length - k))[k - 1 - j]? := by rw [h]
    rw [List.getElem?_drop, List.getElem?_drop] at e
    have e1 : xs.length - k + (k - 1 - j) = xs.length - 1 - j := by omega
    have e2 : ys.length - k + (k - 1 - j) = ys.length - 1 - j := by omega
    rw [e1, e2] at e
    exact e
  · intro h
    refine List.ext_getElem? fun p => ?_
    rw [List.getElem?_drop, List.getElem?_drop]
    by_cases hp : p < k
    · have e := h (k - 1 - p) (by omega)
      have e1 : xs.length - 1 - (k - 1 - p) = xs.length - k + p := by omega
      have e2 : ys.length - 1 - (k - 1 - p) = ys.length - k + p := by omega
      rw [e1, e2] at e
      exact e
    · rw [List.getElem?_eq_none (by omega), List.getElem?_eq_none (by omega)]
theorem mem_endsN {xs ys : List Str} {k : Nat} : k ∈ endsN xs ys ↔ k ≤ xs.length ∧ k ≤ ys.length ∧ ∀ j, j < k → xs[xs.length - 1 - j]? = ys[ys.length - 1 - j]? := by
  unfold endsN
  rw [List.mem_filter, List.mem_range]
  constructor
  · rintro ⟨h1, h2⟩
    exact ⟨by omega, by omega, (endsB_iff (by omega) (by omega)).mp h2⟩
  · rintro ⟨h1, h2, h3⟩
    exact ⟨by omega, (endsB_iff h1 h2).mpr h3⟩
theorem ends_down {xs ys : List Str} {k j : Nat} (h : k ∈ endsN xs ys) (hj : j ≤ k) : j ∈ endsN xs ys := by
  obtain ⟨h1, h2, h3⟩ := mem_endsN.mp h
  exact mem_endsN.mpr ⟨by omega, by omega, fun i hi => h3 i (by omega)⟩
theorem ends_max {xs ys : List Str} {i : Nat} (h : Ends xs ys i) : i ∈ endsN xs ys ∧ ∀ k ∈ endsN xs ys, k ≤ i := by
  obtain ⟨h1, h2, h3, h4⟩ := h
  refine ⟨mem_endsN.mpr ⟨h1, h2, h3⟩, fun k hk => ?_⟩
  obtain ⟨k1, k2, k3⟩ := mem_endsN.mp hk
  by_cases hlt : i < k
  · exact absurd (k3 i hlt) (h4 (by omega) (by omega))
  · omega
theorem inV_N (j : Nat) (l : List Nat) : inV (.int (j : Nat)) (l.map fun (k : Nat) => V.int k) = decide (j ∈ l) := by
  unfold inV
  rw [List.any_map]
  by_cases h : j ∈ l
  · rw [decide_eq_true h, List.any_eq_true]
    exact ⟨j, h, by simp [eqV]⟩
  · rw [decide_eq_false h, List.any_eq_false]
    intro z hz q
    have q : (((z : Nat) : Int) == ((j : Nat) : Int)) = true := q
    have := eq_of_beq q
    exact h (by have e : z = j := by omega
                rw [← e]; exact hz)
theorem flat_N (l : List Nat) : (l.map fun (k : Nat) => V.int k).all flatV = true := by
  rw [List.all_map, List.all_eq_true]
  intro x _
  rfl
variable {P : Program} {w : World} {K : PySem.W.Frag} {mg : Str → Option Value} {base : Heap} {C : Addr} {Ps : List Addr}
variable {f c d : Addr} {k : Nat} {A : Around} {outer : List Env} {s : Shared} {H0 HB : Hp} {E : XK}
theorem law17 (Z : Callees P w K mg base C Ps k) (T : Txt K mg C) (hr : Room k (A.deeper (envOfC "law" (defScope s_law) s.heap.objs.size f (.ref c)))) {t o : Str} {w' l b m : Nat} (t1 : t.length ≤ 20) (o1 : o.length ≤ 23) : Step (LX0 P w K mg base f c A outer s H0 E) (lb 17) (Pre10 Ps d HB t w' l b m o) (Pre6 Ps d HB t w' l b m) := by
  obtain ⟨_, _, _, k1, G1⟩ := Z.settled
  refine ⟨_, ps_if (pt_cmpR op_ne (pe_call G1.ok (hr.mono k1) (by rfl) G1.g G1.kp G1.b .nil passF (pa_cons (pv 9) (pa_cons (pv 15) pa_nil))) (pe_callB (r := rMax K) (cr_max rfl) (by rfl) T.z_max (by decide +kernel) (pa_cons (pe_lc (own := [("k", 8)]) rfl sc_law.nd (pi_list (pv 17)) (blkOk_by (by show blkC Nlaw (defScope s_law) _ _ = true; decide +kernel)) (fun _ _ _ _ _ => (pg_name (i := 8) sc_law.nd rfl (.inl rfl)))
      (fun _ _ _ _ _ => (pts_one (pt_cmpR (r := rEqD K) (op_eqK rfl hr.units) (pe_lc (own := [("j", 18)]) rfl sc_law.nd (pi_range1 (by rfl) T.z_range (pa_cons (pv 8) pa_nil)) (blkOk_by (by show blkC Nlaw { kind := ScopeKind.function, names := [(".0", NameKind.local), ("k", NameKind.local), ("range", NameKind.globalImplicit), ("ends", NameKind.cell)], isGenerator := false, isCoroutine := false } _ _ = true; decide +kernel)) (fun _ _ _ _ _ => (pg_name (i := 18) sc_law.nd rfl (.inl rfl))) (fun _ _ _ _ _ => (pts_one (pt_cmpR (r := rIn K true) (op_notInK rfl) (pv 18) (pv 17) (by with_unfolding_all rfl)))) (fun _ _ _ _ _ => (pv 18))) (pe_lst pa_nil) (nomark _)))) (fun _ _ _ _ _ => (pv 8))) pa_nil)) (nomark _))
      (pss_one (ps_ret pe_bl)) pss_nil, fun D σ H hp hn => ?_⟩
  obtain ⟨pa, pl, mo, en, ⟨z0, z7, z8, z10, z11, z13, z16, z18, z19, z20, z21, z22, rfl⟩, hh, hmo, hen, ned⟩ := hp
  walk_at "ev"
  have few := pcs_few (t := t) (l := l) (m := m) (w := w') (b := b)
  have few2 := pcs_few (t := o) (l := l) (m := m) (w := w') (b := b)
  have hpa := hh.2.1
  have tb := hh.1.tb
  have neP : en ∉ Ps := tb.not hen fun _ z => by cases z
  have fin : ∀ G, Gw Ps H G → D.nx [z0, some (.ref d), some (.str t), some (.int (w' : Nat)), some (.int (l : Nat)), some (.int (b : Nat)), some (.int (m : Nat)), z7, z8, some (.ref pa), z10, z11, some (.ref pl), z13, some (.str o), some (.ref mo), z16, some (.ref en), z18, z19, z20, z21, z22] G := fun G g => hn _ _ ⟨pa, pl, ⟨_, _, _, _, _, _, _, _, _, _, _, _, _, _, _, rfl⟩, hh.gw g⟩
  clear hn
  generalize pcs (chs t) l m w' b = xs at few hpa hen
  generalize pcs (chs o) l m w' b = ys at few2 hmo hen
  refine ⟨pa, mo, xs, ys, rfl, .inl (SqL.of hpa), .inr (SqT_of hmo), by omega, by omega, fun i hi => ?_⟩
  obtain ⟨mx1, mx2⟩ := ends_max hi
  have down : ∀ k ∈ endsN xs ys, ∀ j, j < k → j ∈ endsN xs ys := fun k hk j hj => ends_down hk (Nat.le_of_lt hj)
  have le50 : ∀ k ∈ endsN xs ys, k ≤ 50 := fun k hk => by
    have := (mem_endsN.mp hk).1
    omega
  have ln50 : (endsN xs ys).length ≤ 50 := by
    unfold endsN
    refine Nat.le_trans (List.length_filter_le _ _) ?_
    rw [List.length_range]
    omega
  generalize endsN xs ys = es at hen mx1 mx2 down le50 ln50
  refine ⟨_, rfl, en, rfl, ⟨_, SqL.of hen⟩, fun D' hD => ?_⟩
  have nD : D' ∉ Ps := tb.none hD
  have sz : sizeLine ≥ 1001 := by decide
  refine lc_list (xs := es.map fun (k : Nat) => V.int k) (fun i G => Gw Ps H G ∧ G D' = some (.lst ((es.take i).map fun (k : Nat) => V.int k))) ⟨(Gw.refl tb).new hD, upd_same⟩ (fun i G _ hP => SqL.of (hP.1.2 _ _ neP hen)) ?_ ?_
  · rintro i2 x G e ⟨gi, hG⟩
    rw [List.getElem?_map] at e
    obtain ⟨k2, hk2, rfl⟩ := Option.map_eq_some_iff.mp e
    have mk := List.mem_of_getElem? hk2
    have k50 := le50 k2 mk
    refine ⟨by simp [wipe], ?_⟩
    simp only [wipe, List.set_cons_zero, List.set_cons_succ]
    walk_at "ev"
    refine tLc_rng1 (k2 : Nat) k2 (fun R r => ?_) ⟨by omega, by omega⟩ (by omega) (fun D2 hD2 => ?_)
    · walk_at "ev"
      exact r
    have nDD : D' ≠ D2 := fun z => by
      rw [z, hD2] at hG
      cases hG
    have gD : ∀ o, Gw Ps H (upd G D2 o) := fun o => gi.new hD2
    refine XT.lc_pure (J := Itr 0 k2) k2 (fun _ => none) (by omega) (fun i acc hi => hi) (fun acc => Nat.le_refl _) (fun j acc hj y H' hy Nx hl hnx => ?_) ?_
    · obtain ⟨rfl, rfl⟩ := hy
      refine ⟨by simp [wipe], ?_⟩
      simp only [wipe, List.set_cons_zero, List.set_cons_succ]
      walk_at "ev"
      have e0 : (0 : Int) + (j : Nat) = (j : Nat) := by omega
      rw [e0]
      refine ⟨en, _, rfl, .inl (SqL.of ((gD _).2 _ _ neP hen)), rfl, flat_N _, _, rfl, ?_⟩
      rw [inV_N, decide_eq_true (down k2 mk j hj)]
      rw [Option.toList_none, List.append_nil] at hnx
      exact hnx
    · have ee : (List.range k2).filterMap (fun _ => (none : Option V)) = ([] : List Int).map V.int := by simp
      rw [ee]
      have g3 := gD (.lst (([] : List Int).map V.int))
      refine ⟨by decide, fun q hq => ?_⟩
      have nDq : D' ≠ q := fun z => by
        have := (upd_none hq).1
        rw [← z, hG] at this
        cases this
      have n2q : D2 ≠ q := (upd_none hq).2.symm
      refine rEq_lI (ns := []) (ms := []) (SqL.of (by rw [upd_ne n2q]; exact upd_same)) (SqL.of upd_same) ⟨_, rfl, ?_⟩
      rw [if_pos (by decide)]
      refine ⟨_, by rw [upd_ne nDq, upd_ne nDD]; exact hG, ?_, (g3.new hq).set hD nD, ?_⟩
      · rw [List.length_map, List.length_take]
        omega
      · rw [upd_same, List.take_add_one, hk2, List.map_append]
        rfl
  · rintro G ⟨gi, hG⟩
    rw [List.length_map, List.take_length] at hG
    refine ⟨D', es.map fun (k : Nat) => (k : Int), rfl, SqL.of (by rw [hG, List.map_map]; rfl), by rw [List.length_map]; exact List.length_pos_of_mem mx1, fun m2 h1 h2 => ?_⟩
    obtain ⟨k3, hk3, rfl⟩ := List.mem_map.mp h1
    have a1 := mx2 k3 hk3
    have a2 := h2 (i : Nat) (List.mem_map.mpr ⟨i, mx1, rfl⟩)
    have ei : k3 = i := by omega
    rw [ei]
    refine ⟨rfl, ?_⟩
    rw [if_neg (fun z => z rfl)]
    exact fin G gi
end
end K2

set_option maxRecDepth 100000
set_option maxHeartbeats 4000000
namespace K2
open PySem PySem.Spec PyProof.Rows L2
open XT (pt_chain3)
open SkE (pmk_own1)
local macro_rules | `(tactic| walk_at "ev") => `(tactic| simp only [tSeq, tIfS, tNot, XT.tChain3, rI0, tC, tVar, tRet, tTup, tLst, tCons, tNil, tJs, tFmt, tNext, tTest, tOp, tUn, rI, rU, tCall, tCB, tAnd, tOr, tB, tDrop, tAsg, gName, tAug, tPar, ipI, tBM, rAppend, tSl, rSlS, tPart, tNoPart, rEq, rNe, L2.start, List.map_cons, List.map_nil, List.length_cons, List.length_nil, Nat.reduceAdd, Nat.reduceSub, Nat.sub_self, List.replicate_zero, List.append_nil, List.replicate_succ, List.cons_append, List.nil_append,
  List.getElem?_cons_zero, List.getElem?_cons_succ, Option.some.injEq, exists_eq_left', exists_eq_left, V.int.injEq, V.str.injEq, V.bl.injEq, V.ref.injEq, List.set_cons_zero, List.set_cons_succ, List.cons.injEq, and_true, true_and, reduceCtorEq, false_and, exists_false, false_or, or_false, exists_and_left, and_assoc, decide_eq_true_eq, Bool.not_eq_true', decide_eq_false_iff_not, Bool.not_false, Bool.not_true, if_true, if_false, Bool.false_eq_true, ↓reduceIte])
open XT (Sm pe_msg)

section
/-! ### behind a cut, cut as before (window = least) -/
theorem win_drop (L : List Nat) (s i w : Nat) : winS (L.drop s) i w = winS L (s + i) w := by
  unfold winS
  rw [List.drop_drop]
theorem sub_drop (L : List Nat) (s a p : Nat) : sub (L.drop s) a p = sub L (s + a) (s + p) := by
  unfold sub
  rw [List.drop_drop, Nat.add_sub_add_left]
theorem cut_drop {L : List Nat} {l m b s a p : Nat} : cutAt (L.drop s) l m l b a p ↔ cutAt L l m l b (s + a) (s + p) := by
  unfold cutAt
  have e : s + p - (s + a) = p - a := Nat.add_sub_add_left ..
  rw [e]
  by_cases h : l ≤ p - a
  · have e2 : s + p - l = s + (p - l) := by omega
    rw [e2, win_drop]
  · constructor
    · rintro (z | z)
      · exact .inl z
      · exact absurd z.1 h
    · rintro (z | z)
      · exact .inl z
      · exact absurd z.1 h
theorem step_drop {L : List Nat} {l m b s p : Nat} {ps0 : List Str} (st : Nat × List Str) : stepT L l m l b (s + p) (s + st.1, ps0 ++ st.2) = (s + (stepT (L.drop s) l m l b p st).1, ps0 ++ (stepT (L.drop s) l m l b p st).2) := by
  obtain ⟨a, q⟩ := st
  unfold stepT
  by_cases h : cutAt (L.drop s) l m l b a p
  · rw [if_pos (cut_drop.mp h), if_pos h, sub_drop]
    simp
  · rw [if_neg (fun z => h (cut_drop.mpr z)), if_neg h]
theorem runA_drop {L : List Nat} {l m b s : Nat} {ps0 : List Str} (h : runA L l m l b s = (s, ps0)) : ∀ n, runA L l m l b (s + n) = (s + (runA (L.drop s) l m l b n).1, ps0 ++ (runA (L.drop s) l m l b n).2) := by
  intro n
  induction n with
  | zero =>
    rw [Nat.add_zero, h]
    show (s, ps0) = (s + 0, ps0 ++ [])
    rw [Nat.add_zero, List.append_nil]
  | succ n ih =>
    have e : s + (n + 1) = (s + n) + 1 := by omega
    rw [e, runA, ih, runA]
    have e2 : s + n + 1 = s + (n + 1) := by omega
    rw [e2]
    exact step_drop _
theorem pcs_drop {L : List Nat} {l m b s : Nat} {ps0 : List Str} (hs : s ≤ L.length) (h : runA L l m l b s = (s, ps0)) : pcs L l m l b = ps0 ++ pcs (L.drop s) l m l b := by
  unfold pcs
  have e : L.length = s + (L.drop s).length := by
    rw [List.length_drop]
    omega
  have r := runA_drop h (L.drop s).length
  rw [← e] at r
  rw [r]
  have hle := (runA_le (L.drop s) l m l b (L.drop s).length).1
  generalize runA (L.drop s) l m l b (L.drop s).length = st at hle
  obtain ⟨a, q⟩ := st
  unfold lastT
  simp only [] at hle ⊢
  by_cases c : a < (L.drop s).length
  · rw [if_pos c, if_pos (by omega), sub_drop, ← e, List.append_assoc]
  · rw [if_neg c, if_neg (by omega)]
theorem cut_place {L : List Nat} {l m b : Nat} : ∀ i, ∀ k, k < (runA L l m l b i).2.length → ∃ p, p ≤ i ∧ runA L l m l b p = (p, (runA L l m l b i).2.take (k + 1)) := by
  intro i
  induction i with
  | zero => intro k hk; exact absurd hk (Nat.not_lt_zero _)
  | succ i ih =>
    intro k hk
    have e : runA L l m l b (i + 1) = stepT L l m l b (i + 1) (runA L l m l b i) := rfl
    by_cases z : cutAt L l m l b (runA L l m l b i).1 (i + 1)
    · have e2 : runA L l m l b (i + 1) = (i + 1, (runA L l m l b i).2 ++ [sub L (runA L l m l b i).1 (i + 1)]) := by
        rw [e]
        unfold stepT
        rw [if_pos z]
      rw [e2] at hk ⊢
      simp only [List.length_append, List.length_cons, List.length_nil] at hk
      by_cases h : k < (runA L l m l b i).2.length
      · obtain ⟨p, hp, q⟩ := ih k h
        exact ⟨p, by omega, by rw [q, List.take_append_of_le_length (by omega)]⟩
      · refine ⟨i + 1, Nat.le_refl _, ?_⟩
        rw [e2, List.take_of_length_le (by simp; omega)]
    · have e2 : runA L l m l b (i + 1) = runA L l m l b i := by
        rw [e]
        unfold stepT
        rw [if_neg z]
      rw [e2] at hk ⊢
      obtain ⟨p, hp, q⟩ := ih k hk
      exact ⟨p, by omega, q⟩
theorem lens_flat (xs : List Str) : (xs.map Str.length).sum = (xs.map chs).flatten.length := by
  rw [List.length_flatten, List.map_map]
  have e : xs.map (List.length ∘ chs) = xs.map Str.length := List.map_congr_left fun x _ => chs_len x
  rw [e]
/-- what stands behind the k-th piece is cut as the pieces behind it -/
theorem pcs_tail {t : Str} {l m b k : Nat} (hl : l ≤ m) (h1 : 1 ≤ l) (hk : k < (pcs (chs t) l m l b).length) : lenN (pcs (chs t) l m l b) (k + 1) ≤ t.length ∧ pcs ((chs t).drop (lenN (pcs (chs t) l m l b) (k + 1))) l m l b = (pcs (chs t) l m l b).drop (k + 1) := by
  have hL : (chs t).length = t.length := chs_len t
  have good := (pcs_good (t := t) (w := l) (b := b) hl h1).1
  have lall : ((pcs (chs t) l m l b).map Str.length).sum = t.length := by rw [lens_flat, good, hL]
  have lle : lenN (pcs (chs t) l m l b) (k + 1) ≤ t.length := by
    rw [← lall]
    unfold lenN
    have := congrArg List.sum (congrArg (List.map Str.length) (List.take_append_drop (k + 1) (pcs (chs t) l m l b)))
    rw [List.map_append, List.sum_append] at this
    omega
  refine ⟨lle, ?_⟩
  by_cases hc : k < (runA (chs t) l m l b (chs t).length).2.length
  · obtain ⟨p, hp, q⟩ := cut_place (chs t).length k hc
    have c := cut_all (w := l) (b := b) hl h1 p hp
    rw [q] at c
    have e := pcs_drop hp q
    have et : (runA (chs t) l m l b (chs t).length).2.take (k + 1) = (pcs (chs t) l m l b).take (k + 1) := by
      unfold pcs lastT
      split
      · rw [List.take_append_of_le_length (by omega)]
      · rfl
    rw [et] at c e
    have es : lenN (pcs (chs t) l m l b) (k + 1) = p := by
      unfold lenN
      have := c.all
      simp only [] at this
      rw [lens_flat, this, List.length_take]
      omega
    rw [es]
    have ln : ((pcs (chs t) l m l b).take (k + 1)).length = k + 1 := by
      rw [List.length_take]
      omega
    generalize pcs ((chs t).drop p) l m l b = r at e ⊢
    generalize (pcs (chs t) l m l b).take (k + 1) = u at e ln
    rw [e, ← ln, List.drop_left]
  · -- the last one
    have e1 : k + 1 = (pcs (chs t) l m l b).length := by
      have : (pcs (chs t) l m l b).length ≤ (runA (chs t) l m l b (chs t).length).2.length + 1 := by
        unfold pcs lastT
        split
        · rw [List.length_append]
          exact Nat.le_refl _
        · omega
      omega
    have e2 : lenN (pcs (chs t) l m l b) (k + 1) = t.length := by
      unfold lenN
      rw [e1, List.take_length, lall]
    rw [e2, ← hL, List.drop_length, e1, List.drop_length]
    rfl
end
end K2

set_option maxRecDepth 100000
set_option maxHeartbeats 4000000
namespace K2
open PySem PySem.Spec PyProof.Rows L2
open XT (pt_chain3)
open SkE (pmk_own1)
local macro_rules | `(tactic| walk_at "ev") => `(tactic| simp only [tSeq, tIfS, tNot, XT.tChain3, rI0, tC, tVar, tRet, tTup, tLst, tCons, tNil, tJs, tFmt, tNext, tTest, tOp, tUn, rI, rU, tCall, tCB, tAnd, tOr, tB, tDrop, tAsg, gName, tAug, tPar, ipI, tBM, rAppend, tSl, rSlS, tPart, tNoPart, tIf, tM1, rEq, rNe, L2.start, List.map_cons, List.map_nil, List.length_cons, List.length_nil, Nat.reduceAdd, Nat.reduceSub, Nat.sub_self, List.replicate_zero, List.append_nil, List.replicate_succ, List.cons_append, List.nil_append,
  List.getElem?_cons_zero, List.getElem?_cons_succ, Option.some.injEq, exists_eq_left', exists_eq_left, V.int.injEq, V.str.injEq, V.bl.injEq, V.ref.injEq, List.set_cons_zero, List.set_cons_succ, List.cons.injEq, and_true, true_and, reduceCtorEq, false_and, exists_false, false_or, or_false, exists_and_left, and_assoc, decide_eq_true_eq, Bool.not_eq_true', decide_eq_false_iff_not, Bool.not_false, Bool.not_true, if_true, if_false, Bool.false_eq_true, ↓reduceIte])
open XT (Sm pe_msg)

section
variable {P : Program} {w : World} {K : PySem.W.Frag} {mg : Str → Option Value} {base : Heap} {C : Addr} {Ps : List Addr}
variable {f c d : Addr} {k : Nat} {A : Around} {outer : List Env} {s : Shared} {H0 HB : Hp} {E : XK}
def lc18 (i : Nat) : Stmt := (forB (lb 18)).getD i (.Pass ⟨0, 0, 0, 0⟩)
def Pre11 (Ps : List Addr) (d : Addr) (HB : Hp) (t : Str) (w' l b m j : Nat) : L2.St → Hp → Prop := fun σ H => ∃ pa pl, (∃ z0 z7 z10 z11 z13 z14 z15 z16 z17 z18 z19 z20 z21 z22, σ = [z0, some (.ref d), some (.str t), some (.int (w' : Nat)), some (.int (l : Nat)), some (.int (b : Nat)), some (.int (m : Nat)), z7, some (.int (j : Nat)), some (.ref pa), z10, z11, some (.ref pl), z13, z14, z15, z16, z17, z18, z19, z20, z21, z22]) ∧ Hpf Ps d HB t w' l b m pa pl H
def Pre12 (Ps : List Addr) (d : Addr) (HB : Hp) (t : Str) (w' l b m j : Nat) : L2.St → Hp → Prop := fun σ H => ∃ pa pl, (∃ z0 z7 z10 z11 z13 z14 z15 z16 z17 z18 z20 z21 z22, σ = [z0, some (.ref d), some (.str t), some (.int (w' : Nat)), some (.int (l : Nat)), some (.int (b : Nat)), some (.int (m : Nat)), z7, some (.int (j : Nat)), some (.ref pa), z10, z11, some (.ref pl), z13, z14, z15, z16, z17, z18, some (.int (lenN (pcs (chs t) l m w' b) (j + 1) : Nat)), z20, z21, z22]) ∧ Hpf Ps d HB t w' l b m pa pl H
def Pre13 (Ps : List Addr) (d : Addr) (HB : Hp) (t : Str) (w' l b m j : Nat) : L2.St → Hp → Prop := fun σ H => ∃ pa pl ta, (∃ z0 z7 z10 z11 z13 z14 z15 z16 z17 z18 z21 z22, σ = [z0, some (.ref d), some (.str t), some (.int (w' : Nat)), some (.int (l : Nat)), some (.int (b : Nat)), some (.int (m : Nat)), z7, some (.int (j : Nat)), some (.ref pa), z10, z11, some (.ref pl), z13, z14, z15, z16, z17, z18, some (.int (lenN (pcs (chs t) l m w' b) (j + 1) : Nat)), some (.ref ta), z21, z22]) ∧ Hpf Ps d HB t w' l b m pa pl H ∧ H ta = some (.tup ((pcs ((chs t).drop (lenN (pcs (chs t) l m w' b) (j + 1))) l m w' b).map V.str))
theorem law18a (Z : Callees P w K mg base C Ps k) (T : Txt K mg C) (hr : Room k (A.deeper (envOfC "law" (defScope s_law) s.heap.objs.size f (.ref c)))) {t : Str} {w' l b m : Nat} (t1 : t.length ≤ 20) (ne : pcs (chs t) l m w' b ≠ []) : Step (LX0 P w K mg base f c A outer s H0 E) (lc18 0) (Pre6 Ps d HB t w' l b m) (fun σ H => ∃ j, j < (pcs (chs t) l m w' b).length ∧ Pre11 Ps d HB t w' l b m j σ H) := by
  obtain ⟨_, _, _, k2, G2⟩ := Z.roll
  refine ⟨_, ps_set (i := 8) sc_law.nd rfl (.inl rfl) (pe_call G2.ok (hr.mono k2) (by rfl) G2.g G2.kp G2.b .nil passF (pa_cons (pv 1) (pa_cons (pe_callB (r := rLenK K) (call_lenK rfl) (by rfl) T.z_len (by decide +kernel) (pa_cons (pv 9) pa_nil)) pa_nil))), fun D σ H hp hn => ?_⟩
  obtain ⟨pa, pl, ⟨z0, z7, z8, z10, z11, z13, z14, z15, z16, z17, z18, z19, z20, z21, z22, rfl⟩, hh⟩ := hp
  have hh : Hpf Ps d HB t w' l b m pa pl H := hh
  walk_at "ev"
  have few := pcs_few (t := t) (l := l) (m := m) (w := w') (b := b)
  have pos := List.length_pos_iff.mpr ne
  refine ⟨pa, _, rfl, .inl (SqL.of hh.2.1), d, _, rfl, hh.1.dice, by rw [List.length_map]; omega, by rw [List.length_map]; omega, fun r a b' c' hr2 => ?_⟩
  have h2 := hh.gd ((Gd.refl hh.1.tb hh.1.dice).roll a b' c')
  rw [List.length_map] at hr2
  exact hn _ _ ⟨r, by omega, pa, pl, ⟨_, _, _, _, _, _, _, _, _, _, _, _, _, _, rfl⟩, h2⟩
theorem law18b (T : Txt K mg C) {t : Str} {w' l b m j : Nat} (hj : j < (pcs (chs t) l m w' b).length) : Step (LX0 P w K mg base f c A outer s H0 E) (lc18 1) (Pre11 Ps d HB t w' l b m j) (Pre12 Ps d HB t w' l b m j) := by
  refine ⟨_, ps_set (i := 19) sc_law.nd rfl (.inl rfl) (pe_ix ix_list (pv 12) (pv 8) (fun _ _ => rfl)), fun D σ H hp hn => ?_⟩
  obtain ⟨pa, pl, ⟨z0, z7, z10, z11, z13, z14, z15, z16, z17, z18, z19, z20, z21, z22, rfl⟩, hh⟩ := hp
  walk_at "ev"
  have e : (placesV (pcs (chs t) l m w' b))[j]? = some (.int (lenN (pcs (chs t) l m w' b) (j + 1) : Nat)) := by
    unfold placesV
    rw [List.getElem?_map, List.getElem?_range hj]
    rfl
  refine ⟨pl, _, _, _, rfl, rfl, SqL.of hh.2.2.2.1, atI_nat e, hn _ _ ⟨pa, pl, ⟨_, _, _, _, _, _, _, _, _, _, _, _, _, rfl⟩, hh⟩⟩
theorem law18c (Z : Callees P w K mg base C Ps k) (T : Txt K mg C) (hr : Room k (A.deeper (envOfC "law" (defScope s_law) s.heap.objs.size f (.ref c)))) {t : Str} {w' l b m j : Nat} (t1 : t.length ≤ 20) (t2 : AB t) (b1 : 1 ≤ w') (b2 : w' ≤ 3) (b3 : w' ≤ l) (b4 : l ≤ 5) (b5 : l ≤ m) (b6 : m ≤ l + 4) (b7 : 1 ≤ b) (b8 : b ≤ 5) (hj : lenN (pcs (chs t) l m w' b) (j + 1) ≤ t.length) : Step (LX0 P w K mg base f c A outer s H0 E) (lc18 2) (Pre12 Ps d HB t w' l b m j) (Pre13 Ps d HB t w' l b m j) := by
  obtain ⟨_, _, _, k1, G1⟩ := Z.told
  refine ⟨_, ps_set (i := 20) sc_law.nd rfl (.inl rfl) (pe_call G1.ok (hr.mono k1) (by rfl) G1.g G1.kp G1.b .nil passF (pa_cons (pe_slice sl_str (pv 2) (po_some (pv 19)) po_none) (pa_cons (pv 4) (pa_cons (pv 6) (pa_cons (pv 3) (pa_cons (pv 5) pa_nil)))))), fun D σ H hp hn => ?_⟩
  obtain ⟨pa, pl, ⟨z0, z7, z10, z11, z13, z14, z15, z16, z17, z18, z20, z21, z22, rfl⟩, hh⟩ := hp
  walk_at "ev"
  have sN : ∀ n : Nat, n ≤ 1000 → Sm (n : Int) := fun n h => ⟨by omega, by omega⟩
  have lc := cutS_length t (some ((lenN (pcs (chs t) l m w' b) (j + 1) : Nat) : Int)) none
  refine ⟨Nat.le_trans t1 (by decide), _, _, _, _, _, rfl, (t2.cut _ _).sm (by omega), sN l (by omega), sN m (by omega), sN w' (by omega), sN b (by omega), hh.1.tb, fun z => absurd ⟨by omega, by omega, by omega, by omega⟩ z, fun _ => ?_⟩
  intro H1 q g1 _ hq
  simp only [Int.toNat_natCast] at hq
  rw [told_pcs b5 (by omega), cutS_a t hj] at hq
  have e : chs (sub (chs t) (lenN (pcs (chs t) l m w' b) (j + 1)) t.length) = (chs t).drop (lenN (pcs (chs t) l m w' b) (j + 1)) := by
    unfold sub
    rw [chs_ofL]
    exact List.take_of_length_le (by rw [List.length_drop, chs_len]; exact Nat.le_refl _)
  rw [e] at hq
  exact hn _ _ ⟨pa, pl, q, ⟨_, _, _, _, _, _, _, _, _, _, _, _, rfl⟩, hh.gw g1, hq⟩
theorem law18d (T : Txt K mg C) (hr : Room k (A.deeper (envOfC "law" (defScope s_law) s.heap.objs.size f (.ref c)))) {t : Str} {w' l b m j : Nat} (t1 : t.length ≤ 20) (t2 : AB t) (b1 : 1 ≤ w') (b3 : w' ≤ l) (b5 : l ≤ m) (hj : j < (pcs (chs t) l m w' b).length) : Step (LX0 P w K mg base f c A outer s H0 E) (lc18 3) (Pre13 Ps d HB t w' l b m j) (Pre6 Ps d HB t w' l b m) := by
  refine ⟨_, ps_if (PW.pt (pw_and (pt_cmpR op_eq (pv 3) (pv 4) (nomark _)) (pw_and1 (pt_cmpR (r := rNeD K) (op_neK rfl hr.units) (pe_callTy (r := rListK K) (call_listK rfl) (by rfl) T.z_list (by decide +kernel) (pa_cons (pv 20) pa_nil)) (pe_sliceL (K0 := K) rfl (pv 9) (po_some (pe_op op_add (pv 8) pe_int)) po_none) (nomark _)))))
      (pss_one (ps_ret pe_bl)) pss_nil, fun D σ H hp hn => ?_⟩
  obtain ⟨pa, pl, ta, ⟨z0, z7, z10, z11, z13, z14, z15, z16, z17, z18, z21, z22, rfl⟩, hh, hta⟩ := hp
  walk_at "ev"
  refine ⟨rfl, ?_⟩
  by_cases ew : ((w' : Nat) : Int) = (l : Nat)
  · rw [if_pos ew]
    obtain rfl : w' = l := by omega
    obtain ⟨_, et⟩ := pcs_tail b5 b1 hj
    rw [et] at hta
    have npP : pa ∉ Ps := hh.1.tb.not hh.2.1 fun _ z => by cases z
    have okx : ∀ x ∈ pcs (chs t) w' m w' b, PyData.strOk x = true := fun x hx => (pcs_AB t2 b5 b1 x hx).ok
    refine ⟨ta, _, rfl, .inr (SqT_of hta), fun q1 hq1 => ?_⟩
    have g1 := (Gw.refl hh.1.tb).new (o := .lst (((pcs (chs t) w' m w' b).drop (j + 1)).map V.str)) hq1
    refine ⟨pa, _, rfl, SqL.of (g1.2 _ _ npP hh.2.1), fun q2 hq2 => ?_⟩
    have ej : ((j : Nat) : Int) + 1 = ((j + 1 : Nat) : Int) := by omega
    rw [ej, cutV_drop, ← List.map_drop]
    have nq : q1 ≠ q2 := (upd_none hq2).2.symm
    refine rNe_lS (ns := (pcs (chs t) w' m w' b).drop (j + 1)) (ms := (pcs (chs t) w' m w' b).drop (j + 1)) (fun x hx => okx x (List.mem_of_mem_drop hx)) (fun x hx => okx x (List.mem_of_mem_drop hx)) (SqL.of (by rw [upd_ne nq]; exact upd_same)) (SqL.of upd_same) ⟨_, rfl, ?_⟩
    rw [if_neg (by simp)]
    exact hn _ _ ⟨pa, pl, ⟨_, _, _, _, _, _, _, _, _, _, _, _, _, _, _, rfl⟩, hh.gw (g1.new hq2)⟩
  · rw [if_neg ew]
    exact hn _ _ ⟨pa, pl, ⟨_, _, _, _, _, _, _, _, _, _, _, _, _, _, _, rfl⟩, hh⟩
end
end K2

set_option maxRecDepth 100000
set_option maxHeartbeats 4000000
namespace K2
open PySem PySem.Spec PyProof.Rows L2
open XT (pt_chain3)
open SkE (pmk_own1)
local macro_rules | `(tactic| walk_at "ev") => `(tactic| simp only [tSeq, tIfS, tNot, XT.tChain3, rI0, tC, tVar, tRet, tTup, tLst, tCons, tNil, tJs, tFmt, tNext, tTest, tOp, tUn, rI, rU, tCall, tCB, tAnd, tOr, tB, tDrop, tAsg, gName, tAug, tPar, ipI, tBM, rAppend, tSl, rSlS, tPart, tNoPart, tIf, tM1, rEq, rNe, L2.start, List.map_cons, List.map_nil, List.length_cons, List.length_nil, Nat.reduceAdd, Nat.reduceSub, Nat.sub_self, List.replicate_zero, List.append_nil, List.replicate_succ, List.cons_append, List.nil_append,
  List.getElem?_cons_zero, List.getElem?_cons_succ, Option.some.injEq, exists_eq_left', exists_eq_left, V.int.injEq, V.str.injEq, V.bl.injEq, V.ref.injEq, List.set_cons_zero, List.set_cons_succ, List.cons.injEq, and_true, true_and, reduceCtorEq, false_and, exists_false, false_or, or_false, exists_and_left, and_assoc, decide_eq_true_eq, Bool.not_eq_true', decide_eq_false_iff_not, Bool.not_false, Bool.not_true, if_true, if_false, Bool.false_eq_true, ↓reduceIte])
open XT (Sm pe_msg)

open LamX (Tabs TabS CodeO ExtN codeO_ne)
section
variable {P : Program} {w : World} {K : PySem.W.Frag} {mg : Str → Option Value} {base : Heap} {C : Addr} {Ps : List Addr}
variable {f c d : Addr} {k : Nat} {A : Around} {outer : List Env} {s : Shared} {H0 HB : Hp} {E : XK}
theorem codeO_lst {c0 : Addr} {q : Str} {xs : List V} : CodeO c0 q ≠ HO.lst xs := fun z => by cases z
theorem tabs_keep {T : List (Addr × Str)} {d : Addr} {H H' : Hp} (t : Tabs T H) (nP : ∀ p ∈ T, p.1 ∉ Ps) (tb : Tb Ps H) (di : Dice H d) (kp : ∀ b o, b ∉ Ps → b ≠ d → H b = some o → H' b = some o) : Tabs T H' := fun p hp => by
  obtain ⟨ps, h1, h2, h3⟩ := t p hp
  obtain ⟨x, y, z, hd⟩ := di
  refine ⟨ps, kp _ _ (nP p hp) (fun e => by rw [e, hd] at h1; cases h1) h1, h2, fun pos cv hc => ?_⟩
  obtain ⟨c0, e1, e2⟩ := h3 pos cv hc
  exact ⟨c0, e1, kp _ _ (tb.not e2 codeO_ne) (fun e => by rw [e, hd] at e2; exact codeO_lst (Option.some.inj e2).symm) e2⟩
theorem tabs_gw {T : List (Addr × Str)} {H H' : Hp} (t : Tabs T H) (nP : ∀ p ∈ T, p.1 ∉ Ps) (tb : Tb Ps H) (g : Gw Ps H H') : Tabs T H' := fun p hp => by
  obtain ⟨ps, h1, h2, h3⟩ := t p hp
  refine ⟨ps, g.2 _ _ (nP p hp) h1, h2, fun pos cv hc => ?_⟩
  obtain ⟨c0, e1, e2⟩ := h3 pos cv hc
  exact ⟨c0, e1, g.2 _ _ (tb.not e2 codeO_ne) e2⟩
/-- the round's end -/
def PreZ (T : List (Addr × Str)) (Ps : List Addr) (d : Addr) (HB : Hp) : L2.St → Hp → Prop := fun σ H => (∃ z0 z2 z3 z4 z5 z6 z7 z8 z9 z10 z11 z12 z13 z14 z15 z16 z17 z18 z19 z20 z21 z22, σ = [z0, some (.ref d), z2, z3, z4, z5, z6, z7, z8, z9, z10, z11, z12, z13, z14, z15, z16, z17, z18, z19, z20, z21, z22]) ∧ Tabs T H ∧ Tb Ps H ∧ Dice H d ∧ ∀ b xs, b ≠ d → HB b = some (.lst xs) → H b = some (.lst xs)
theorem law18e {g pT : Addr} {fd : FuncData} {q : Str} (Z : Callees P w K mg base C Ps k) (T : Txt K mg C) (N : Nine K mg C) (TB : LamX.TabB base mg c pT) (hq : q = (LX0 P w K mg base f c A outer s H0 E).env.qual ++ "<lambda>") (nP : pT ∉ Ps) (Fg : Fun K "_law_told" "_law_told" s__law_told g fd) (mgg : mg "_law_told" = some (.ref g)) (bd : Binds K fd ["what"] [])
    (hr : Room (k + 2) (A.deeper (envOfC "law" (defScope s_law) s.heap.objs.size f (.ref c)))) {t : Str} {w' l b m : Nat} (t1 : t.length ≤ 20) (b1 : 1 ≤ l) (b4 : l ≤ 5) (b5 : l ≤ m) (b6 : m ≤ l + 4) (tbB : Tb Ps HB) (dB : Dice HB d) (tabB : Tabs [(pT, q)] HB) : Step (LX0 P w K mg base f c A outer s H0 E) (lc18 4) (Pre6 Ps d HB t w' l b m) (PreZ [(pT, q)] Ps d HB) := by
  obtain ⟨_, _, _, k1, G1⟩ := Z.cp
  subst hq
  refine ⟨_, ps_if (pt_cmpR op_ne (LX.pe_lamcall3 (TT := TT9 C) (k := k) (Ng := ["what"]) (by rfl) mgg Fg bd sc__law_told rfl (.inl rfl) (fun cdv => told9_gives N) TB rfl (List.mem_singleton.mpr rfl) (fun p hp _ => by rw [List.mem_singleton.mp hp]) hr (LamX.lamS_by (by show LamX.lamSB (defScope s_law) _ = true; decide +kernel)) rfl (fun _ _ _ _ _ => rfl)
      (fun A outer s H E f c' hr2 => pe_call G1.ok (hr2.mono k1) (by rfl) G1.g G1.kp G1.b .nil (passes_call (takes_of rfl rfl rfl rfl) (fun _ _ _ _ h => h)) (pa_cons (pe_op op_add_str (pv 2) pe_str) (pa_cons (pv 9) (pa_cons (pv 4) (pa_cons (pv 6) pa_nil)))))) pe_str (nomark _))
      (pss_one (ps_ret pe_bl)) pss_nil, fun D σ H hp hn => ?_⟩
  obtain ⟨pa, pl, ⟨z0, z7, z8, z10, z11, z13, z14, z15, z16, z17, z18, z19, z20, z21, z22, rfl⟩, hh⟩ := hp
  have hh : Hpf Ps d HB t w' l b m pa pl H := hh
  walk_at "ev"
  have sN : ∀ n : Nat, n ≤ 1000 → Sm (n : Int) := fun n h => ⟨by omega, by omega⟩
  have good := pcs_good (t := t) (w := w') (b := b) b5 b1
  have few := pcs_few (t := t) (l := l) (m := m) (w := w') (b := b)
  have ndT : pT ≠ d := fun z => by
    obtain ⟨ps, h1, _, _⟩ := tabB _ (List.mem_singleton.mpr rfl)
    obtain ⟨x, y, v, hd⟩ := dB
    rw [show (pT, (LX0 P w K mg base f c A outer s H0 E).env.qual ++ Str.ofString "<lambda>").1 = pT from rfl, z, hd] at h1
    cases h1
  have tabH : Tabs [(pT, (LX0 P w K mg base f c A outer s H0 E).env.qual ++ Str.ofString "<lambda>")] H := tabs_keep tabB (fun p hp => by rw [List.mem_singleton.mp hp]; exact nP) tbB dB hh.1.keep
  refine ⟨tabH, fun H1 _ tab1 kp => ?_⟩
  have tb1 : Tb Ps H1 := fun q hq => by
    obtain ⟨ps, h1, h2⟩ := hh.1.tb q hq
    exact ⟨ps, kp q _ (fun z => nP (by rw [← z]; exact hq)) h1, h2⟩
  have di1 : Dice H1 d := by
    obtain ⟨x, y, v, hd⟩ := hh.1.dice
    exact ⟨x, y, v, kp _ _ ndT.symm hd⟩
  have npT : pa ≠ pT := fun z => by
    obtain ⟨ps, h1, _, _⟩ := tabH _ (List.mem_singleton.mpr rfl)
    have h2 := hh.2.1
    rw [z] at h2
    have h1 : H pT = some (.tbl ps) := h1
    rw [h2] at h1
    cases h1
  have hp1 := kp _ _ npT hh.2.1
  unfold TT9
  walk_at "ev"
  have lz : (Str.ofString "z").length = 1 := rfl
  refine ⟨Nat.le_trans (show t.length + (Str.ofString "z").length ≤ 21 by omega) (by decide), t ++ Str.ofString "z", pa, _, _, _, rfl, by rw [len_app, lz]; omega, SqL.of hp1, by omega, fun x hx => ?_, sN l (by omega), sN m (by omega), tb1, fun _ H2 g2 => ⟨rfl, ?_⟩, fun z => ?_⟩
  · have := good.2.2.2 x hx
    omega
  · refine ⟨rfl, ?_⟩
    rw [if_neg (fun z => z rfl)]
    refine hn _ _ ⟨⟨_, _, _, _, _, _, _, _, _, _, _, _, _, _, _, _, _, _, _, _, _, _, rfl⟩, tabs_gw tab1 (fun p hp => by rw [List.mem_singleton.mp hp]; exact nP) tb1 g2, g2.1, ?_, fun b' xs nb hb => ?_⟩
    · obtain ⟨x, y, v, hd⟩ := di1
      exact ⟨x, y, v, g2.2 _ _ (tb1.not hd fun _ z => by cases z) hd⟩
    · have h1 := hh.1.keep _ _ (tbB.not hb fun _ z => by cases z) nb hb
      have nT : b' ≠ pT := fun z => by
        obtain ⟨ps, h3, _, _⟩ := tabH _ (List.mem_singleton.mpr rfl)
        have h3 : H pT = some (.tbl ps) := h3
        rw [z, h3] at h1
        cases h1
      have h2 := kp _ _ nT h1
      exact g2.2 _ _ (tb1.not h2 fun _ z => by cases z) h2
  · have e := z.1
    rw [good.1, chs_append] at e
    have := congrArg List.length e
    rw [List.length_append] at this
    have lz2 : (chs (Str.ofString "z")).length = 1 := rfl
    omega
end
end K2

set_option maxRecDepth 100000
set_option maxHeartbeats 4000000
namespace K2
open PySem PySem.Spec PyProof.Rows L2
open XT (pt_chain3)
open SkE (pmk_own1)
local macro_rules | `(tactic| walk_at "ev") => `(tactic| simp only [tSeq, tIfS, tNot, XT.tChain3, rI0, tC, tVar, tRet, tTup, tLst, tCons, tNil, tJs, tFmt, tNext, tTest, tOp, tUn, rI, rU, tCall, tCB, tAnd, tOr, tB, tDrop, tAsg, gName, tAug, tPar, ipI, tBM, rAppend, tSl, rSlS, tPart, tNoPart, tIf, tM1, rEq, rNe, L2.start, List.map_cons, List.map_nil, List.length_cons, List.length_nil, Nat.reduceAdd, Nat.reduceSub, Nat.sub_self, List.replicate_zero, List.append_nil, List.replicate_succ, List.cons_append, List.nil_append,
  List.getElem?_cons_zero, List.getElem?_cons_succ, Option.some.injEq, exists_eq_left', exists_eq_left, V.int.injEq, V.str.injEq, V.bl.injEq, V.ref.injEq, List.set_cons_zero, List.set_cons_succ, List.cons.injEq, and_true, true_and, reduceCtorEq, false_and, exists_false, false_or, or_false, exists_and_left, and_assoc, decide_eq_true_eq, Bool.not_eq_true', decide_eq_false_iff_not, Bool.not_false, Bool.not_true, if_true, if_false, Bool.false_eq_true, ↓reduceIte])
open XT (Sm pe_msg)

open LamX (Tabs TabS CodeO ExtN codeO_ne)
section
variable {X : Cx} {st : Stmt} {ls : List Stmt} {Post : L2.St → Hp → Prop}
theorem Step.ex {α : Type} {Pre : α → L2.St → Hp → Prop} (h : ∀ a, Step X st (Pre a) Post) : Step X st (fun σ H => ∃ a, Pre a σ H) Post :=
  ⟨fun D σ H => ∃ a, Classical.choose (h a) D σ H, ⟨fun pins s σ H D I ⟨a, ha⟩ => (Classical.choose_spec (h a)).1.run pins s σ H D I ha⟩, fun D σ H ⟨a, hp⟩ hn => ⟨a, (Classical.choose_spec (h a)).2 D σ H hp hn⟩⟩
theorem Steps.ex {α : Type} {Pre : α → L2.St → Hp → Prop} (h : ∀ a, Steps X ls (Pre a) Post) : Steps X ls (fun σ H => ∃ a, Pre a σ H) Post :=
  ⟨fun D σ H => ∃ a, Classical.choose (h a) D σ H, ⟨fun pins s σ H D I ⟨a, ha⟩ => (Classical.choose_spec (h a)).1.run pins s σ H D I ha⟩, fun D σ H ⟨a, hp⟩ hn => ⟨a, (Classical.choose_spec (h a)).2 D σ H hp hn⟩⟩
theorem Steps.all {α : Type} {Pre Pos : α → L2.St → Hp → Prop} (h : ∀ a, Steps X ls (Pre a) (Pos a)) : ∃ t, PSs X ls t ∧ ∀ a D σ H, Pre a σ H → (∀ σ' H', Pos a σ' H' → D.nx σ' H') → t D σ H :=
  ⟨fun D σ H => ∃ a, Classical.choose (h a) D σ H, ⟨fun pins s σ H D I ⟨a, ha⟩ => (Classical.choose_spec (h a)).1.run pins s σ H D I ha⟩, fun a D σ H hp hn => ⟨a, (Classical.choose_spec (h a)).2 D σ H hp hn⟩⟩
theorem Steps.of {φ : Prop} {Pre : L2.St → Hp → Prop} (h : φ → Steps X ls Pre Post) : Steps X ls (fun σ H => φ ∧ Pre σ H) Post :=
  ⟨fun D σ H => ∃ a, Classical.choose (h a) D σ H, ⟨fun pins s σ H D I ⟨a, ha⟩ => (Classical.choose_spec (h a)).1.run pins s σ H D I ha⟩, fun D σ H ⟨a, hp⟩ hn => ⟨a, (Classical.choose_spec (h a)).2 D σ H hp hn⟩⟩
end
section
variable {P : Program} {w : World} {K : PySem.W.Frag} {mg : Str → Option Value} {base : Heap} {C : Addr} {Ps : List Addr}
variable {f c d : Addr} {k : Nat} {A : Around} {outer : List Env} {s : Shared} {H0 HB : Hp} {E : XK}
theorem law18 {g pT : Addr} {fd : FuncData} {q : Str} (Z : Callees P w K mg base C Ps k) (T : Txt K mg C) (N : Nine K mg C) (TB : LamX.TabB base mg c pT) (hq : q = (LX0 P w K mg base f c A outer s H0 E).env.qual ++ "<lambda>") (nP : pT ∉ Ps) (Fg : Fun K "_law_told" "_law_told" s__law_told g fd) (mgg : mg "_law_told" = some (.ref g)) (bd : Binds K fd ["what"] [])
    (hr : Room (k + 2) (A.deeper (envOfC "law" (defScope s_law) s.heap.objs.size f (.ref c)))) {t : Str} {w' l b m : Nat} (t1 : t.length ≤ 20) (t2 : AB t) (b1 : 1 ≤ w') (b2 : w' ≤ 3) (b3 : w' ≤ l) (b4 : l ≤ w' + 2) (b5 : l ≤ m) (b6 : m ≤ l + 4) (b7 : 1 ≤ b) (b8 : b ≤ 5) (tbB : Tb Ps HB) (dB : Dice HB d) (tabB : Tabs [(pT, q)] HB) : Step (LX0 P w K mg base f c A outer s H0 E) (lb 18) (Pre6 Ps d HB t w' l b m) (PreZ [(pT, q)] Ps d HB) := by
  have hr0 := hr.mono (show k ≤ k + 2 by omega)
  have body : Steps (LX0 P w K mg base f c A outer s H0 E) [lc18 0, lc18 1, lc18 2, lc18 3, lc18 4] (fun σ H => pcs (chs t) l m w' b ≠ [] ∧ Pre6 Ps d HB t w' l b m σ H) (PreZ [(pT, q)] Ps d HB) := by
    refine Steps.of fun ne => ?_
    refine Steps.cons (law18a Z T hr0 t1 ne) ?_
    refine Steps.ex fun j => Steps.of fun hj => ?_
    have hj2 : lenN (pcs (chs t) l m w' b) (j + 1) ≤ t.length := by
      have good := (pcs_good (t := t) (w := w') (b := b) b5 (show 1 ≤ l by omega)).1
      have lall : ((pcs (chs t) l m w' b).map Str.length).sum = t.length := by rw [lens_flat, good, chs_len]
      rw [← lall]
      unfold lenN
      have := congrArg List.sum (congrArg (List.map Str.length) (List.take_append_drop (j + 1) (pcs (chs t) l m w' b)))
      rw [List.map_append, List.sum_append] at this
      omega
    refine Steps.cons (law18b T hj) ?_
    refine Steps.cons (law18c Z T hr0 t1 t2 b1 b2 b3 (by omega) b5 b6 b7 b8 hj2) ?_
    refine Steps.cons (law18d T hr0 t1 t2 b1 b3 b5 hj) ?_
    exact Steps.one (law18e Z T N TB hq nP Fg mgg bd hr t1 (by omega) (by omega) b5 b6 tbB dB tabB)
  obtain ⟨tb, hb, kb⟩ := body
  refine ⟨_, ps_if (pt_cmpR (r := rNeD K) (op_neK rfl hr0.units) (pv 9) (pe_lst pa_nil) (nomark _)) hb pss_nil, fun D σ H hp hn => ?_⟩
  have hp0 := hp
  obtain ⟨pa, pl, ⟨z0, z7, z8, z10, z11, z13, z14, z15, z16, z17, z18, z19, z20, z21, z22, rfl⟩, hh⟩ := hp
  have hh : Hpf Ps d HB t w' l b m pa pl H := hh
  walk_at "ev"
  refine ⟨by decide, fun p hp => ?_⟩
  have npP : pa ∉ Ps := hh.1.tb.not hh.2.1 fun _ z => by cases z
  have g1 := (Gw.refl hh.1.tb).new (o := .lst []) hp
  have okx : ∀ x ∈ pcs (chs t) l m w' b, PyData.strOk x = true := fun x hx => (pcs_AB t2 b5 (by omega) x hx).ok
  have h2 := hh.gw g1
  refine rNe_lS (ns := pcs (chs t) l m w' b) (ms := []) okx (fun x hx => nomatch hx) (SqL.of (g1.2 _ _ npP hh.2.1)) (SqL.of upd_same) ⟨_, rfl, ?_⟩
  by_cases ne : pcs (chs t) l m w' b = []
  · rw [if_neg (by simp [ne])]
    exact hn _ _ ⟨⟨_, _, _, _, _, _, _, _, _, _, _, _, _, _, _, _, _, _, _, _, _, _, rfl⟩, tabs_keep tabB (fun p hp => by rw [List.mem_singleton.mp hp]; exact nP) tbB dB h2.1.keep, h2.1.tb, h2.1.dice, fun b' xs nb hb => h2.1.keep _ _ (tbB.not hb fun _ z => by cases z) nb hb⟩
  · rw [if_pos (by simp [ne])]
    exact kb D _ _ ⟨ne, pa, pl, ⟨_, _, _, _, _, _, _, _, _, _, _, _, _, _, _, rfl⟩, h2⟩ hn
/-- one round -/
theorem law_round {g pT : Addr} {fd : FuncData} {q : Str} (Z : Callees P w K mg base C Ps k) (T : Txt K mg C) (N : Nine K mg C) (TB : LamX.TabB base mg c pT) (hq : q = (LX0 P w K mg base f c A outer s H0 E).env.qual ++ "<lambda>") (nP : pT ∉ Ps) (Fg : Fun K "_law_told" "_law_told" s__law_told g fd) (mgg : mg "_law_told" = some (.ref g)) (bd : Binds K fd ["what"] [])
    (hr : Room (k + 2) (A.deeper (envOfC "law" (defScope s_law) s.heap.objs.size f (.ref c)))) (tbB : Tb Ps HB) (dB : Dice HB d) (tabB : Tabs [(pT, q)] HB) : Steps (LX0 P w K mg base f c A outer s H0 E) [lb 0, lb 1, lb 2, lb 3, lb 4, lb 5, lb 6, lb 7, lb 8, lb 9, lb 10, lb 11, lb 12, lb 13, lb 14, lb 15, lb 16, lb 17, lb 18] (Pre0 Ps d HB) (PreZ [(pT, q)] Ps d HB) := by
  have hr0 := hr.mono (show k ≤ k + 2 by omega)
  refine Steps.cons (law0 Z T hr0 (fun z => by obtain ⟨x, y, v, hd⟩ := dB; rw [z] at hd; cases hd)) ?_
  refine Steps.ex fun t => Steps.ex fun w' => Steps.of fun t1 => Steps.of fun t2 => Steps.of fun b1 => Steps.of fun b2 => ?_
  refine Steps.cons (law1 Z T hr0) ?_
  refine Steps.ex fun l => Steps.ex fun b => Steps.of fun b3 => Steps.of fun b4 => Steps.of fun b7 => Steps.of fun b8 => ?_
  refine Steps.cons (law2 Z T hr0) ?_
  refine Steps.ex fun m => Steps.of fun b5 => Steps.of fun b6 => ?_
  refine Steps.cons (law3 Z T hr0 t1 t2 b1 b2 b3 b4 b5 b6) ?_
  refine Steps.cons (law4 T) ?_
  refine Steps.cons (law5 T t1 t2 b1 b2 b3 b4 b5 b6 b7 b8) ?_
  refine Steps.cons (law6 T t1 t2 b5) ?_
  refine Steps.cons (law7 Z T hr0 t1 t2 b1 b2 b3 b4 b5 b6 b7 b8) ?_
  refine Steps.cons (law8 T t1 t2 b1 b3 (by omega) b5 b6) ?_
  refine Steps.cons (law9 Z T hr0 t1 b1 b3 (by omega) b5 b6) ?_
  refine Steps.cons (law10 Z T hr0) ?_
  refine Steps.ex fun z => Steps.of fun z1 => Steps.of fun z2 => ?_
  refine Steps.cons (law11 Z T hr0 t1 t2 z1 z2) ?_
  refine Steps.cons (law12 Z T hr0 t1 t2) ?_
  refine Steps.ex fun o => Steps.of fun o1 => Steps.of fun o2 => ?_
  refine Steps.cons (law13 Z T hr0 o1 o2) ?_
  refine Steps.ex fun o' => Steps.of fun o3 => Steps.of fun o4 => ?_
  refine Steps.cons (law14 Z T hr0 o3 o4 b1 b2 b3 (by omega) b5 b6 b7 b8) ?_
  refine Steps.cons (law15 Z T hr0 t1 o3 b1 b3 (by omega) b5 b6) ?_
  refine Steps.cons (law16 Z T hr0 t1 t2 o3 o4 b1 b3 (by omega) b5 b6) ?_
  refine Steps.cons (law17 Z T hr0 t1 o3) ?_
  exact Steps.one (law18 Z T N TB hq nP Fg mgg bd hr t1 t2 b1 b2 b3 b4 b5 b6 b7 b8 tbB dB tabB)
theorem round_is : forB (lawS 0) = [lb 0, lb 1, lb 2, lb 3, lb 4, lb 5, lb 6, lb 7, lb 8, lb 9, lb 10, lb 11, lb 12, lb 13, lb 14, lb 15, lb 16, lb 17, lb 18] := rfl
/-- between the loops -/
def PreE (T : List (Addr × Str)) (Ps : List Addr) : L2.St → Hp → Prop := fun σ H => (∃ z0 z1 z2 z3 z4 z5 z6 z7 z8 z9 z10 z11 z12 z13 z14 z15 z16 z17 z18 z19 z20 z21 z22, σ = [z0, z1, z2, z3, z4, z5, z6, z7, z8, z9, z10, z11, z12, z13, z14, z15, z16, z17, z18, z19, z20, z21, z22]) ∧ Tabs T H ∧ Tb Ps H
def PreS (K : PySem.W.Frag) (T : List (Addr × Str)) (Ps : List Addr) : L2.St → Hp → Prop := fun σ H => ∃ (a : Addr) (ns : List Int), (∃ z1 z2 z3 z4 z5 z6 z7 z8 z9 z10 z11 z12 z13 z14 z15 z16 z17 z18 z19 z20 z21 z22, σ = [some (.ref a), z1, z2, z3, z4, z5, z6, z7, z8, z9, z10, z11, z12, z13, z14, z15, z16, z17, z18, z19, z20, z21, z22]) ∧ SqL K H a (ns.map V.int) ∧ Tabs T H ∧ Tb Ps H
theorem law_for {g pT : Addr} {fd : FuncData} {q : Str} (Z : Callees P w K mg base C Ps k) (T : Txt K mg C) (N : Nine K mg C) (TB : LamX.TabB base mg c pT) (hq : q = (LX0 P w K mg base f c A outer s H0 E).env.qual ++ "<lambda>") (nP : pT ∉ Ps) (Fg : Fun K "_law_told" "_law_told" s__law_told g fd) (mgg : mg "_law_told" = some (.ref g)) (bd : Binds K fd ["what"] [])
    (hr : Room (k + 2) (A.deeper (envOfC "law" (defScope s_law) s.heap.objs.size f (.ref c)))) : Step (LX0 P w K mg base f c A outer s H0 E) (lawS 0) (PreS K [(pT, q)] Ps) (PreE [(pT, q)] Ps) := by
  obtain ⟨_, _, _, k1, G1⟩ := Z.rounds
  have hr0 := hr.mono (show k ≤ k + 2 by omega)
  have body := Steps.all (X := LX0 P w K mg base f c A outer s H0 E) (ls := forB (lawS 0)) (α := Addr × Hp) (Pre := fun y σ H => (Tb Ps y.2 ∧ Dice y.2 y.1 ∧ Tabs [(pT, q)] y.2) ∧ Pre0 Ps y.1 y.2 σ H) (Pos := fun y => PreZ [(pT, q)] Ps y.1 y.2) (fun y => by
    rw [round_is]
    exact Steps.of fun hy => law_round (HB := y.2) (d := y.1) Z T N TB hq nP Fg mgg bd hr hy.1 hy.2.1 hy.2.2)
  obtain ⟨tb, hb, kb⟩ := body
  refine ⟨_, ps_for (passes_of rfl) rfl (pi_list (pe_call G1.ok (hr0.mono k1) (by rfl) G1.g G1.kp G1.b .nil passF (pa_cons (pv 0) (pa_cons pe_int pa_nil)))) (pg_name (i := 1) sc_law.nd rfl (.inl rfl)) hb, fun D σ H hp hn => ?_⟩
  obtain ⟨a, ns, ⟨z1, z2, z3, z4, z5, z6, z7, z8, z9, z10, z11, z12, z13, z14, z15, z16, z17, z18, z19, z20, z21, z22, rfl⟩, ha, tab, tb0⟩ := hp
  refine ⟨_, rfl, a, ns, rfl, ha, tb0, fun H1 p d g1 hp hd ndp hl di => ?_⟩
  have tab1 : Tabs [(pT, q)] H1 := tabs_gw tab (fun p hp => by rw [List.mem_singleton.mp hp]; exact nP) tb0 g1
  refine ⟨p, rfl, ⟨_, SqL.of hl⟩, for_list (xs := [.ref d]) (fun i σ H' => (i = 0 → (∃ z1 z2 z3 z4 z5 z6 z7 z8 z9 z10 z11 z12 z13 z14 z15 z16 z17 z18 z19 z20 z21 z22, σ = [some (.ref a), z1, z2, z3, z4, z5, z6, z7, z8, z9, z10, z11, z12, z13, z14, z15, z16, z17, z18, z19, z20, z21, z22]) ∧ H' = H1) ∧ (i = 1 → PreZ [(pT, q)] Ps d H1 σ H')) ⟨fun _ => ⟨⟨_, _, _, _, _, _, _, _, _, _, _, _, _, _, _, _, _, _, _, _, _, _, rfl⟩, rfl⟩, fun z => by cases z⟩ ?_ ?_ ?_⟩
  · intro i σ H' hi hP
    have h01 : i = 0 ∨ i = 1 := by
      have : i ≤ 1 := hi
      omega
    rcases h01 with e | e
    · obtain ⟨_, h2⟩ := hP.1 e
      rw [h2]
      exact SqL.of hl
    · obtain ⟨_, _, _, _, h5⟩ := hP.2 e
      exact SqL.of (h5 p _ ndp.symm hl)
  · intro i x σ H' hx hP
    cases i with
    | succ i => simp at hx
    | zero =>
      obtain rfl : V.ref d = x := Option.some.inj hx
      obtain ⟨⟨z1, z2, z3, z4, z5, z6, z7, z8, z9, z10, z11, z12, z13, z14, z15, z16, z17, z18, z19, z20, z21, z22, rfl⟩, rfl⟩ := hP.1 rfl
      refine kb (d, H') _ _ _ ⟨⟨g1.1, di, tab1⟩, ⟨_, _, _, _, _, _, _, _, _, _, _, _, _, _, _, _, _, _, _, _, _, _, rfl⟩, Gd.refl g1.1 di⟩ fun σ' H2 hz => ⟨(fun z => absurd z (by omega)), fun _ => hz⟩
  · intro σ H' hP
    obtain ⟨⟨z0, z2, z3, z4, z5, z6, z7, z8, z9, z10, z11, z12, z13, z14, z15, z16, z17, z18, z19, z20, z21, z22, rfl⟩, h2, h3, _, _⟩ := hP.2 rfl
    exact hn _ _ ⟨⟨_, _, _, _, _, _, _, _, _, _, _, _, _, _, _, _, _, _, _, _, _, _, _, rfl⟩, h2, h3⟩
end
end K2

set_option maxRecDepth 100000
set_option maxHeartbeats 4000000
namespace K2
open PySem PySem.Spec PyProof.Rows L2
open XT (pt_chain3)
open SkE (pmk_own1)
local macro_rules | `(tactic| walk_at "ev") => `(tactic| simp only [tSeq, tIfS, tNot, XT.tChain3, rI0, tC, tVar, tRet, tTup, tLst, tCons, tNil, tJs, tFmt, tNext, tTest, tOp, tUn, rI, rU, tCall, tCB, tAnd, tOr, tB, tDrop, tAsg, gName, tAug, tPar, ipI, tBM, rAppend, tSl, rSlS, tPart, tNoPart, tIf, tM1, rEq, rNe, L2.start, List.map_cons, List.map_nil, List.length_cons, List.length_nil, Nat.reduceAdd, Nat.reduceSub, Nat.sub_self, List.replicate_zero, List.append_nil, List.replicate_succ, List.cons_append, List.nil_append,
  List.getElem?_cons_zero, List.getElem?_cons_succ, Option.some.injEq, exists_eq_left', exists_eq_left, V.int.injEq, V.str.injEq, V.bl.injEq, V.ref.injEq, List.set_cons_zero, List.set_cons_succ, List.cons.injEq, and_true, true_and, reduceCtorEq, false_and, exists_false, false_or, or_false, exists_and_left, and_assoc, decide_eq_true_eq, Bool.not_eq_true', decide_eq_false_iff_not, Bool.not_false, Bool.not_true, if_true, if_false, Bool.false_eq_true, ↓reduceIte])
open XT (Sm pe_msg)

open LamX (Tabs TabS CodeO ExtN codeO_ne)
section
variable {P : Program} {w : World} {K : PySem.W.Frag} {mg : Str → Option Value} {base : Heap} {C : Addr} {Ps : List Addr}
variable {f c d : Addr} {k : Nat} {A : Around} {outer : List Env} {s : Shared} {H0 HB : Hp} {E : XK}
/-- what isn't the law's own table stays -/
structure Gt (T : List (Addr × Str)) (Ps : List Addr) (pT : Addr) (H H' : Hp) : Prop where
  keep : ∀ b o, b ≠ pT → H b = some o → H' b = some o
  tab : Tabs T H'
  tb : Tb Ps H'
theorem Gt.trans {T : List (Addr × Str)} {pT : Addr} {H H1 H2 : Hp} (g : Gt T Ps pT H H1) (h : Gt T Ps pT H1 H2) : Gt T Ps pT H H2 := ⟨fun b o n e => h.keep b o n (g.keep b o n e), h.tab, h.tb⟩
theorem Gt.refl {T : List (Addr × Str)} {pT : Addr} {H : Hp} (t : Tabs T H) (b : Tb Ps H) : Gt T Ps pT H H := ⟨fun _ _ _ e => e, t, b⟩
theorem Gt.new {q : Str} {pT : Addr} {H H1 : Hp} {l : Addr} {o : HO} (nP : pT ∉ Ps) (g : Gt [(pT, q)] Ps pT H H1) (n : H1 l = none) : Gt [(pT, q)] Ps pT H (upd H1 l o) := by
  have gw := (Gw.refl g.tb).new (o := o) n
  exact ⟨fun b u nb e => by
    have e' := g.keep b u nb e
    rw [upd_ne (ne_of_none e' n)]
    exact e', tabs_gw g.tab (fun p hp => by rw [List.mem_singleton.mp hp]; exact nP) g.tb gw, gw.1⟩
/-- (lambda: .., word) -/
theorem pairStep {q : Str} {pT : Addr} {mk : Addr → LX.LF} {wd : Str} {σ : L2.St} {G : Hp} {Q : VK} (nP : pT ∉ Ps) (tab : Tabs [(pT, q)] G) (tb : Tb Ps G)
    (h : ∀ p f c' G', Gt [(pT, q)] Ps pT G G' → p ≠ pT → f ≠ pT → c' ≠ pT → G' p = some (.tup [.ref f, .str wd]) → G' f = some (LX.LamO f (mk c')) → G' c' = some (CodeO c' (mk c').qual) → Q (.ref p) G') : tTup (tCons (LX.tLamV [(pT, q)] pT mk) (tCons (tC (.str wd)) tNil)) σ G Q := by
  refine ⟨tab, fun f c' H1 eN t1 f0 f1 c1 nn kp => ⟨(show 2 ≤ sizeLine by decide), fun p hp => ?_⟩⟩
  have tb1 : Tb Ps H1 := fun q hq => by
    obtain ⟨ps, h1, h2⟩ := tb q hq
    exact ⟨ps, kp q _ (fun z => nP (by rw [← z]; exact hq)) h1, h2⟩
  have g1 : Gt [(pT, q)] Ps pT G H1 := ⟨kp, t1, tb1⟩
  obtain ⟨ps, hT, _, _⟩ := t1 _ (List.mem_singleton.mpr rfl)
  have hT : H1 pT = some (.tbl ps) := hT
  have npT : p ≠ pT := fun z => by
    rw [z, hT] at hp
    cases hp
  have nfT : f ≠ pT := fun z => by
    rw [z, hT] at f1
    cases f1
  have ncT : c' ≠ pT := fun z => by
    rw [z, hT] at c1
    exact codeO_ne _ (Option.some.inj c1).symm
  refine h p f c' _ (g1.new nP hp) npT nfT ncT upd_same ?_ ?_
  · rw [upd_ne (ne_of_none f1 hp)]
    exact f1
  · rw [upd_ne (ne_of_none c1 hp)]
    exact c1
/-- one of the wrong ones stands at p -/
def WrongAt (P : Program) (w : World) (K : PySem.W.Frag) (mg : Str → Option Value) (base : Heap) (k : Nat) (C : Addr) (Ps : List Addr) (H : Hp) (p : Addr) : Prop := ∃ f L tl, H p = some (.tup [.ref f, .str (Str.ofString "size")]) ∧ H f = some (LX.LamO f L) ∧ H L.c = some (CodeO L.c L.qual) ∧ LX.LamOk P w K mg base k L tl ∧
  ∀ (Q : VK) (H1 : Hp), Tb Ps H1 → (∀ H2, Gw Ps H1 H2 → Q (.str (Str.ofString "size")) H2) → tl (E9 C Q) H1 Q
def PreW (P : Program) (w : World) (K : PySem.W.Frag) (mg : Str → Option Value) (base : Heap) (k : Nat) (C : Addr) (Ps : List Addr) : L2.St → Hp → Prop := fun σ H => ∃ (a : Addr) (ps : List Addr), (∃ z0 z1 z2 z3 z4 z5 z6 z7 z8 z9 z10 z11 z12 z13 z14 z15 z16 z17 z18 z19 z20 z22, σ = [z0, z1, z2, z3, z4, z5, z6, z7, z8, z9, z10, z11, z12, z13, z14, z15, z16, z17, z18, z19, z20, some (.ref a), z22]) ∧ Tb Ps H ∧ H a = some (.lst (ps.map V.ref)) ∧ ∀ p ∈ ps, WrongAt P w K mg base k C Ps H p
theorem consStep {a : TE} {u : TA} {σ : L2.St} {H : Hp} {Q : List V → Hp → Prop} (h : a σ H fun v H1 => u σ H1 fun vs H2 => Q (v :: vs) H2) : tCons a u σ H Q := h
theorem asgStep {t : TA} {g : TG} {D : L2.Ends} {σ : L2.St} {H : Hp} (h : t σ H fun vs H1 => vs.length ≤ sizeLine ∧ ∀ p, H1 p = none → g (.ref p) σ (upd H1 p (.lst vs)) D.nx) : tAsg (tLst t) g D σ H := h
theorem law_wrong {pT : Addr} {q : Str} (Z : Callees P w K mg base C Ps k) (TB : LamX.TabB base mg c pT) (hq : q = (LX0 P w K mg base f c A outer s H0 E).env.qual ++ "<lambda>") (nP : pT ∉ Ps) : Step (LX0 P w K mg base f c A outer s H0 E) (lawS 1) (PreE [(pT, q)] Ps) (PreW P w K mg base k C Ps) := by
  subst hq
  refine ⟨_, ps_set (i := 21) sc_law.nd rfl (.inl rfl) (pe_lst (pa_cons (pe_tup (pa_cons (LX.pe_lam TB rfl (List.mem_singleton.mpr rfl) (fun p hp _ => by rw [List.mem_singleton.mp hp]) (LamX.lamS_by (by show LamX.lamSB (defScope s_law) _ = true; decide +kernel))) (pa_cons pe_str pa_nil)))
    (pa_cons (pe_tup (pa_cons (LX.pe_lam TB rfl (List.mem_singleton.mpr rfl) (fun p hp _ => by rw [List.mem_singleton.mp hp]) (LamX.lamS_by (by show LamX.lamSB (defScope s_law) _ = true; decide +kernel))) (pa_cons pe_str pa_nil)))
    (pa_cons (pe_tup (pa_cons (LX.pe_lam TB rfl (List.mem_singleton.mpr rfl) (fun p hp _ => by rw [List.mem_singleton.mp hp]) (LamX.lamS_by (by show LamX.lamSB (defScope s_law) _ = true; decide +kernel))) (pa_cons pe_str pa_nil)))
    (pa_cons (pe_tup (pa_cons (LX.pe_lam TB rfl (List.mem_singleton.mpr rfl) (fun p hp _ => by rw [List.mem_singleton.mp hp]) (LamX.lamS_by (by show LamX.lamSB (defScope s_law) _ = true; decide +kernel))) (pa_cons pe_str pa_nil)))
    (pa_cons (pe_tup (pa_cons (LX.pe_lam TB rfl (List.mem_singleton.mpr rfl) (fun p hp _ => by rw [List.mem_singleton.mp hp]) (LamX.lamS_by (by show LamX.lamSB (defScope s_law) _ = true; decide +kernel))) (pa_cons pe_str pa_nil)))
    (pa_cons (pe_tup (pa_cons (LX.pe_lam TB rfl (List.mem_singleton.mpr rfl) (fun p hp _ => by rw [List.mem_singleton.mp hp]) (LamX.lamS_by (by show LamX.lamSB (defScope s_law) _ = true; decide +kernel))) (pa_cons pe_str pa_nil)))
    (pa_cons (pe_tup (pa_cons (LX.pe_lam TB rfl (List.mem_singleton.mpr rfl) (fun p hp _ => by rw [List.mem_singleton.mp hp]) (LamX.lamS_by (by show LamX.lamSB (defScope s_law) _ = true; decide +kernel))) (pa_cons pe_str pa_nil)))
    (pa_cons (pe_tup (pa_cons (LX.pe_lam TB rfl (List.mem_singleton.mpr rfl) (fun p hp _ => by rw [List.mem_singleton.mp hp]) (LamX.lamS_by (by show LamX.lamSB (defScope s_law) _ = true; decide +kernel))) (pa_cons pe_str pa_nil)))
    (pa_cons (pe_tup (pa_cons (LX.pe_lam TB rfl (List.mem_singleton.mpr rfl) (fun p hp _ => by rw [List.mem_singleton.mp hp]) (LamX.lamS_by (by show LamX.lamSB (defScope s_law) _ = true; decide +kernel))) (pa_cons pe_str pa_nil))) pa_nil)))))))))), fun D σ H hp hn => ?_⟩
  obtain ⟨⟨z0, z1, z2, z3, z4, z5, z6, z7, z8, z9, z10, z11, z12, z13, z14, z15, z16, z17, z18, z19, z20, z21, z22, rfl⟩, tab, tb⟩ := hp
  obtain ⟨_, _, _, k1, G1⟩ := Z.cb
  obtain ⟨_, _, _, k2, G2⟩ := Z.even
  obtain ⟨_, _, _, k3, G3⟩ := Z.sums
  obtain ⟨_, _, _, k4, G4⟩ := Z.told
  obtain ⟨_, _, _, k5, G5⟩ := Z.cp
  refine asgStep (consStep (pairStep nP tab tb fun p1 f1 c1 H1 g1 n1 n1' n1'' a1 l1 d1 => ?_))
  refine consStep (pairStep nP g1.tab g1.tb fun p2 f2 c2 H2 g2 n2 n2' n2'' a2 l2 d2 => ?_)
  refine consStep (pairStep nP g2.tab g2.tb fun p3 f3 c3 H3 g3 n3 n3' n3'' a3 l3 d3 => ?_)
  refine consStep (pairStep nP g3.tab g3.tb fun p4 f4 c4 H4 g4 n4 n4' n4'' a4 l4 d4 => ?_)
  refine consStep (pairStep nP g4.tab g4.tb fun p5 f5 c5 H5 g5 n5 n5' n5'' a5 l5 d5 => ?_)
  refine consStep (pairStep nP g5.tab g5.tb fun p6 f6 c6 H6 g6 n6 n6' n6'' a6 l6 d6 => ?_)
  refine consStep (pairStep nP g6.tab g6.tb fun p7 f7 c7 H7 g7 n7 n7' n7'' a7 l7 d7 => ?_)
  refine consStep (pairStep nP g7.tab g7.tb fun p8 f8 c8 H8 g8 n8 n8' n8'' a8 l8 d8 => ?_)
  refine consStep (pairStep nP g8.tab g8.tb fun p9 f9 c9 H9 g9 n9 n9' n9'' a9 l9 d9 => ?_)
  refine ⟨(show 9 ≤ sizeLine by decide), fun z hz => ?_⟩
  have e9 := (Gt.refl g9.tab g9.tb).new (o := .lst [.ref p1, .ref p2, .ref p3, .ref p4, .ref p5, .ref p6, .ref p7, .ref p8, .ref p9]) nP hz
  have e8 := g9.trans e9
  have e7 := g8.trans e8
  have e6 := g7.trans e7
  have e5 := g6.trans e6
  have e4 := g5.trans e5
  have e3 := g4.trans e4
  have e2 := g3.trans e3
  have e1 := g2.trans e2
  refine hn _ _ ⟨z, [p1, p2, p3, p4, p5, p6, p7, p8, p9], ⟨_, _, _, _, _, _, _, _, _, _, _, _, _, _, _, _, _, _, _, _, _, _, rfl⟩, e9.tb, upd_same, fun p hp => ?_⟩
  simp only [List.mem_cons, List.not_mem_nil, or_false] at hp
  rcases hp with rfl | rfl | rfl | rfl | rfl | rfl | rfl | rfl | rfl
  · refine ⟨f1, _, fun E H Q => tCall (sp_check_bounds C) [] E (tCons (tC (.int 2)) (tCons (tC (.int 1)) (tCons (tC (.int 1)) tNil))) [] H Q, e1.keep _ _ n1 a1, e1.keep _ _ n1' l1, e1.keep _ _ n1'' d1, ⟨rfl, rfl, rfl, (fun y hy => by rw [List.mem_singleton.mp hy]; exact ⟨by decide, by decide, by decide⟩), rfl, fun _ _ => rfl, fun A outer s H E f hr2 => pe_call G1.ok (hr2.mono k1) (by rfl) G1.g G1.kp G1.b .nil (passes_call (takes_of rfl rfl rfl rfl) (fun _ _ _ _ h => h)) (pa_cons pe_int (pa_cons pe_int (pa_cons pe_int pa_nil)))⟩, fun Q G tb0 hQ => ?_⟩
    walk_at "ev"
    exact ⟨2, 1, 1, rfl, ⟨by decide, by decide⟩, ⟨by decide, by decide⟩, ⟨by decide, by decide⟩, fun z => absurd z (by decide), fun _ => ⟨rfl, hQ G (Gw.refl tb0)⟩⟩
  · refine ⟨f2, _, fun E H Q => tCall (sp_check_bounds C) [] E (tCons (tC (.int 1)) (tCons (tC (.int 2)) (tCons (tC (.int 2)) tNil))) [] H Q, e2.keep _ _ n2 a2, e2.keep _ _ n2' l2, e2.keep _ _ n2'' d2, ⟨rfl, rfl, rfl, (fun y hy => by rw [List.mem_singleton.mp hy]; exact ⟨by decide, by decide, by decide⟩), rfl, fun _ _ => rfl, fun A outer s H E f hr2 => pe_call G1.ok (hr2.mono k1) (by rfl) G1.g G1.kp G1.b .nil (passes_call (takes_of rfl rfl rfl rfl) (fun _ _ _ _ h => h)) (pa_cons pe_int (pa_cons pe_int (pa_cons pe_int pa_nil)))⟩, fun Q G tb0 hQ => ?_⟩
    walk_at "ev"
    exact ⟨1, 2, 2, rfl, ⟨by decide, by decide⟩, ⟨by decide, by decide⟩, ⟨by decide, by decide⟩, fun z => absurd z (by decide), fun _ => ⟨rfl, hQ G (Gw.refl tb0)⟩⟩
  · refine ⟨f3, _, fun E H Q => tCall (sp_check_bounds C) [] E (tCons (tC (.int 1)) (tCons (tC (.int 1)) (tCons (tC (.int 0)) tNil))) [] H Q, e3.keep _ _ n3 a3, e3.keep _ _ n3' l3, e3.keep _ _ n3'' d3, ⟨rfl, rfl, rfl, (fun y hy => by rw [List.mem_singleton.mp hy]; exact ⟨by decide, by decide, by decide⟩), rfl, fun _ _ => rfl, fun A outer s H E f hr2 => pe_call G1.ok (hr2.mono k1) (by rfl) G1.g G1.kp G1.b .nil (passes_call (takes_of rfl rfl rfl rfl) (fun _ _ _ _ h => h)) (pa_cons pe_int (pa_cons pe_int (pa_cons pe_int pa_nil)))⟩, fun Q G tb0 hQ => ?_⟩
    walk_at "ev"
    exact ⟨1, 1, 0, rfl, ⟨by decide, by decide⟩, ⟨by decide, by decide⟩, ⟨by decide, by decide⟩, fun z => absurd z (by decide), fun _ => ⟨rfl, hQ G (Gw.refl tb0)⟩⟩
  · refine ⟨f4, _, fun E H Q => tCall (sp_even C Ps) [] E (tCons (tC (.str (Str.ofString "a"))) (tCons (tC (.int 0)) tNil)) [] H Q, e4.keep _ _ n4 a4, e4.keep _ _ n4' l4, e4.keep _ _ n4'' d4, ⟨rfl, rfl, rfl, (fun y hy => by rw [List.mem_singleton.mp hy]; exact ⟨by decide, by decide, by decide⟩), rfl, fun _ _ => rfl, fun A outer s H E f hr2 => pe_call G2.ok (hr2.mono k2) (by rfl) G2.g G2.kp G2.b .nil (passes_call (takes_of rfl rfl rfl rfl) (fun _ _ _ _ h => h)) (pa_cons pe_str (pa_cons pe_int pa_nil))⟩, fun Q G tb0 hQ => ?_⟩
    walk_at "ev"
    exact ⟨_, 0, rfl, ⟨by decide, by decide⟩, ⟨by decide, by decide⟩, tb0, fun _ => ⟨rfl, hQ G (Gw.refl tb0)⟩, fun z => absurd z (by decide)⟩
  · refine ⟨f5, _, fun E H Q => tCall (sp_sums C Ps) [] E (tCons (tC (.str (Str.ofString "a"))) (tCons (tC (.int 0)) tNil)) [] H Q, e5.keep _ _ n5 a5, e5.keep _ _ n5' l5, e5.keep _ _ n5'' d5, ⟨rfl, rfl, rfl, (fun y hy => by rw [List.mem_singleton.mp hy]; exact ⟨by decide, by decide, by decide⟩), rfl, fun _ _ => rfl, fun A outer s H E f hr2 => pe_call G3.ok (hr2.mono k3) (by rfl) G3.g G3.kp G3.b .nil (passes_call (takes_of rfl rfl rfl rfl) (fun _ _ _ _ h => h)) (pa_cons pe_str (pa_cons pe_int pa_nil))⟩, fun Q G tb0 hQ => ?_⟩
    walk_at "ev"
    exact ⟨_, 0, rfl, ⟨by decide, by decide⟩, ⟨by decide, by decide⟩, tb0, fun _ => ⟨rfl, hQ G (Gw.refl tb0)⟩, fun z => absurd z (by decide)⟩
  · refine ⟨f6, _, fun E H Q => tCall (sp_told C Ps) [] E (tCons (tC (.str (Str.ofString "a"))) (tCons (tC (.int 1)) (tCons (tC (.int 1)) (tCons (tC (.int 1)) (tCons (tC (.int 0)) tNil))))) [] H Q, e6.keep _ _ n6 a6, e6.keep _ _ n6' l6, e6.keep _ _ n6'' d6, ⟨rfl, rfl, rfl, (fun y hy => by rw [List.mem_singleton.mp hy]; exact ⟨by decide, by decide, by decide⟩), rfl, fun _ _ => rfl, fun A outer s H E f hr2 => pe_call G4.ok (hr2.mono k4) (by rfl) G4.g G4.kp G4.b .nil (passes_call (takes_of rfl rfl rfl rfl) (fun _ _ _ _ h => h)) (pa_cons pe_str (pa_cons pe_int (pa_cons pe_int (pa_cons pe_int (pa_cons pe_int pa_nil)))))⟩, fun Q G tb0 hQ => ?_⟩
    walk_at "ev"
    exact ⟨_, 1, 1, 1, 0, rfl, ⟨by decide, by decide⟩, ⟨by decide, by decide⟩, ⟨by decide, by decide⟩, ⟨by decide, by decide⟩, ⟨by decide, by decide⟩, tb0, fun _ H' g => ⟨rfl, hQ H' g⟩, fun z => absurd z (by decide)⟩
  · refine ⟨f7, _, fun E H Q => tCall (sp_check_pieces K C Ps) [] E (tCons (tC (.str (Str.ofString "ab"))) (tCons (tLst (tCons (tC (.str (Str.ofString "ab"))) (tCons (tC (.str (Str.ofString ""))) tNil))) (tCons (tC (.int 1)) (tCons (tC (.int 2)) tNil)))) [] H Q, e7.keep _ _ n7 a7, e7.keep _ _ n7' l7, e7.keep _ _ n7'' d7, ⟨rfl, rfl, rfl, (fun y hy => by rw [List.mem_singleton.mp hy]; exact ⟨by decide, by decide, by decide⟩), rfl, fun _ _ => rfl, fun A outer s H E f hr2 => pe_call G5.ok (hr2.mono k5) (by rfl) G5.g G5.kp G5.b .nil (passes_call (takes_of rfl rfl rfl rfl) (fun _ _ _ _ h => h)) (pa_cons pe_str (pa_cons (pe_lst (pa_cons pe_str (pa_cons pe_str pa_nil))) (pa_cons pe_int (pa_cons pe_int pa_nil))))⟩, fun Q G tb0 hQ => ?_⟩
    walk_at "ev"
    refine ⟨by decide, fun p hp => ⟨_, p, [Str.ofString "ab", Str.ofString ""], 1, 2, rfl, by decide, SqL.of upd_same, by decide, by decide, ⟨by decide, by decide⟩, ⟨by decide, by decide⟩, ((Gw.refl tb0).new hp).1, fun _ H' g => ⟨rfl, hQ H' (((Gw.refl tb0).new hp).trans g)⟩, fun z => ?_⟩⟩
    exact absurd rfl (z.2.1 (Str.ofString "") (by simp))
  · refine ⟨f8, _, fun E H Q => tCall (sp_check_pieces K C Ps) [] E (tCons (tC (.str (Str.ofString "abc"))) (tCons (tLst (tCons (tC (.str (Str.ofString "a"))) (tCons (tC (.str (Str.ofString "bc"))) tNil))) (tCons (tC (.int 2)) (tCons (tC (.int 2)) tNil)))) [] H Q, e8.keep _ _ n8 a8, e8.keep _ _ n8' l8, e8.keep _ _ n8'' d8, ⟨rfl, rfl, rfl, (fun y hy => by rw [List.mem_singleton.mp hy]; exact ⟨by decide, by decide, by decide⟩), rfl, fun _ _ => rfl, fun A outer s H E f hr2 => pe_call G5.ok (hr2.mono k5) (by rfl) G5.g G5.kp G5.b .nil (passes_call (takes_of rfl rfl rfl rfl) (fun _ _ _ _ h => h)) (pa_cons pe_str (pa_cons (pe_lst (pa_cons pe_str (pa_cons pe_str pa_nil))) (pa_cons pe_int (pa_cons pe_int pa_nil))))⟩, fun Q G tb0 hQ => ?_⟩
    walk_at "ev"
    refine ⟨by decide, fun p hp => ⟨_, p, [Str.ofString "a", Str.ofString "bc"], 2, 2, rfl, by decide, SqL.of upd_same, by decide, by decide, ⟨by decide, by decide⟩, ⟨by decide, by decide⟩, ((Gw.refl tb0).new hp).1, fun _ H' g => ⟨rfl, hQ H' (((Gw.refl tb0).new hp).trans g)⟩, fun z => ?_⟩⟩
    exact absurd (z.2.2.1 (Str.ofString "a") (by simp)).1 (by decide)
  · refine ⟨f9, _, fun E H Q => tCall (sp_check_pieces K C Ps) [] E (tCons (tC (.str (Str.ofString "abc"))) (tCons (tLst (tCons (tC (.str (Str.ofString "abc"))) tNil)) (tCons (tC (.int 1)) (tCons (tC (.int 2)) tNil)))) [] H Q, e9.keep _ _ n9 a9, e9.keep _ _ n9' l9, e9.keep _ _ n9'' d9, ⟨rfl, rfl, rfl, (fun y hy => by rw [List.mem_singleton.mp hy]; exact ⟨by decide, by decide, by decide⟩), rfl, fun _ _ => rfl, fun A outer s H E f hr2 => pe_call G5.ok (hr2.mono k5) (by rfl) G5.g G5.kp G5.b .nil (passes_call (takes_of rfl rfl rfl rfl) (fun _ _ _ _ h => h)) (pa_cons pe_str (pa_cons (pe_lst (pa_cons pe_str pa_nil)) (pa_cons pe_int (pa_cons pe_int pa_nil))))⟩, fun Q G tb0 hQ => ?_⟩
    walk_at "ev"
    refine ⟨by decide, fun p hp => ⟨_, p, [Str.ofString "abc"], 1, 2, rfl, by decide, SqL.of upd_same, by decide, by decide, ⟨by decide, by decide⟩, ⟨by decide, by decide⟩, ((Gw.refl tb0).new hp).1, fun _ H' g => ⟨rfl, hQ H' (((Gw.refl tb0).new hp).trans g)⟩, fun z => ?_⟩⟩
    exact absurd (z.2.2.2 (Str.ofString "abc") (by simp)) (by decide)
end
end K2

set_option maxRecDepth 100000
set_option maxHeartbeats 4000000
namespace K2
open PySem PySem.Spec PyProof.Rows L2
open XT (pt_chain3)
open SkE (pmk_own1)
local macro_rules | `(tactic| walk_at "ev") => `(tactic| simp only [tSeq, tIfS, tNot, XT.tChain3, rI0, tC, tVar, tRet, tTup, tLst, tCons, tNil, tJs, tFmt, tNext, tTest, tOp, tUn, rI, rU, tCall, tCB, tAnd, tOr, tB, tDrop, tAsg, gName, tAug, tPar, ipI, tBM, rAppend, tSl, rSlS, tPart, tNoPart, tIf, tM1, tAndV, rEq, rNe, L2.start, List.map_cons, List.map_nil, List.length_cons, List.length_nil, Nat.reduceAdd, Nat.reduceSub, Nat.sub_self, List.replicate_zero, List.append_nil, List.replicate_succ, List.cons_append, List.nil_append,
  List.getElem?_cons_zero, List.getElem?_cons_succ, Option.some.injEq, exists_eq_left', exists_eq_left, V.int.injEq, V.str.injEq, V.bl.injEq, V.ref.injEq, List.set_cons_zero, List.set_cons_succ, List.cons.injEq, and_true, true_and, reduceCtorEq, false_and, exists_false, false_or, or_false, exists_and_left, and_assoc, decide_eq_true_eq, Bool.not_eq_true', decide_eq_false_iff_not, Bool.not_false, Bool.not_true, if_true, if_false, Bool.false_eq_true, ↓reduceIte])
open XT (Sm pe_msg)

open LamX (Tabs TabS CodeO ExtN codeO_ne)
section
variable {P : Program} {w : World} {K : PySem.W.Frag} {mg : Str → Option Value} {base : Heap} {C : Addr} {Ps : List Addr}
variable {f c d : Addr} {k : Nat} {A : Around} {outer : List Env} {s : Shared} {H0 HB : Hp} {E : XK}
theorem WrongAt.gw {H H' : Hp} {p : Addr} (h : WrongAt P w K mg base k C Ps H p) (tb : Tb Ps H) (g : Gw Ps H H') : WrongAt P w K mg base k C Ps H' p := by
  obtain ⟨f, L, tl, h1, h2, h3, h4, h5⟩ := h
  exact ⟨f, L, tl, g.2 _ _ (tb.not h1 fun _ z => by cases z) h1, g.2 _ _ (tb.not h2 fun _ z => by cases z) h2, g.2 _ _ (tb.not h3 codeO_ne) h3, h4, h5⟩
theorem law_ret {g : Addr} {fd : FuncData} (Z : Callees P w K mg base C Ps k) (T : Txt K mg C) (G1 : Cal P w K mg base (L2.CX P w) (k + 2) "_law_told" ["what"] (sp__law_told P w K mg base k C) g fd)
    (hr : Room (k + 2) (A.deeper (envOfC "law" (defScope s_law) s.heap.objs.size f (.ref c)))) : ∃ t, PS (LX0 P w K mg base f c A outer s H0 E) (lawS 2) t ∧ ∀ D σ H, PreW P w K mg base k C Ps σ H → (∀ H', D.rt (.bl true) H') → t D σ H := by
  obtain ⟨_, _, _, k2, G2⟩ := Z.told
  obtain ⟨_, _, _, k3, G3⟩ := Z.settled
  have hr0 := hr.mono (show k ≤ k + 2 by omega)
  refine ⟨_, ps_ret (pe_and (pe_cmpR (r := rEqD K) (op_eqK rfl hr0.units) (pe_lc (own := [("pair", 22)]) rfl sc_law.nd (pi_list (pv 21)) (blkOk_by (by show blkC Nlaw (defScope s_law) _ _ = true; decide +kernel)) (fun _ _ _ _ _ => (pg_name (i := 22) sc_law.nd rfl (.inl rfl))) (fun _ _ _ _ _ => (pts_one (pt_cmpR op_ne (pe_call G1.ok hr (by rfl) G1.g G1.kp G1.b .nil passF (pa_cons (pe_ix (r := rIxT K) (ix_tupK rfl) (pv 22) pe_int (fun _ _ => rfl)) pa_nil)) (pe_ix (r := rIxT K) (ix_tupK rfl) (pv 22) pe_int (fun _ _ => rfl)) (nomark _)))) (fun _ _ _ _ _ => (pv 22))) (pe_lst pa_nil) (nomark _))
      (pe_and (pe_cmpR (r := rEqD K) (op_eqK rfl hr0.units) (pe_call G2.ok (hr0.mono k2) (by rfl) G2.g G2.kp G2.b .nil passF (pa_cons pe_str (pa_cons pe_int (pa_cons pe_int (pa_cons pe_int (pa_cons pe_int pa_nil)))))) (pe_tup pa_nil) (nomark _)) (pe_one (pe_cmpR op_eq (pe_call G3.ok (hr0.mono k3) (by rfl) G3.g G3.kp G3.b .nil passF (pa_cons (pe_tup pa_nil) (pa_cons (pe_tup (pa_cons pe_str pa_nil)) pa_nil))) pe_int (nomark _))))), fun D σ H hp hn => ?_⟩
  obtain ⟨a, ps, ⟨z0, z1, z2, z3, z4, z5, z6, z7, z8, z9, z10, z11, z12, z13, z14, z15, z16, z17, z18, z19, z20, z22, rfl⟩, tb, ha, hw⟩ := hp
  walk_at "ev"
  have naP : a ∉ Ps := tb.not ha fun _ z => by cases z
  refine ⟨_, rfl, a, rfl, ⟨_, SqL.of ha⟩, fun D' hD => ?_⟩
  have nD : D' ∉ Ps := tb.none hD
  refine lc_list (xs := ps.map V.ref) (fun i G => Gw Ps H G ∧ G D' = some (.lst [])) ⟨(Gw.refl tb).new hD, upd_same⟩ (fun i G _ hP => SqL.of (hP.1.2 _ _ naP ha)) ?_ ?_
  · rintro i x G e ⟨gi, hG⟩
    rw [List.getElem?_map] at e
    obtain ⟨p, hp2, rfl⟩ := Option.map_eq_some_iff.mp e
    obtain ⟨l, L, tl, h1, h2, h3, h4, h5⟩ := (hw p (List.mem_of_getElem? hp2)).gw tb gi
    refine ⟨by simp [wipe], ?_⟩
    simp only [wipe, List.set_cons_zero, List.set_cons_succ]
    walk_at "ev"
    refine ⟨p, _, 0, _, rfl, rfl, SqT_of h1, rfl, l, L, tl, rfl, h2, h3, h4, h5 _ G gi.1 fun G2 g2 => ?_⟩
    have h6 := g2.2 _ _ (gi.1.not h1 fun _ z => by cases z) h1
    refine ⟨p, _, 1, _, rfl, rfl, SqT_of h6, rfl, rfl, ?_⟩
    rw [if_neg (fun z => z rfl)]
    exact ⟨gi.trans g2, g2.2 _ _ nD hG⟩
  · rintro G ⟨gi, hG⟩
    refine ⟨by decide, fun p hp => ?_⟩
    have nDp : D' ≠ p := fun z => by
      rw [z, hp] at hG
      cases hG
    refine rEq_lI (ns := []) (ms := []) (SqL.of (by rw [upd_ne nDp]; exact hG)) (SqL.of upd_same) ⟨_, rfl, ?_⟩
    rw [if_pos (by decide)]
    have g2 := gi.new (o := .lst []) hp
    have sN : ∀ n : Nat, n ≤ 1000 → Sm (n : Int) := fun n h => ⟨by omega, by omega⟩
    refine ⟨Str.ofString "", 1, 2, 1, 1, rfl, ⟨by decide, by decide⟩, sN 1 (by omega), sN 2 (by omega), sN 1 (by omega), sN 1 (by omega), g2.1, fun z => absurd ⟨by decide, by decide, by decide, by decide⟩ z, fun _ => ?_⟩
    intro G2 q g3 _ hq
    have hq : G2 q = some (.tup (([] : List Str).map V.str)) := hq
    refine ⟨by decide, fun p2 hp2 => ?_⟩
    have nq : q ≠ p2 := fun z => by
      rw [z, hp2] at hq
      cases hq
    refine rEq_tS (ns := []) (ms := []) (fun x hx => nomatch hx) (fun x hx => nomatch hx) (SqT_of (by rw [upd_ne nq]; exact hq)) (SqT_of upd_same) ⟨_, rfl, ?_⟩
    rw [if_pos (by decide)]
    refine ⟨by decide, fun p3 hp3 => ⟨by decide, fun p4 hp4 => ?_⟩⟩
    have n34 : p3 ≠ p4 := (upd_none hp4).2.symm
    refine ⟨p3, p4, [], [Str.ofString "a"], rfl, .inr (SqT_of (by rw [upd_ne n34]; exact upd_same)), .inr (SqT_of upd_same), by decide, by decide, fun i hi => ⟨rfl, ?_⟩⟩
    obtain rfl : i = 0 := Nat.le_zero.mp hi.1
    exact hn _
end
end K2

set_option maxRecDepth 100000
set_option maxHeartbeats 4000000
namespace K2
open PySem PySem.Spec PyProof.Rows L2
open XT (pt_chain3)
open SkE (pmk_own1)
local macro_rules | `(tactic| walk_at "ev") => `(tactic| simp only [tSeq, tIfS, tNot, XT.tChain3, rI0, tC, tVar, tRet, tTup, tLst, tCons, tNil, tJs, tFmt, tNext, tTest, tOp, tUn, rI, rU, tCall, tCB, tAnd, tOr, tB, tDrop, tAsg, gName, tAug, tPar, ipI, tBM, rAppend, tSl, rSlS, tPart, tNoPart, rEq, rNe, L2.start, List.map_cons, List.map_nil, List.length_cons, List.length_nil, Nat.reduceAdd, Nat.reduceSub, Nat.sub_self, List.replicate_zero, List.append_nil, List.replicate_succ, List.cons_append, List.nil_append,
  List.getElem?_cons_zero, List.getElem?_cons_succ, Option.some.injEq, exists_eq_left', exists_eq_left, V.int.injEq, V.str.injEq, V.bl.injEq, V.ref.injEq, List.set_cons_zero, List.set_cons_succ, List.cons.injEq, and_true, true_and, reduceCtorEq, false_and, exists_false, false_or, or_false, exists_and_left, and_assoc, decide_eq_true_eq, Bool.not_eq_true', decide_eq_false_iff_not, Bool.not_false, Bool.not_true, if_true, if_false, Bool.false_eq_true, ↓reduceIte])
open XT (Sm pe_msg)

open LamX (Tabs TabS CodeO ExtN codeO_ne)
section
variable {P : Program} {w : World} {K : PySem.W.Frag} {mg : Str → Option Value} {base : Heap} {C : Addr} {Ps : List Addr}
variable {f c d : Addr} {k : Nat}
def sp_law (K : PySem.W.Frag) (T : List (Addr × Str)) (Ps : List Addr) : Sp := fun vs H Q E => ∃ (a : Addr) (ns : List Int), vs = [.ref a] ∧ SqL K H a (ns.map V.int) ∧ Tabs T H ∧ Tb Ps H ∧ ∀ H', Q (.bl true) H'
theorem body_is : defBody s_law = [lawS 0, lawS 1, lawS 2] := rfl
/-- the name of the law's lambdas -/
def lamQ : Str := (envOfC "law" (defScope s_law) 0 0 (.ref 0)).qual ++ "<lambda>"
theorem ok_law {g pT : Addr} {fd fdl : FuncData} (F : FunC K "law" "law" s_law f fdl c) (Z : Callees P w K mg base C Ps k) (T : Txt K mg C) (N : Nine K mg C) (TB : LamX.TabB base mg c pT) (nP : pT ∉ Ps) (Fg : Fun K "_law_told" "_law_told" s__law_told g fd) (mgg : mg "_law_told" = some (.ref g)) (bd : Binds K fd ["what"] []) :
    FnOk P w K mg base (L2.CX P w) (k + 3) f fdl ["script"] (sp_law K [(pT, lamQ)] Ps) := by
  have G1 : Cal P w K mg base (L2.CX P w) (k + 2) "_law_told" ["what"] (sp__law_told P w K mg base k C) g fd := ⟨ok__law_told Fg N, mgg, Fg.kp, bd⟩
  refine F.okX sc_law (fun vs H Q E h => ?_) (fun A outer s H vs Q E hr h => ?_)
  · obtain ⟨a, ns, rfl, _⟩ := h
    rfl
  · obtain ⟨a, ns, rfl, ha, tab, tb, hq⟩ := h
    obtain ⟨t0, p0, k0⟩ := law_for (f := f) (c := c) (A := A) (outer := outer) (s := s) (H0 := H) (E := E) Z T N TB (q := lamQ) rfl nP Fg mgg bd hr
    obtain ⟨t1, p1, k1⟩ := law_wrong (f := f) (c := c) (A := A) (outer := outer) (s := s) (H0 := H) (E := E) Z TB (q := lamQ) rfl nP
    obtain ⟨t2, p2, k2⟩ := law_ret (f := f) (c := c) (A := A) (outer := outer) (s := s) (H0 := H) (E := E) Z T G1 hr
    refine ⟨_, by rw [body_is]; exact pss_cons p0 (pss_cons p1 (pss_one p2)), ?_⟩
    refine k0 _ _ _ ⟨a, ns, ⟨_, _, _, _, _, _, _, _, _, _, _, _, _, _, _, _, _, _, _, _, _, _, rfl⟩, ha, tab, tb⟩ fun σ1 H1 h1 => ?_
    refine k1 _ _ _ h1 fun σ2 H2 h2 => ?_
    exact k2 _ _ _ h2 hq
end
end K2

set_option maxRecDepth 100000
set_option maxHeartbeats 4000000
namespace K2
open PySem PySem.Spec PyProof.Rows L2
open LamX (Tabs TabS)
def mkD (x : Str) (st : Stmt) : He.DefD := ⟨(x, none), x, x, defArgs st, defBody st, defScope st, [], []⟩
def fnL : List He.DefD := [mkD "check_bounds" s_check_bounds, mkD "even" s_even, mkD "sums" s_sums, mkD "told" s_told, mkD "places_of" s_places_of, mkD "shared_pieces" s_shared_pieces, mkD "fresh_signs" s_fresh_signs, mkD "check_pieces" s_check_pieces, mkD "settled" s_settled,
  mkD "_law_dice" s__law_dice, mkD "_law_roll" s__law_roll, mkD "_law_rounds" s__law_rounds, mkD "_law_told" s__law_told, mkD "_law_text" s__law_text, mkD "law" s_law]
def faL : List He.Fa := [.glo "check_bounds", .glo "even", .glo "sums", .glo "told", .glo "places_of", .glo "shared_pieces", .glo "fresh_signs", .glo "check_pieces", .glo "settled", .glo "_law_dice", .glo "_law_roll", .glo "_law_rounds", .glo "_law_told", .glo "_law_text", .glo "law",
  .glo "BadPath", .glo "BadPiece", .glo "BadRule", .glo "BadPaper", .glo "BadSize", .glo "BadStore", .glo "BadText", .glo "Lost", .glo "NoSuch", .exc "BadSize",
  .exm "BadSize" "BadPath" false, .exm "BadSize" "BadPiece" false, .exm "BadSize" "BadRule" false, .exm "BadSize" "BadPaper" false, .exm "BadSize" "BadSize" true,
  .free "len", .free "range", .free "tuple", .free "sum", .free "any", .free "ord", .free "set", .free "min", .free "max", .free "int", .free "abs", .free "list", .free "dict"]
def tfL : List He.Defn := [("even", none), ("sums", none), ("check_pieces", none), ("law", none)]
theorem fun_of {K : PySem.W.Frag} {x : Str} {st : Stmt} {f : Addr} {fd : FuncData} (F : FunD K x x (defArgs st) (defBody st) (defScope st) [] [] f fd) : Fun K x x st f fd := by
  obtain ⟨oc, od, dV, kV, doc, pm, an, cdv, ct, osl, e, lk, hcd, hD, hK⟩ := F.ex
  rcases hD with ⟨_, rfl⟩ | ⟨e, _⟩
  · exact ⟨⟨oc, od, kV, doc, pm, an, cdv, ct, osl, e, lk, hcd⟩, F.kp⟩
  · exact absurd rfl e
theorem funC_of {K : PySem.W.Frag} {x : Str} {st : Stmt} {fd : FuncData} (F : FunD K x x (defArgs st) (defBody st) (defScope st) [] [] (He.ga K x) fd) : FunC K x x st (He.ga K x) fd (He.codeOf K (x, none)) := by
  obtain ⟨oc, od, dV, kV, doc, pm, an, cdv, ct, osl, e, lk, hcd, hD, hK⟩ := F.ex
  obtain ⟨c0, rfl⟩ := He.codeIn_ref hcd
  rcases hD with ⟨_, rfl⟩ | ⟨e, _⟩
  · have ec : He.codeOf K (x, none) = c0 := He.codeOf_eq (p := (x, none)) lk (by rw [e])
    rw [ec]
    exact ⟨⟨oc, od, kV, doc, pm, an, ct, osl, e, lk, hcd⟩, F.kp⟩
  · exact absurd rfl e
/-- the law's own table is none of the others -/
def exL (K : PySem.W.Frag) : Bool := !([(He.cT K ("even", none)).2, (He.cT K ("sums", none)).2, (He.cT K ("check_pieces", none)).2].contains (He.cT K ("law", none)).2)
theorem triples0 : TriplesOk ([] : List Value) := by
  first | exact .nil | exact trivial | simp [TriplesOk]
theorem facts {l : PySem.W.OpenLaw} {w : World} {K : PySem.W.Frag} {h : Heap} {mg : Str → Option Value} {fa : Addr} {n : Nat} (X : K.In h) (G : h.Ns mainGlobals mg) (hfa : mg ("law" : Str) = some (.ref fa)) (c : He.SaysX faL fnL [] tfL exL w h K) :
    LamX.LawAtS l w K (L2.CX l.prog w) 12 n "script" mg fa h := by
  have c0 := c.t.d
  obtain ⟨d0, F0⟩ := c0.def_ 0 (d := mkD "check_bounds" s_check_bounds) rfl
  obtain ⟨d1, F1⟩ := c0.def_ 1 (d := mkD "even" s_even) rfl
  obtain ⟨d2, F2⟩ := c0.def_ 2 (d := mkD "sums" s_sums) rfl
  obtain ⟨d3, F3⟩ := c0.def_ 3 (d := mkD "told" s_told) rfl
  obtain ⟨d4, F4⟩ := c0.def_ 4 (d := mkD "places_of" s_places_of) rfl
  obtain ⟨d5, F5⟩ := c0.def_ 5 (d := mkD "shared_pieces" s_shared_pieces) rfl
  obtain ⟨d6, F6⟩ := c0.def_ 6 (d := mkD "fresh_signs" s_fresh_signs) rfl
  obtain ⟨d7, F7⟩ := c0.def_ 7 (d := mkD "check_pieces" s_check_pieces) rfl
  obtain ⟨d8, F8⟩ := c0.def_ 8 (d := mkD "settled" s_settled) rfl
  obtain ⟨d9, F9⟩ := c0.def_ 9 (d := mkD "_law_dice" s__law_dice) rfl
  obtain ⟨d10, F10⟩ := c0.def_ 10 (d := mkD "_law_roll" s__law_roll) rfl
  obtain ⟨d11, F11⟩ := c0.def_ 11 (d := mkD "_law_rounds" s__law_rounds) rfl
  obtain ⟨d12, F12⟩ := c0.def_ 12 (d := mkD "_law_told" s__law_told) rfl
  obtain ⟨d13, F13⟩ := c0.def_ 13 (d := mkD "_law_text" s__law_text) rfl
  obtain ⟨d14, F14⟩ := c0.def_ 14 (d := mkD "law" s_law) rfl
  have m0 := He.glo_ok X G (c0.fact 0 (f := .glo "check_bounds") rfl)
  have m1 := He.glo_ok X G (c0.fact 1 (f := .glo "even") rfl)
  have m2 := He.glo_ok X G (c0.fact 2 (f := .glo "sums") rfl)
  have m3 := He.glo_ok X G (c0.fact 3 (f := .glo "told") rfl)
  have m4 := He.glo_ok X G (c0.fact 4 (f := .glo "places_of") rfl)
  have m5 := He.glo_ok X G (c0.fact 5 (f := .glo "shared_pieces") rfl)
  have m6 := He.glo_ok X G (c0.fact 6 (f := .glo "fresh_signs") rfl)
  have m7 := He.glo_ok X G (c0.fact 7 (f := .glo "check_pieces") rfl)
  have m8 := He.glo_ok X G (c0.fact 8 (f := .glo "settled") rfl)
  have m9 := He.glo_ok X G (c0.fact 9 (f := .glo "_law_dice") rfl)
  have m10 := He.glo_ok X G (c0.fact 10 (f := .glo "_law_roll") rfl)
  have m11 := He.glo_ok X G (c0.fact 11 (f := .glo "_law_rounds") rfl)
  have m12 := He.glo_ok X G (c0.fact 12 (f := .glo "_law_told") rfl)
  have m13 := He.glo_ok X G (c0.fact 13 (f := .glo "_law_text") rfl)
  have m14 := He.glo_ok X G (c0.fact 14 (f := .glo "law") rfl)
  have m15 := He.glo_ok X G (c0.fact 15 (f := .glo "BadPath") rfl)
  have m16 := He.glo_ok X G (c0.fact 16 (f := .glo "BadPiece") rfl)
  have m17 := He.glo_ok X G (c0.fact 17 (f := .glo "BadRule") rfl)
  have m18 := He.glo_ok X G (c0.fact 18 (f := .glo "BadPaper") rfl)
  have m19 := He.glo_ok X G (c0.fact 19 (f := .glo "BadSize") rfl)
  have m20 := He.glo_ok X G (c0.fact 20 (f := .glo "BadStore") rfl)
  have m21 := He.glo_ok X G (c0.fact 21 (f := .glo "BadText") rfl)
  have m22 := He.glo_ok X G (c0.fact 22 (f := .glo "Lost") rfl)
  have m23 := He.glo_ok X G (c0.fact 23 (f := .glo "NoSuch") rfl)
  obtain ⟨x1, x2, x3, x4⟩ := He.exc_ok (c0.fact 24 (f := .exc "BadSize") rfl)
  have y0 := He.exm_ok (c0.fact 25 (f := .exm "BadSize" "BadPath" false) rfl)
  have y1 := He.exm_ok (c0.fact 26 (f := .exm "BadSize" "BadPiece" false) rfl)
  have y2 := He.exm_ok (c0.fact 27 (f := .exm "BadSize" "BadRule" false) rfl)
  have y3 := He.exm_ok (c0.fact 28 (f := .exm "BadSize" "BadPaper" false) rfl)
  have y4 := He.exm_ok (c0.fact 29 (f := .exm "BadSize" "BadSize" true) rfl)
  have z_len := He.free_ok X G (c0.fact 30 (f := .free "len") rfl)
  have z_range := He.free_ok X G (c0.fact 31 (f := .free "range") rfl)
  have z_tuple := He.free_ok X G (c0.fact 32 (f := .free "tuple") rfl)
  have z_sum := He.free_ok X G (c0.fact 33 (f := .free "sum") rfl)
  have z_any := He.free_ok X G (c0.fact 34 (f := .free "any") rfl)
  have z_ord := He.free_ok X G (c0.fact 35 (f := .free "ord") rfl)
  have z_set := He.free_ok X G (c0.fact 36 (f := .free "set") rfl)
  have z_min := He.free_ok X G (c0.fact 37 (f := .free "min") rfl)
  have z_max := He.free_ok X G (c0.fact 38 (f := .free "max") rfl)
  have z_int := He.free_ok X G (c0.fact 39 (f := .free "int") rfl)
  have z_abs := He.free_ok X G (c0.fact 40 (f := .free "abs") rfl)
  have z_list := He.free_ok X G (c0.fact 41 (f := .free "list") rfl)
  have z_dict := He.free_ok X G (c0.fact 42 (f := .free "dict") rfl)
  have e := hfa.symm.trans m14
  cases e
  have T : Txt K mg (He.ga K "BadSize") := ⟨x1, m19, x2, x3, x4, z_len, z_range, z_tuple, z_sum, z_any, z_ord, z_set, z_min, z_max, z_int, z_abs, z_list, z_dict⟩
  have N : Nine K mg (He.ga K "BadSize") := ⟨⟨_, m15, y0⟩, ⟨_, m16, y1⟩, ⟨_, m17, y2⟩, ⟨_, m18, y3⟩, ⟨m19, y4⟩, ⟨_, m20⟩, ⟨_, m21⟩, ⟨_, m22⟩, ⟨_, m23⟩⟩
  have f0 := fun_of (x := "check_bounds") (st := s_check_bounds) F0
  have b0 := f0.binds (ps := ["least", "most", "window"]) fun _ _ _ _ _ _ us hl => match us, hl with | [_, _, _], _ => rfl
  have f1 := funC_of (x := "even") (st := s_even) F1
  have b1 := f1.binds (ps := ["text", "size"]) fun _ _ _ _ _ _ us hl => match us, hl with | [_, _], _ => rfl
  have f2 := funC_of (x := "sums") (st := s_sums) F2
  have b2 := f2.binds (ps := ["text", "window"]) fun _ _ _ _ _ _ us hl => match us, hl with | [_, _], _ => rfl
  have f3 := fun_of (x := "told") (st := s_told) F3
  have b3 := f3.binds (ps := ["text", "least", "most", "window", "by"]) fun _ _ _ _ _ _ us hl => match us, hl with | [_, _, _, _, _], _ => rfl
  have f4 := fun_of (x := "places_of") (st := s_places_of) F4
  have b4 := f4.binds (ps := ["pieces"]) fun _ _ _ _ _ _ us hl => match us, hl with | [_], _ => rfl
  have f5 := fun_of (x := "shared_pieces") (st := s_shared_pieces) F5
  have b5 := f5.binds (ps := ["one", "other"]) fun _ _ _ _ _ _ us hl => match us, hl with | [_, _], _ => rfl
  have f6 := fun_of (x := "fresh_signs") (st := s_fresh_signs) F6
  have b6 := f6.binds (ps := ["one", "other"]) fun _ _ _ _ _ _ us hl => match us, hl with | [_, _], _ => rfl
  have f7 := funC_of (x := "check_pieces") (st := s_check_pieces) F7
  have b7 := f7.binds (ps := ["text", "pieces", "least", "most"]) fun _ _ _ _ _ _ us hl => match us, hl with | [_, _, _, _], _ => rfl
  have f8 := fun_of (x := "settled") (st := s_settled) F8
  have b8 := f8.binds (ps := ["one", "other"]) fun _ _ _ _ _ _ us hl => match us, hl with | [_, _], _ => rfl
  have f9 := fun_of (x := "_law_dice") (st := s__law_dice) F9
  have b9 := f9.binds (ps := ["cell"]) fun _ _ _ _ _ _ us hl => match us, hl with | [_], _ => rfl
  have f10 := fun_of (x := "_law_roll") (st := s__law_roll) F10
  have b10 := f10.binds (ps := ["dice", "many"]) fun _ _ _ _ _ _ us hl => match us, hl with | [_, _], _ => rfl
  have f11 := fun_of (x := "_law_rounds") (st := s__law_rounds) F11
  have b11 := f11.binds (ps := ["script", "most"]) fun _ _ _ _ _ _ us hl => match us, hl with | [_, _], _ => rfl
  have f12 := fun_of (x := "_law_told") (st := s__law_told) F12
  have b12 := f12.binds (ps := ["what"]) fun _ _ _ _ _ _ us hl => match us, hl with | [_], _ => rfl
  have f13 := fun_of (x := "_law_text") (st := s__law_text) F13
  have b13 := f13.binds (ps := ["dice", "most"]) fun _ _ _ _ _ _ us hl => match us, hl with | [_, _], _ => rfl
  have f14 := funC_of (x := "law") (st := s_law) F14
  have b14 := f14.binds (ps := ["script"]) fun _ _ _ _ _ _ us hl => match us, hl with | [_], _ => rfl
  have nP : (He.cT K ("law", none)).2 ∉ [(He.cT K ("even", none)).2, (He.cT K ("sums", none)).2, (He.cT K ("check_pieces", none)).2] := fun z => by
    have q := c.more
    unfold exL at q
    rw [List.contains_iff_mem.mpr z] at q
    cases q
  refine ⟨d14, tfL.map (He.cT K), sp_law K [((He.cT K ("law", none)).2, lamQ)] [(He.cT K ("even", none)).2, (He.cT K ("sums", none)).2, (He.cT K ("check_pieces", none)).2], fun p hp => ?_, fun p hp => ?_, fun p hp => ?_, fun s u => ?_, fun H a ns _ _ hT hS => ?_, fun base KB GB TB => ?_⟩
  · obtain ⟨q, hq, rfl⟩ := List.mem_map.mp hp
    exact c.empty q hq
  · obtain ⟨q, hq, rfl⟩ := List.mem_map.mp hp
    exact c.out q hq
  · obtain ⟨q, hq, rfl⟩ := List.mem_map.mp hp
    exact PySem.W.codeHd_of_K X (c.hd q hq)
  · exact FunD.bindsA (ps := ["script"]) F14 (fun _ _ _ _ _ _ us hl => match us, hl with | [_], _ => rfl) s [u] rfl
  · have t1 := hT (He.cT K ("even", none)) (List.mem_map.mpr ⟨_, by simp [tfL], rfl⟩)
    have t2 := hT (He.cT K ("sums", none)) (List.mem_map.mpr ⟨_, by simp [tfL], rfl⟩)
    have t3 := hT (He.cT K ("check_pieces", none)) (List.mem_map.mpr ⟨_, by simp [tfL], rfl⟩)
    have t4 := hT (He.cT K ("law", none)) (List.mem_map.mpr ⟨_, by simp [tfL], rfl⟩)
    refine ⟨a, ns, rfl, hS, fun p hp => ?_, fun p hp => ?_, fun _ => rfl⟩
    · rw [List.mem_singleton.mp hp]
      exact ⟨#[], t4, triples0, fun pos cv hc => by cases hc⟩
    · simp only [List.mem_cons, List.not_mem_nil, or_false] at hp
      rcases hp with rfl | rfl | rfl
      · exact ⟨#[], t1, triples0⟩
      · exact ⟨#[], t2, triples0⟩
      · exact ⟨#[], t3, triples0⟩
  · have B1 := TB (He.cT K ("even", none)) (List.mem_map.mpr ⟨_, by simp [tfL], rfl⟩)
    have B2 := TB (He.cT K ("sums", none)) (List.mem_map.mpr ⟨_, by simp [tfL], rfl⟩)
    have B3 := TB (He.cT K ("check_pieces", none)) (List.mem_map.mpr ⟨_, by simp [tfL], rfl⟩)
    have B4 := TB (He.cT K ("law", none)) (List.mem_map.mpr ⟨_, by simp [tfL], rfl⟩)
    have g (b : Addr × Addr) (B : LamX.TabB base mg b.1 b.2) : GxR.TabB base mg b.1 b.2 := ⟨B.code, B.bm, B.gP⟩
    have Z : Callees l.prog w K mg base (He.ga K "BadSize") [(He.cT K ("even", none)).2, (He.cT K ("sums", none)).2, (He.cT K ("check_pieces", none)).2] 9 := by
      have q0 : Cal l.prog w K mg base (L2.CX l.prog w) 1 "check_bounds" ["least", "most", "window"] (sp_check_bounds (He.ga K "BadSize")) _ _ := ⟨ok_check_bounds (k := 0) f0 T, m0, f0.kp, b0⟩
      have q2 : Cal l.prog w K mg base (L2.CX l.prog w) 8 "sums" ["text", "window"] (sp_sums (He.ga K "BadSize") [(He.cT K ("even", none)).2, (He.cT K ("sums", none)).2, (He.cT K ("check_pieces", none)).2]) _ _ := ⟨ok_sums (k := 0) f2 (g _ B2) (by simp) T, m2, f2.kp, b2⟩
      have q9 : Cal l.prog w K mg base (L2.CX l.prog w) 1 "_law_dice" ["cell"] sp__law_dice _ _ := ⟨ok__law_dice (k := 0) f9 T, m9, f9.kp, b9⟩
      have q10 : Cal l.prog w K mg base (L2.CX l.prog w) 1 "_law_roll" ["dice", "many"] sp__law_roll _ _ := ⟨ok__law_roll (k := 0) f10 T, m10, f10.kp, b10⟩
      exact ⟨⟨_, _, 1, by omega, q0⟩, ⟨_, _, 8, by omega, ⟨ok_even (k := 0) f1 (g _ B1) (by simp) T, m1, f1.kp, b1⟩⟩, ⟨_, _, 8, by omega, q2⟩, ⟨_, _, 9, by omega, ⟨ok_told (k := 8) f3 T q0 q2 (by omega) (by omega), m3, f3.kp, b3⟩⟩, ⟨_, _, 1, by omega, ⟨ok_places_of (k := 0) f4 T, m4, f4.kp, b4⟩⟩, ⟨_, _, 1, by omega, ⟨ok_shared_pieces (k := 0) f5 T, m5, f5.kp, b5⟩⟩,
        ⟨_, _, 1, by omega, ⟨ok_fresh_signs (k := 0) f6 T, m6, f6.kp, b6⟩⟩, ⟨_, _, 8, by omega, ⟨ok_check_pieces (k := 0) f7 (g _ B3) (by simp) T, m7, f7.kp, b7⟩⟩, ⟨_, _, 1, by omega, ⟨ok_settled (k := 0) f8 T, m8, f8.kp, b8⟩⟩, ⟨_, _, 1, by omega, q10⟩, ⟨_, _, 2, by omega, ⟨ok__law_rounds (k := 1) f11 T q9 (by omega), m11, f11.kp, b11⟩⟩, ⟨_, _, 2, by omega, ⟨ok__law_text (k := 1) f13 T q10 (by omega), m13, f13.kp, b13⟩⟩⟩
    exact ok_law (k := 9) f14 Z T N B4 nP f12 m12 b12
end K2

set_option maxRecDepth 100000
set_option maxHeartbeats 0
namespace K2
open PySem PySem.Spec PyProof.Rows L2
abbrev R02 : PySem.W.OpenRow := PySem.W.OpenLaw.row PySem.Challenge.rw_keepwright_k02_texts_cut_in_pieces
abbrev hk02 : PySem.W.Hook := He.hookX 4 faL fnL [] tfL exL
def ob02 (s : PySem.W.SharedT) : He.AlX := He.obsX 4 faL fnL [] tfL exL (HandSHeadRun.getT s)
theorem ob02_eq (s : PySem.W.SharedT) : ob02 s = hk02.obs s.abs := He.obsX_eq (HandSHeadRun.getT_eq s)
def loose02 : List Str := ["KeepFault", "BadPath", "BadPiece", "BadRule", "BadPaper", "BadSize", "BadStore", "BadText", "Lost", "NoSuch", "check_bounds", "even", "sums", "told", "places_of", "shared_pieces", "fresh_signs", "check_pieces", "settled", "_law_dice", "_law_roll", "_law_rounds", "_law_told", "_law_text"]
theorem run02 (w : World) : HandSHeadRun.RunEq R02 (PySem.W.view R02.prog [27]) hk02 ob02 4000 ["KeepFault", "BadPath", "BadPiece", "BadRule", "BadPaper", "BadSize", "BadStore", "BadText", "Lost", "NoSuch", "check_bounds", "even", "sums", "told", "places_of", "shared_pieces", "fresh_signs", "check_pieces", "settled", "_law_dice", "_law_roll", "_law_rounds", "_law_told", "_law_text"] w := by
  intro os
  kernel_rfl
end K2

open PySem PySem.W PySem.Calls PyProof.Rows
set_option maxRecDepth 100000
set_option maxHeartbeats 0
theorem PySem.Challenge.cw_keepwright_k02_texts_cut_in_pieces_holds : PySem.Challenge.rw_keepwright_k02_texts_cut_in_pieces.Holds := by
  w_on; o_law
  refine HandSHeadRun.head_any (r := OpenLaw.row PySem.Challenge.rw_keepwright_k02_texts_cut_in_pieces) (q := view (OpenLaw.row PySem.Challenge.rw_keepwright_k02_texts_cut_in_pieces).prog [27]) (H := K2.hk02) (ob := K2.ob02) (M := 4000)
    (loose := ["KeepFault", "BadPath", "BadPiece", "BadRule", "BadPaper", "BadSize", "BadStore", "BadText", "Lost", "NoSuch", "check_bounds", "even", "sums", "told", "places_of", "shared_pieces", "fresh_signs", "check_pieces", "settled", "_law_dice", "_law_roll", "_law_rounds", "_law_told", "_law_text"])
    (d := HandSHeadRun.topDef (OpenLaw.row PySem.Challenge.rw_keepwright_k02_texts_cut_in_pieces).prog 27) (kwd := []) K2.ob02_eq
    (by kernel_rfl) (fun s => by kernel_rfl) K2.run02 (by kernel_rfl) (by kernel_rfl) (by kernel_rfl) (by rfl) (by first | assumption | decide +kernel) (by decide +kernel) ⟨rfl, rfl, rfl, rfl, rfl, by decide +kernel⟩ ?hw ?hc
  case hw => w_witness2
  case hc =>
    refine LamX.walk_ofTsE (l := PySem.Challenge.rw_keepwright_k02_texts_cut_in_pieces) (n := 63) (k := 12) (x := "script") (CX := fun w => L2.CX (PySem.Challenge.rw_keepwright_k02_texts_cut_in_pieces).prog w) rfl (by decide) (by kernel_rfl) ⟨rfl, by decide, by decide⟩ ?F (fun _ _ _ _ _ z => ?_)
    · intro w mg fa h Y G hmg0
      obtain ⟨K, KX, c⟩ := Y
      have hmg : mg ("law" : PySem.Str) = some (.ref fa) := by
        have e : (HandSHeadRun.topDef (OpenLaw.row PySem.Challenge.rw_keepwright_k02_texts_cut_in_pieces).prog 27).name = ("law" : PySem.Str) := by kernel_rfl
        rw [← e]
        exact hmg0
      exact ⟨K, KX, K2.facts KX G hmg c⟩
    · obtain ⟨_, _, _, _, _, _, _, _, _, _, _, _, hE⟩ := z
      exact hE.elim
